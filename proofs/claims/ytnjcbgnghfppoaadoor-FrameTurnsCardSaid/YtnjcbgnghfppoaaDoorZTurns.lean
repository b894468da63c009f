import Derived.Test.YtnjcbgnghfppoaaDoorGSc
import Derived.Test.YtnjcbgnghfppoaaDoorGS
import Derived.Test.YtnjcbgnghfppoaaDoorGFa
import Derived.Test.YtnjcbgnghfppoaaDoorGRe
import Derived.Test.YtnjcbgnghfppoaaDoorGH
import Derived.Test.YtnjcbgnghfppoaaDoorGO
import Derived.Test.YtnjcbgnghfppoaaDoorGKb
import Derived.Test.YtnjcbgnghfppoaaDoorGF
import Derived.Test.YtnjcbgnghfppoaaDoorGQ

/- FrameTurns: a rotation keeps its center and the distances from it within 2.
   Conditions: the listed table lies as the program's own text lays it (the card ties it); every input. -/
set_option linter.unusedVariables false
set_option linter.unusedSimpArgs false
namespace Go.Proofs.YtnjcbgnghfppoaaDoor
open Go.ChangeShapes Go.WideShapes Go.ChangeAt Go.RowKit

set_option maxRecDepth 100000 in
set_option maxHeartbeats 8000000 in
section
variable {ops : Array Oper} {rest : List Oper} {dst : Option Tmp} {ty : TypeId} {pos : String} {after : Array Edge} {a : Act} {Q : Act → Prop} {C : World → Prop} {P : Nat} {f : Fm.F} {gd : Option (Nat × Bool)}
theorem q_ldt (x : Tmp) (hw : Region.wanted ⟨dst, .load FT (.tmp x), ty, pos, after, gd⟩ (yielded ops a.tmps) = true) (hx : a.eval (.tmp x) = .pointer (some ⟨P, 0, none⟩)) (X : ∀ w, C w → Bx w P (frc f) FT) (h : wpQuiet Tryd.prog ops C Q rest (a.put dst (.agg (frc f)))) :
    wpQuiet Tryd.prog ops C Q (⟨dst, .load FT (.tmp x), ty, pos, after, gd⟩ :: rest) a := by
  refine wpQuiet_step fun K hK => ?_
  rw [if_pos hw]
  refine ⟨_, fun w hC => ?_, hK _ h⟩
  unfold Oper.quietAt execOp
  simp only [hx, Sem.run_bind, run_load_fr w P f (X w hC), Result.andThen_ok, Sem.run_pure]
  exact ⟨rfl, rfl⟩
end
set_option maxRecDepth 100000 in
set_option maxHeartbeats 8000000 in
theorem walk_frameTurns (v1 : Value) (z1 : List Int) (v2 : Value) (z2 : List Int) (w : World) (h1 : IntsB w.heap.size w v1 z1) (h2 : IntsB w.heap.size w v2 z2) (T : Tc w) : Calls Tryd.prog 8 #[v1, v2] w fun e w' => e = .returned (.bool true) ∧ Below w.heap.size w w' := by
  have AW := Lib.hid (fun (w' : World) (q : Qw w w') => awake12 w' (T.kept q))
  cases k1 : decide (z1.length ≤ 120)
  · have L1 := Lib.hid (fun (w' : World) (q : Qw w w') => lightN h1 q k1)
    clear k1 h1 h2 T
    go_enter Tryd.func8, Tryd.ntmps8
    go_wp2_with (first | (go_at_call 11; ((with_reducible refine (L1.out _ (Qw.refl w)).mono ?_); rintro e w' ⟨rfl, rfl⟩)) | (go_at_call 12; ((with_reducible refine (AW.out _ (Qw.refl w)).mono ?_); rintro e w9 ⟨rfl, q⟩; have Q9 := Lib.hid q; clear q)))
    go_ret
    exact ⟨rfl, Q9.out⟩
  cases k2 : decide (z2.length ≤ 120)
  · have L1 := Lib.hid (fun (w' : World) (q : Qw w w') => lightN h1 q k1)
    have L2 := Lib.hid (fun (w' : World) (q : Qw w w') => lightN h2 q k2)
    clear k1 k2 h1 h2 T
    go_enter Tryd.func8, Tryd.ntmps8
    go_wp2_with (first | (go_at_call 11; ((with_reducible refine (L1.out _ (Qw.refl w)).mono ?_); rintro e w' ⟨rfl, rfl⟩)) | (go_at_call 11; ((with_reducible refine (L2.out _ (Qw.refl w)).mono ?_); rintro e w' ⟨rfl, rfl⟩)) | (go_at_call 12; ((with_reducible refine (AW.out _ (Qw.refl w)).mono ?_); rintro e w9 ⟨rfl, q⟩; have Q9 := Lib.hid q; clear q)))
    go_ret
    exact ⟨rfl, Q9.out⟩
  have L1 := Lib.hid (fun (w' : World) (q : Qw w w') => lightN h1 q k1)
  have L2 := Lib.hid (fun (w' : World) (q : Qw w w') => lightN h2 q k2)
  have H1 := Lib.hid h1
  have H2 := Lib.hid h2
  have TK := Lib.hid (fun (w' : World) (q : Qw w w') => T.kept q)
  clear k1 k2 h1 h2 T
  go_enter Tryd.func8, Tryd.ntmps8
  go_upto_region 3 with (first | (go_at_call 11; ((with_reducible refine (L1.out _ (Qw.refl w)).mono ?_); rintro e w' ⟨rfl, rfl⟩)) | (go_at_call 11; ((with_reducible refine (L2.out _ (Qw.refl w)).mono ?_); rintro e w' ⟨rfl, rfl⟩)))
  go_upto_region 4 with (first | (go_at_call 14; ((with_reducible refine (newN H1.out (Qw.refl w)).mono ?_); rintro e w1 ⟨rfl, t, q⟩; have T1 := Lib.hid t; have Q1 := Lib.hid q; clear t q)) | (go_at_call 13; ((with_reducible refine (frameN T1.out Q1.out (Nat.le_refl _)).mono ?_); rintro e w2 ⟨⟨f, rfl, hg⟩, q⟩; have G2 := Lib.hid hg; have Q2 := Lib.hid q; clear hg q)) | (refine al_fr ?_; intro w3 P hp X q; have X3 := Lib.hid X; have Q3 := Lib.hid q; clear X q) | (refine st_fr2 5 26 rfl rfl X3.out ?_))
  refine code_of (fun w' => Bx w' P (frc f) FT ∧ Qw w w') ⟨X3.out.srS, (Qw.trans Q2.out Q3.out).sr' (Nat.le_trans Q2.out.size hp) _⟩ ?_
  clear L1 L2 H1 T1 Q1 Q2 X3 Q3 hp
  rintro w4 ⟨F, q⟩
  have FX := Lib.hid (fun (w' : World) (q : Qw w4 w') => F.kept q)
  have Q4 := Lib.hid q
  clear F q
  cases ht : f.t
  · have c26 := (FX.out _ (Qw.refl w4)).cell' 26 (.bool false) (at_t ht)
    clear FX ht
    go_wp2_with (go_at_call 12; ((with_reducible refine (AW.out _ Q4.out).mono ?_); rintro e w9 ⟨rfl, q⟩; have Q9 := Lib.hid q; clear q))
    go_ret
    exact ⟨rfl, Qw.trans Q4.out Q9.out⟩
  have gx := G2.out.ex
  have gy := G2.out.ey
  have gz := G2.out.ez
  have oo := G2.out.o
  have md := G2.out.mid ht
  have tc := G2.out.to2 (x := f.ex) (y := f.ey) (z := f.ez) (by omega) (by omega) (by omega)
  have TC : Hid (∀ w' : World, Qw w w' → Calls Tryd.prog 20 #[.agg (frc f), .agg #[.int .i64 f.ex, .int .i64 f.ey, .int .i64 f.ez]] w' fun e w'' => e = .returned (.tuple #[.agg #[.int .i64 (f.ex + Fm.ox f), .int .i64 (f.ey + Fm.oy f), .int .i64 (f.ez + Fm.oz f)], .int .i64 0]) ∧ Qw w' w'') := Lib.hid (fun w' q => by have := fmToAny f G2.out f.ex f.ey f.ez (by omega) (by omega) (by omega) (by omega) (by omega) (by omega) w' (TK.out _ q); rwa [tc.1, tc.2.1, tc.2.1, tc.2.1, md.1, md.2.1, md.2.2] at this)
  have TP : Hid (∀ x y z : Int, (-100000 ≤ x ∧ x ≤ 100000) → (-100000 ≤ y ∧ y ≤ 100000) → (-100000 ≤ z ∧ z ≤ 100000) → ∀ w' : World, Qw w w' → Calls Tryd.prog 20 #[.agg (frc f), .agg #[.int .i64 (f.ex + x), .int .i64 (f.ey + y), .int .i64 (f.ez + z)]] w' fun e w'' => e = .returned (.tuple #[.agg #[.int .i64 (Fm.mx f (f.ex + x) (f.ey + y) (f.ez + z)), .int .i64 (Fm.my f (f.ex + x) (f.ey + y) (f.ez + z)), .int .i64 (Fm.mz f (f.ex + x) (f.ey + y) (f.ez + z))], .int .i64 0]) ∧ Qw w' w'') := Lib.hid (fun x y z hx hy hz w' q => by
    have to2 := G2.out.to2 (x := f.ex + x) (y := f.ey + y) (z := f.ez + z) (by omega) (by omega) (by omega)
    have := fmToAny f G2.out (f.ex + x) (f.ey + y) (f.ez + z) (by omega) (by omega) (by omega) (by omega) (by omega) (by omega) w' (TK.out _ q); rwa [to2.1, to2.2.1, to2.2.1, to2.2.1] at this)
  have TB : Hid (∀ x y z : Int, (-100000 ≤ x ∧ x ≤ 100000) → (-100000 ≤ y ∧ y ≤ 100000) → (-100000 ≤ z ∧ z ≤ 100000) → (-500000 ≤ Fm.mx f (f.ex + x) (f.ey + y) (f.ez + z) ∧ Fm.mx f (f.ex + x) (f.ey + y) (f.ez + z) ≤ 500000) ∧ (-500000 ≤ Fm.my f (f.ex + x) (f.ey + y) (f.ez + z) ∧ Fm.my f (f.ex + x) (f.ey + y) (f.ez + z) ≤ 500000) ∧ (-500000 ≤ Fm.mz f (f.ex + x) (f.ey + y) (f.ez + z) ∧ Fm.mz f (f.ex + x) (f.ey + y) (f.ez + z) ≤ 500000)) := Lib.hid (fun x y z hx hy hz => by
    have t2 := G2.out.t2 (x := f.ex + x) (y := f.ey + y) (z := f.ez + z) (by omega) (by omega) (by omega) f.a
    unfold Fm.mx Fm.my Fm.mz
    omega)
  have OR := Lib.hid (fun w' => fmOrigin f G2.out w')
  have HA := Lib.hid (fun w' => vr_add f.ex f.ey f.ez (Fm.ox f) (Fm.oy f) (Fm.oz f) (by omega) (by omega) (by omega) (by omega) (by omega) (by omega) (by omega) (by omega) (by omega) (by omega) (by omega) (by omega) w')
  have LE := Lib.hid (fun (x y z A B C : Int) hx hy hz hA hB hC => G2.out.len ht (x := x) (y := y) (z := z) (A := A) (B := B) (C := C) hx hy hz hA hB hC)
  have hc0 : -150000 ≤ f.ex + Fm.ox f ∧ f.ex + Fm.ox f ≤ 150000 := by omega
  have hc1 : -150000 ≤ f.ey + Fm.oy f ∧ f.ey + Fm.oy f ≤ 150000 := by omega
  have hc2 : -150000 ≤ f.ez + Fm.oz f ∧ f.ez + Fm.oz f ≤ 150000 := by omega
  have c26 := (FX.out _ (Qw.refl w4)).cell' 26 (.bool true) (at_t ht)
  have c28 := (FX.out _ (Qw.refl w4)).cell' 28 (.int .i64 f.ex) rfl
  have c29 := (FX.out _ (Qw.refl w4)).cell' 29 (.int .i64 f.ey) rfl
  have c30 := (FX.out _ (Qw.refl w4)).cell' 30 (.int .i64 f.ez) rfl
  clear tc md oo TK ht
  generalize f.ex + Fm.ox f = c0 at *
  generalize f.ey + Fm.oy f = c1 at *
  generalize f.ez + Fm.oz f = c2 at *
  go_upto_region 7 with (first | (refine ld_fr 5 rfl (FX.out _ (Qw.refl w4)) ?_) | (go_at_call 20; ((with_reducible refine (TC.out _ Q4.out).mono ?_); rintro e w8 ⟨rfl, q⟩; have Q8 := Lib.hid q; clear q)))
  refine code_of (fun w' => Bx w' w8.heap.size #[.int .i64 c0, .int .i64 c1, .int .i64 c2] 23 ∧ Qw w4 w') ⟨Bx.new _ _ _, Qw.al Q8.out _⟩ ?_
  clear c26 c28 c29 c30 Q8 TC
  generalize w8.heap.size = M at *
  rintro w9 ⟨MM, q⟩
  have MX := Lib.hid (fun (w' : World) (q : Qw w9 w') => MM.kept q)
  have F9 := Lib.hid (fun (w' : World) (q' : Qw w9 w') => FX.out w' (Qw.trans q q'))
  have Q9 := Lib.hid (Qw.trans Q4.out q)
  clear q MM FX Q4
  go_cut [8] (fun pv wx => ∃ (D : Nat) (x y z : Int), pv = .pointer (some ⟨D, 0, none⟩) ∧ (-100000 ≤ x ∧ x ≤ 100000) ∧ (-100000 ≤ y ∧ y ≤ 100000) ∧ (-100000 ≤ z ∧ z ≤ 100000) ∧ Hid (Bx wx D #[.int .i64 (f.ex + x), .int .i64 (f.ey + y), .int .i64 (f.ez + z)] 23) ∧ Hid (Qw w9 wx))
  case first =>
    refine wp_region_M (fun wS => Qw w9 wS) 7 (by kernel_rfl) ?_
    have hSS : Qw w9 (World.drew w9) := qw_drew1 w9
    generalize World.drew w9 = wd at *
    refine wpAnyM_take (i := 0) (v := ?_) rfl (by kernel_rfl) (fun _ _ _ h => h) (Or.inl ⟨by rfl, ?_⟩) hSS ?_
    rotate_left 1
    · intro wS hwS
      go_simp
      try with_reducible rfl
    simp only [List.getElem_toArray, List.getElem_cons_succ, List.getElem_cons_zero, Act.put, List.setIfInBounds_toArray, List.set_cons_zero, List.set_cons_succ]
    refine wpAnyM_take (i := 1) (v := ?_) rfl (by kernel_rfl) (fun _ _ _ h => h) (Or.inl ⟨by rfl, ?_⟩) hSS ?_
    rotate_left 1
    · intro wS hwS
      have e28 := (F9.out wS hwS).cell' 28 (.int .i64 f.ex) rfl; have e29 := (F9.out wS hwS).cell' 29 (.int .i64 f.ey) rfl; have e30 := (F9.out wS hwS).cell' 30 (.int .i64 f.ez) rfl; go_simp
      try with_reducible rfl
    simp only [List.getElem_toArray, List.getElem_cons_succ, List.getElem_cons_zero, Act.put, List.setIfInBounds_toArray, List.set_cons_zero, List.set_cons_succ]
    refine wpAnyM_take (i := 2) (v := ?_) rfl (by kernel_rfl) (fun _ _ _ h => h) (Or.inl ⟨by rfl, ?_⟩) hSS ?_
    rotate_left 1
    · intro wS hwS
      go_simp
      try with_reducible rfl
    simp only [List.getElem_toArray, List.getElem_cons_succ, List.getElem_cons_zero, Act.put, List.setIfInBounds_toArray, List.set_cons_zero, List.set_cons_succ]
    refine wpAnyM_two (i := 3) (j := 6) rfl rfl (by kernel_rfl) rfl rfl (fun K hK => ?_) (fun K hK => ?_)
    · go_simp
      refine (newN H2.out (Qw.trans Q9.out hSS)).mono ?_
      rintro e w10 ⟨rfl, t5, m⟩
      have T5 := Lib.hid t5
      clear t5
      have hB := hSS.size
      have m2 := Qw.trans hSS m
      refine hK _ _ (fun _ => m2) ?_
      clear hK K hSS m
      have hSS := m2
      clear m2
      try simp only [List.getElem_toArray, List.getElem_cons_succ, List.getElem_cons_zero, Act.put, List.setIfInBounds_toArray, List.set_cons_zero, List.set_cons_succ]
      refine wpAnyM_two (i := 4) (j := 6) rfl rfl (by kernel_rfl) rfl rfl (fun K hK => ?_) (fun K hK => ?_)
      · go_simp
        refine (vecD _ _ _ 100000 (by decide) (by decide) _ _ (Tm.of T5.out)).mono ?_
        rintro e w11 ⟨⟨x, y, z, rfl, hx, hy, hz⟩, tm, m⟩
        have AD := Lib.hid (fun w' => vr_add f.ex f.ey f.ez x y z (by omega) (by omega) (by omega) (by omega) (by omega) (by omega) (by omega) (by omega) (by omega) (by omega) (by omega) (by omega) w')
        have m2 := hSS.gb hB m
        refine hK _ _ (fun _ => m2) ?_
        clear hK K hSS m tm T5 hB
        have hSS := m2
        clear m2
        try simp only [List.getElem_toArray, List.getElem_cons_succ, List.getElem_cons_zero, Act.put, List.setIfInBounds_toArray, List.set_cons_zero, List.set_cons_succ]
        refine wpAnyM_two (i := 5) (j := 6) rfl rfl (by kernel_rfl) rfl rfl (fun K hK => ?_) (fun K hK => ?_)
        · go_simp
          refine (AD.out _).mono ?_
          rintro e w12 ⟨rfl, m⟩
          have m2 := Qw.trans hSS m
          refine hK _ _ (fun _ => m2) ?_
          clear hK K hSS m
          have hSS := m2
          clear m2
          try simp only [List.getElem_toArray, List.getElem_cons_succ, List.getElem_cons_zero, Act.put, List.setIfInBounds_toArray, List.set_cons_zero, List.set_cons_succ]
          refine wpAnyM_one (i := 6) rfl (by kernel_rfl) rfl (fun K hK => ?_)
          go_simp
          refine hK _ _ (fun _ => Qw.al hSS _) ?_
          obtain ⟨wn, N, en, eN, hN, m2, Z, mm⟩ := al_named hSS #[.int .i64 0, .int .i64 0, .int .i64 0] 23
          rw [en, eN]
          replace Z := Lib.hid Z
          clear hK K hSS en eN mm
          have hSS := m2
          clear m2
          try simp only [List.getElem_toArray, List.getElem_cons_succ, List.getElem_cons_zero, Act.put, List.setIfInBounds_toArray, List.set_cons_zero, List.set_cons_succ]
          have z0 := Z.out.cell' 0 (.int .i64 0) rfl
          have z1 := Z.out.cell' 1 (.int .i64 0) rfl
          have z2 := Z.out.cell' 2 (.int .i64 0) rfl
          have y0 := Z.out.free 0
          have y1 := Z.out.free 1
          have y2 := Z.out.free 2
          refine wpAnyM_one (i := 7) rfl (by kernel_rfl) rfl (fun K hK => ?_)
          go_simp
          have hZ := Z.out.st3 (.int .i64 (f.ex + x)) (.int .i64 (f.ey + y)) (.int .i64 (f.ez + z))
          have m2 := Qw.st3 hSS hN (.int .i64 (f.ex + x)) (.int .i64 (f.ey + y)) (.int .i64 (f.ez + z))
          refine hK _ _ (fun h => absurd h (by decide)) ?_
          clear hK K hSS z0 z1 z2 y0 y1 y2
          try simp only [List.getElem_toArray, List.getElem_cons_succ, List.getElem_cons_zero, Act.put, List.setIfInBounds_toArray, List.set_cons_zero, List.set_cons_succ]
          refine wpAnyM_done (by kernel_rfl) ?_ _
          go_wp2
          go_meet
          exact ⟨_, x, y, z, rfl, hx, hy, hz, Lib.hid hZ, Lib.hid m2⟩
        · go_simp
          refine hK _ _ (fun _ => Qw.al hSS _) ?_
          obtain ⟨wn, N, en, eN, hN, m2, Z, mm⟩ := al_named hSS #[.int .i64 0, .int .i64 0, .int .i64 0] 23
          rw [en, eN]
          replace Z := Lib.hid Z
          clear hK K hSS en eN mm
          have hSS := m2
          clear m2
          try simp only [List.getElem_toArray, List.getElem_cons_succ, List.getElem_cons_zero, Act.put, List.setIfInBounds_toArray, List.set_cons_zero, List.set_cons_succ]
          refine wpAnyM_one (i := 5) rfl (by kernel_rfl) rfl (fun K hK => ?_)
          go_simp
          refine (AD.out _).mono ?_
          rintro e w12 ⟨rfl, m⟩
          have Z2 := Lib.hid (Z.out.kept m)
          clear Z
          have Z := Z2
          clear Z2
          have m2 := Qw.trans hSS m
          refine hK _ _ (fun _ => m2) ?_
          clear hK K hSS m
          have hSS := m2
          clear m2
          try simp only [List.getElem_toArray, List.getElem_cons_succ, List.getElem_cons_zero, Act.put, List.setIfInBounds_toArray, List.set_cons_zero, List.set_cons_succ]
          have z0 := Z.out.cell' 0 (.int .i64 0) rfl
          have z1 := Z.out.cell' 1 (.int .i64 0) rfl
          have z2 := Z.out.cell' 2 (.int .i64 0) rfl
          have y0 := Z.out.free 0
          have y1 := Z.out.free 1
          have y2 := Z.out.free 2
          refine wpAnyM_one (i := 7) rfl (by kernel_rfl) rfl (fun K hK => ?_)
          go_simp
          have hZ := Z.out.st3 (.int .i64 (f.ex + x)) (.int .i64 (f.ey + y)) (.int .i64 (f.ez + z))
          have m2 := Qw.st3 hSS hN (.int .i64 (f.ex + x)) (.int .i64 (f.ey + y)) (.int .i64 (f.ez + z))
          refine hK _ _ (fun h => absurd h (by decide)) ?_
          clear hK K hSS z0 z1 z2 y0 y1 y2
          try simp only [List.getElem_toArray, List.getElem_cons_succ, List.getElem_cons_zero, Act.put, List.setIfInBounds_toArray, List.set_cons_zero, List.set_cons_succ]
          refine wpAnyM_done (by kernel_rfl) ?_ _
          go_wp2
          go_meet
          exact ⟨_, x, y, z, rfl, hx, hy, hz, Lib.hid hZ, Lib.hid m2⟩
      · go_simp
        refine hK _ _ (fun _ => Qw.al hSS _) ?_
        obtain ⟨wn, N, en, eN, hN, m2, Z, mm⟩ := al_named hSS #[.int .i64 0, .int .i64 0, .int .i64 0] 23
        rw [en, eN]
        replace Z := Lib.hid Z
        have nB : N ≠ _ := Nat.ne_of_gt (eN ▸ lt_of_block T5.out.1)
        have T6 := Lib.hid (T5.out.kept mm)
        clear T5
        have T5 := T6
        clear T6
        clear hK K hSS en eN mm
        have hSS := m2
        clear m2
        try simp only [List.getElem_toArray, List.getElem_cons_succ, List.getElem_cons_zero, Act.put, List.setIfInBounds_toArray, List.set_cons_zero, List.set_cons_succ]
        refine wpAnyM_one (i := 4) rfl (by kernel_rfl) rfl (fun K hK => ?_)
        go_simp
        refine (vecD _ _ _ 100000 (by decide) (by decide) _ _ (Tm.of T5.out)).mono ?_
        rintro e w11 ⟨⟨x, y, z, rfl, hx, hy, hz⟩, tm, m⟩
        have AD := Lib.hid (fun w' => vr_add f.ex f.ey f.ez x y z (by omega) (by omega) (by omega) (by omega) (by omega) (by omega) (by omega) (by omega) (by omega) (by omega) (by omega) (by omega) w')
        have Z2 := Lib.hid (Z.out.grM m nB)
        clear Z
        have Z := Z2
        clear Z2
        have m2 := hSS.gb hB m
        refine hK _ _ (fun _ => m2) ?_
        clear hK K hSS m tm T5 hB nB
        have hSS := m2
        clear m2
        try simp only [List.getElem_toArray, List.getElem_cons_succ, List.getElem_cons_zero, Act.put, List.setIfInBounds_toArray, List.set_cons_zero, List.set_cons_succ]
        refine wpAnyM_one (i := 5) rfl (by kernel_rfl) rfl (fun K hK => ?_)
        go_simp
        refine (AD.out _).mono ?_
        rintro e w12 ⟨rfl, m⟩
        have Z2 := Lib.hid (Z.out.kept m)
        clear Z
        have Z := Z2
        clear Z2
        have m2 := Qw.trans hSS m
        refine hK _ _ (fun _ => m2) ?_
        clear hK K hSS m
        have hSS := m2
        clear m2
        try simp only [List.getElem_toArray, List.getElem_cons_succ, List.getElem_cons_zero, Act.put, List.setIfInBounds_toArray, List.set_cons_zero, List.set_cons_succ]
        have z0 := Z.out.cell' 0 (.int .i64 0) rfl
        have z1 := Z.out.cell' 1 (.int .i64 0) rfl
        have z2 := Z.out.cell' 2 (.int .i64 0) rfl
        have y0 := Z.out.free 0
        have y1 := Z.out.free 1
        have y2 := Z.out.free 2
        refine wpAnyM_one (i := 7) rfl (by kernel_rfl) rfl (fun K hK => ?_)
        go_simp
        have hZ := Z.out.st3 (.int .i64 (f.ex + x)) (.int .i64 (f.ey + y)) (.int .i64 (f.ez + z))
        have m2 := Qw.st3 hSS hN (.int .i64 (f.ex + x)) (.int .i64 (f.ey + y)) (.int .i64 (f.ez + z))
        refine hK _ _ (fun h => absurd h (by decide)) ?_
        clear hK K hSS z0 z1 z2 y0 y1 y2
        try simp only [List.getElem_toArray, List.getElem_cons_succ, List.getElem_cons_zero, Act.put, List.setIfInBounds_toArray, List.set_cons_zero, List.set_cons_succ]
        refine wpAnyM_done (by kernel_rfl) ?_ _
        go_wp2
        go_meet
        exact ⟨_, x, y, z, rfl, hx, hy, hz, Lib.hid hZ, Lib.hid m2⟩
    · go_simp
      refine hK _ _ (fun _ => Qw.al hSS _) ?_
      obtain ⟨wn, N, en, eN, hN, m2, Z, mm⟩ := al_named hSS #[.int .i64 0, .int .i64 0, .int .i64 0] 23
      rw [en, eN]
      replace Z := Lib.hid Z
      clear hK K hSS en eN mm
      have hSS := m2
      clear m2
      try simp only [List.getElem_toArray, List.getElem_cons_succ, List.getElem_cons_zero, Act.put, List.setIfInBounds_toArray, List.set_cons_zero, List.set_cons_succ]
      refine wpAnyM_one (i := 3) rfl (by kernel_rfl) rfl (fun K hK => ?_)
      go_simp
      refine (newN H2.out (Qw.trans Q9.out hSS)).mono ?_
      rintro e w10 ⟨rfl, t5, m⟩
      have T5 := Lib.hid t5
      clear t5
      have hB := hSS.size
      have nB : N ≠ _ := Nat.ne_of_lt Z.out.lt
      have Z2 := Lib.hid (Z.out.kept m)
      clear Z
      have Z := Z2
      clear Z2
      have m2 := Qw.trans hSS m
      refine hK _ _ (fun _ => m2) ?_
      clear hK K hSS m
      have hSS := m2
      clear m2
      try simp only [List.getElem_toArray, List.getElem_cons_succ, List.getElem_cons_zero, Act.put, List.setIfInBounds_toArray, List.set_cons_zero, List.set_cons_succ]
      refine wpAnyM_one (i := 4) rfl (by kernel_rfl) rfl (fun K hK => ?_)
      go_simp
      refine (vecD _ _ _ 100000 (by decide) (by decide) _ _ (Tm.of T5.out)).mono ?_
      rintro e w11 ⟨⟨x, y, z, rfl, hx, hy, hz⟩, tm, m⟩
      have AD := Lib.hid (fun w' => vr_add f.ex f.ey f.ez x y z (by omega) (by omega) (by omega) (by omega) (by omega) (by omega) (by omega) (by omega) (by omega) (by omega) (by omega) (by omega) w')
      have Z2 := Lib.hid (Z.out.grM m nB)
      clear Z
      have Z := Z2
      clear Z2
      have m2 := hSS.gb hB m
      refine hK _ _ (fun _ => m2) ?_
      clear hK K hSS m tm T5 hB nB
      have hSS := m2
      clear m2
      try simp only [List.getElem_toArray, List.getElem_cons_succ, List.getElem_cons_zero, Act.put, List.setIfInBounds_toArray, List.set_cons_zero, List.set_cons_succ]
      refine wpAnyM_one (i := 5) rfl (by kernel_rfl) rfl (fun K hK => ?_)
      go_simp
      refine (AD.out _).mono ?_
      rintro e w12 ⟨rfl, m⟩
      have Z2 := Lib.hid (Z.out.kept m)
      clear Z
      have Z := Z2
      clear Z2
      have m2 := Qw.trans hSS m
      refine hK _ _ (fun _ => m2) ?_
      clear hK K hSS m
      have hSS := m2
      clear m2
      try simp only [List.getElem_toArray, List.getElem_cons_succ, List.getElem_cons_zero, Act.put, List.setIfInBounds_toArray, List.set_cons_zero, List.set_cons_succ]
      have z0 := Z.out.cell' 0 (.int .i64 0) rfl
      have z1 := Z.out.cell' 1 (.int .i64 0) rfl
      have z2 := Z.out.cell' 2 (.int .i64 0) rfl
      have y0 := Z.out.free 0
      have y1 := Z.out.free 1
      have y2 := Z.out.free 2
      refine wpAnyM_one (i := 7) rfl (by kernel_rfl) rfl (fun K hK => ?_)
      go_simp
      have hZ := Z.out.st3 (.int .i64 (f.ex + x)) (.int .i64 (f.ey + y)) (.int .i64 (f.ez + z))
      have m2 := Qw.st3 hSS hN (.int .i64 (f.ex + x)) (.int .i64 (f.ey + y)) (.int .i64 (f.ez + z))
      refine hK _ _ (fun h => absurd h (by decide)) ?_
      clear hK K hSS z0 z1 z2 y0 y1 y2
      try simp only [List.getElem_toArray, List.getElem_cons_succ, List.getElem_cons_zero, Act.put, List.setIfInBounds_toArray, List.set_cons_zero, List.set_cons_succ]
      refine wpAnyM_done (by kernel_rfl) ?_ _
      go_wp2
      go_meet
      exact ⟨_, x, y, z, rfl, hx, hy, hz, Lib.hid hZ, Lib.hid m2⟩
  case rest =>
    obtain ⟨D, x, y, z, rfl, hx, hy, hz, DX, Q13⟩ := hcut
    have TX := Lib.hid (TP.out x y z hx hy hz)
    have tb := TB.out x y z hx hy hz
    have F13 := Lib.hid (F9.out _ Q13.out)
    have le := LE.out x y z _ _ _ hx hy hz rfl rfl rfl
    have a0 := DX.out.cell' 0 (.int .i64 (f.ex + x)) rfl
    have a1 := DX.out.cell' 1 (.int .i64 (f.ey + y)) rfl
    have a2 := DX.out.cell' 2 (.int .i64 (f.ez + z)) rfl
    clear TP TB LE
    generalize Fm.mx f (f.ex + x) (f.ey + y) (f.ez + z) = m0 at *
    generalize Fm.my f (f.ex + x) (f.ey + y) (f.ez + z) = m1 at *
    generalize Fm.mz f (f.ex + x) (f.ey + y) (f.ez + z) = m2 at *
    go_upto_region 9 with (first | (refine ld_fr 5 rfl F13.out ?_) | (go_at_call 20; ((with_reducible refine (TX.out _ (Qw.trans Q9.out Q13.out)).mono ?_); rintro e w14 ⟨rfl, q⟩; have Q14 := Lib.hid q; clear q)))
    refine code_of (fun w' => Bx w' w14.heap.size #[.int .i64 m0, .int .i64 m1, .int .i64 m2] 23 ∧ Qw wc w') ⟨Bx.new _ _ _, Qw.al Q14.out _⟩ ?_
    clear a0 a1 a2 Q14 TX
    generalize w14.heap.size = N at *
    rintro w15 ⟨NN, q⟩
    have S1 : Hid (∀ w' : World, Calls Tryd.prog 30 #[.agg #[.int .i64 (f.ex + x), .int .i64 (f.ey + y), .int .i64 (f.ez + z)], .agg #[.int .i64 f.ex, .int .i64 f.ey, .int .i64 f.ez]] w' fun e w'' => e = .returned (.agg #[.int .i64 x, .int .i64 y, .int .i64 z]) ∧ Qw w' w'') := Lib.hid (fun w' => by have := vr_sub (f.ex + x) (f.ey + y) (f.ez + z) f.ex f.ey f.ez (by omega) (by omega) (by omega) (by omega) (by omega) (by omega) (by omega) (by omega) (by omega) (by omega) (by omega) (by omega) w'; rwa [show f.ex + x - f.ex = x by omega, show f.ey + y - f.ey = y by omega, show f.ez + z - f.ez = z by omega] at this)
    have S2 := Lib.hid (fun w' => vr_sub m0 m1 m2 c0 c1 c2 (by omega) (by omega) (by omega) (by omega) (by omega) (by omega) (by omega) (by omega) (by omega) (by omega) (by omega) (by omega) w')
    have L1 := Lib.hid (fun w' => vr_length x y z 2 (by omega) (by omega) (by omega) (by omega) (by omega) (by omega) (by omega) (by omega) w')
    have L2 := Lib.hid (fun w' => vr_length (m0 - c0) (m1 - c1) (m2 - c2) 2 (by omega) (by omega) (by omega) (by omega) (by omega) (by omega) (by omega) (by omega) w')
    generalize m0 - c0 = d0 at *
    generalize m1 - c1 = d1 at *
    generalize m2 - c2 = d2 at *
    generalize rtv (x * x + y * y + z * z) 1 2 = n at *
    generalize rtok (x * x + y * y + z * z) 1 2 = n' at *
    generalize rtv (d0 * d0 + d1 * d1 + d2 * d2) 1 2 = k at *
    generalize rtok (d0 * d0 + d1 * d1 + d2 * d2) 1 2 = k' at *
    obtain ⟨⟨le1, le2⟩, ⟨le3, le4⟩, le5, le6⟩ := le
    have hw15 := Qw.trans Q9.out (Qw.trans Q13.out q)
    have FB := F9.out _ (Qw.trans Q13.out q)
    have MB := MX.out _ (Qw.trans Q13.out q)
    have DB := DX.out.kept q
    have x28 := FB.kcell 28 (.int .i64 f.ex) rfl
    have x29 := FB.kcell 29 (.int .i64 f.ey) rfl
    have x30 := FB.kcell 30 (.int .i64 f.ez) rfl
    have k0 := MB.kcell 0 (.int .i64 c0) rfl
    have k1 := MB.kcell 1 (.int .i64 c1) rfl
    have k2 := MB.kcell 2 (.int .i64 c2) rfl
    have AK : ∀ p : Kept w15, Calls Tryd.prog 12 #[] p.v fun e w'' => e = .returned (.bool true) ∧ Qw p.v w'' := fun p => AW.out _ (Qw.trans hw15 p.h)
    have AK2 := Lib.hid AK
    have FH := Lib.hid FB
    have MH := Lib.hid MB
    have DH := Lib.hid DB
    have NH := Lib.hid NN
    have QH := Lib.hid hw15
    clear AK FB MB DB NN hw15 q AW F13 DX F9 MX Q13 Q9 tb hx hy hz gx gy gz hc0 hc1 hc2
    refine region_kept (by kernel_rfl) (by kernel_rfl) ?_
    repeat (first | (refine q_ldt 5 rfl rfl (fun w' h => h.elim fun p e => e ▸ FH.out.kept p.h) ?_; simp only [List.getElem_toArray, List.getElem_cons_succ, List.getElem_cons_zero, Act.put, List.setIfInBounds_toArray, List.set_cons_zero, List.set_cons_succ]) | (go_big_quiet_step (first | (go_at_call 12; with_reducible exact Kept.call (AK2.out _)) | (go_at_call 18; with_reducible exact Kept.call (OR.out _)) | (go_at_call 32; with_reducible exact Kept.call (HA.out _)))))
    refine wpQuiet_nil ?_
    intro w16 q16
    have Q16 := Lib.hid q16
    have a0 := (DH.out.kept q16).cell' 0 (.int .i64 (f.ex + x)) rfl
    have a1 := (DH.out.kept q16).cell' 1 (.int .i64 (f.ey + y)) rfl
    have a2 := (DH.out.kept q16).cell' 2 (.int .i64 (f.ez + z)) rfl
    have c28 := (FH.out.kept q16).cell' 28 (.int .i64 f.ex) rfl
    have c29 := (FH.out.kept q16).cell' 29 (.int .i64 f.ey) rfl
    have c30 := (FH.out.kept q16).cell' 30 (.int .i64 f.ez) rfl
    clear q16 x28 x29 x30 k0 k1 k2 AK2 OR HA
    go_wp2_with (first | (go_at_call 30; ((with_reducible refine (S1.out _).mono ?_); rintro e w17 ⟨rfl, q⟩; have Q17 := Lib.hid (Qw.trans Q16.out q); clear q)) | (go_at_call 33; ((with_reducible refine (L1.out _).mono ?_); rintro e w18 ⟨rfl, q⟩; have Q18 := Lib.hid (Qw.trans Q17.out q); have n0 := (NH.out.kept (Qw.trans Q17.out q)).cell' 0 (.int .i64 m0) rfl; have s0 := (MH.out.kept (Qw.trans Q17.out q)).cell' 0 (.int .i64 c0) rfl; have n1 := (NH.out.kept (Qw.trans Q17.out q)).cell' 1 (.int .i64 m1) rfl; have s1 := (MH.out.kept (Qw.trans Q17.out q)).cell' 1 (.int .i64 c1) rfl; have n2 := (NH.out.kept (Qw.trans Q17.out q)).cell' 2 (.int .i64 m2) rfl; have s2 := (MH.out.kept (Qw.trans Q17.out q)).cell' 2 (.int .i64 c2) rfl; clear q)) | (go_at_call 30; ((with_reducible refine (S2.out _).mono ?_); rintro e w19 ⟨rfl, q⟩; have Q19 := Lib.hid (Qw.trans Q18.out q); clear q)) | (go_at_call 33; ((with_reducible refine (L2.out _).mono ?_); rintro e w20 ⟨rfl, q⟩; have Q20 := Lib.hid (Qw.trans Q19.out q); clear q)))
    have hm : decide (max (n - k) (k - n) ≤ 2) = true := decide_eq_true (Int.max_le.2 ⟨by omega, by omega⟩)
    simp only [hm]
    go_ret
    exact ⟨rfl, Qw.trans QH.out Q20.out⟩

/-! ### the row and the card -/
theorem reads_frameTurns (os : Os) {H : Type} (enc : TypeId × Value → H) : ∃ places, DataW.whole enc Tryd.prog ((laidWorldC os).forCall (fun _ _ => 0) ⟨#[], #[.slice none 0 0, .slice none 0 0], []⟩).memory Tryd.f8.params.toList Rows.frameTurnsSpec.vars false #[(.slice none 0 0 : Value), .slice none 0 0].toList 8 = some ([.nil, .nil], [], places) :=
  ⟨[], by kernel_rfl⟩
set_option maxRecDepth 100000 in
theorem lifted_frameTurns (os : Os) (started : os.Started) (H : Type) (enc : TypeId × Value → H) (F : Stop.Interp) :
    ReturnsInHanded {} Tryd.checked os 8 .any ((OpenSpec.ofChange Rows.frameTurnsSpec).preRow enc Tryd.prog Tryd.f8 Rows.frameTurnsRow.domain false Rows.frameTurnsRow.laid) (((OpenSpec.ofChange Rows.frameTurnsSpec).at F).post enc Tryd.prog Tryd.f8 false true false false) := by
  obtain ⟨places, hx⟩ := reads_frameTurns os enc
  refine returnsInHanded_of_row (C := Tryd.checked) (s := OpenSpec.ofChange Rows.frameTurnsSpec) ownC started (by kernel_rfl) Tryd.func8
    (witness_row_at (enc := enc) (C := Tryd.checked) false (laidWorldC os) #[.slice none 0 0, .slice none 0 0] rfl (by kernel_rfl) (by kernel_rfl) (by kernel_rfl)
      (OpenSpec.preRow_of_cond 8 hx (by kernel_rfl) (fun k hk => by cases hk) (by kernel_rfl) (laid_metC os _))) ?_
  intro W base args ds gs before hval0 hW _ _ _ hL _ _
  have ht : Tc W := tableC hL
  have hval : ∀ (j : Nat) t v, Tryd.f8.params[j]? = some t → args[j]? = some v → Value.okWide Tryd.prog W .any base t v := hval0
  have hW' := hW
  obtain ⟨p, q, hA0, hV, rfl, hfz, hnd⟩ := hW
  have hA : DataW.TrodAll enc Tryd.prog W 0 (fun _ => true) true Tryd.f8.params.toList args.toList ds p := hA0
  rw [Tryd.params8] at hA hval
  obtain ⟨v0, vs0, d0, ds0, p0, q0, hargs, rfl, rfl, h0, r0⟩ := trodAll_cons hA
  obtain ⟨v1, vs1, d1, ds1, p1, q1, rfl, rfl, rfl, h1, r1⟩ := trodAll_cons r0
  obtain ⟨rfl, rfl, rfl⟩ := trodAll_nil r1
  obtain rfl : args = #[v0, v1] := by cases args; simp_all
  obtain ⟨rfl, rfl⟩ := trodVars_none hV
  obtain ⟨u0, hu0⟩ := inM_ints (hval 0 27 v0 rfl rfl) h0
  obtain ⟨u1, hu1⟩ := inM_ints (hval 1 27 v1 rfl rfl) h1
  clear hA0 hval0 hL
  simp only [List.append_nil] at hW'
  refine (walk_frameTurns v0 u0 v1 u1 W hu0 hu1 ht).mono fun e W' ⟨he, bel⟩ => ?_
  subst he
  exact ⟨_, rfl, _, _, _, [], _, [], hW', trodAll_mk1 (shut_bool Tryd.underlying4 _), (trodAll_cons_mk (outM_ints h0 bel (fun x hx => hW'.lt x (by first | exact hx | simp [hx]))) (trodAll_cons_mk (outM_ints h1 bel (fun x hx => hW'.lt x (by first | exact hx | simp [hx]))) trodAll_mk0)), rfl, Below.frame bel _, fun h => by cases h⟩

theorem frameTurns_said : Rows.FrameTurnsSaid :=
  OpenClaim.holds_of_cond 8 Tryd.f8 rfl rfl rfl rfl rfl rfl rfl ⟨rfl, rfl, rfl, rfl, rfl⟩ rfl rfl rfl rfl rfl (by kernel_rfl) Tryd.func8 (by kernel_rfl)
    (of_decide_eq_true (by kernel_rfl)) (by unfold Func.isWrapper; first | (rw [if_pos (by decide +kernel)]; kernel_rfl) | (rw [if_neg (by decide +kernel)]; exact ⟨rfl, rfl⟩))
    (fun os started H enc _ F => by rw [OpenClaim.pre_eq_preRow]; exact lifted_frameTurns os started H enc F)

theorem plain_frameTurns (f : FuncId) (fn : Func) (hf : Tryd.pinned.checked.prog.funcNamed "cnc/cnclaw12.FrameTurns" = some f) (hfn : Tryd.pinned.checked.prog.funcs[f]? = some fn) :
    false = Tryd.pinned.checked.prog.looks [] ∧ ∀ (j : Nat) t, fn.params[j]? = some t → Tryd.pinned.checked.prog.wantsStandIn t = false := by
  obtain rfl : f = 8 := Option.some.inj ((show Tryd.prog.funcNamed "cnc/cnclaw12.FrameTurns" = some 8 by kernel_rfl).symm.trans hf) |>.symm
  obtain rfl : fn = Tryd.f8 := (Option.some.inj (Tryd.func8.symm.trans hfn)).symm
  refine ⟨by kernel_rfl, fun j t ht => ?_⟩
  rw [Tryd.params8] at ht
  obtain rfl : t = 27 := by simpa using Array.mem_of_getElem? ht
  exact (show Tryd.prog.wantsStandIn 27 = false by kernel_rfl)

/-- The statement. -/
theorem frameTurns_card : Rows.FrameTurnsCardSaid :=
  Claim7.holds_tied_plain_at .later [] _ _ _ _ frameTurns_said (fun _ h => by cases h) (by kernel_rfl) (fun _ h => by cases h) frameTurns_row_tie rfl ⟨rfl, rfl⟩ (by kernel_rfl) rfl plain_frameTurns (by kernel_rfl)

end Go.Proofs.YtnjcbgnghfppoaaDoor
