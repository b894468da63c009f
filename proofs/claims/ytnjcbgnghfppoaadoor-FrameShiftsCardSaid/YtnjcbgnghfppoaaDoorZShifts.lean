import Derived.Test.YtnjcbgnghfppoaaDoorGSc
import Derived.Test.YtnjcbgnghfppoaaDoorGS
import Derived.Test.YtnjcbgnghfppoaaDoorGFa
import Derived.Test.YtnjcbgnghfppoaaDoorGR
import Derived.Test.YtnjcbgnghfppoaaDoorGH
import Derived.Test.YtnjcbgnghfppoaaDoorGN

/- FrameShifts: without a rotation a frame adds its origin, and the height of a rotation is only shifted.
   Conditions: the listed table lies as the program's own text lays it (the card ties it); every input. -/
set_option linter.unusedVariables false
set_option linter.unusedSimpArgs false
namespace Go.Proofs.YtnjcbgnghfppoaaDoor
open Go.ChangeShapes Go.WideShapes Go.ChangeAt Go.RowKit

set_option maxRecDepth 100000 in
set_option maxHeartbeats 8000000 in
theorem walk_frameShifts (v1 : Value) (z1 : List Int) (v2 : Value) (z2 : List Int) (w : World) (h1 : IntsB w.heap.size w v1 z1) (h2 : IntsB w.heap.size w v2 z2) (T : Tc w) : Calls Tryd.prog 7 #[v1, v2] w fun e w' => e = .returned (.bool true) ∧ Below w.heap.size w w' := by
  have AW := Lib.hid (fun (w' : World) (q : Qw w w') => awake12 w' (T.kept q))
  cases k1 : decide (z1.length ≤ 120)
  · have L1 := Lib.hid (fun (w' : World) (q : Qw w w') => lightN h1 q k1)
    clear k1 h1 h2 T
    go_enter Tryd.func7, Tryd.ntmps7
    go_wp2_with (first | (go_at_call 11; ((with_reducible refine (L1.out _ (Qw.refl w)).mono ?_); rintro e w' ⟨rfl, rfl⟩)) | (go_at_call 12; ((with_reducible refine (AW.out _ (Qw.refl w)).mono ?_); rintro e w9 ⟨rfl, q⟩; have Q9 := Lib.hid q; clear q)))
    go_ret
    exact ⟨rfl, Q9.out⟩
  cases k2 : decide (z2.length ≤ 120)
  · have L1 := Lib.hid (fun (w' : World) (q : Qw w w') => lightN h1 q k1)
    have L2 := Lib.hid (fun (w' : World) (q : Qw w w') => lightN h2 q k2)
    clear k1 k2 h1 h2 T
    go_enter Tryd.func7, Tryd.ntmps7
    go_wp2_with (first | (go_at_call 11; ((with_reducible refine (L1.out _ (Qw.refl w)).mono ?_); rintro e w' ⟨rfl, rfl⟩)) | (go_at_call 11; ((with_reducible refine (L2.out _ (Qw.refl w)).mono ?_); rintro e w' ⟨rfl, rfl⟩)) | (go_at_call 12; ((with_reducible refine (AW.out _ (Qw.refl w)).mono ?_); rintro e w9 ⟨rfl, q⟩; have Q9 := Lib.hid q; clear q)))
    go_ret
    exact ⟨rfl, Q9.out⟩
  have L1 := Lib.hid (fun (w' : World) (q : Qw w w') => lightN h1 q k1)
  have L2 := Lib.hid (fun (w' : World) (q : Qw w w') => lightN h2 q k2)
  have H1 := Lib.hid h1
  have H2 := Lib.hid h2
  have TK := Lib.hid (fun (w' : World) (q : Qw w w') => T.kept q)
  clear k1 k2 h1 h2 T
  go_enter Tryd.func7, Tryd.ntmps7
  go_upto_region 3 with (first | (go_at_call 11; ((with_reducible refine (L1.out _ (Qw.refl w)).mono ?_); rintro e w' ⟨rfl, rfl⟩)) | (go_at_call 11; ((with_reducible refine (L2.out _ (Qw.refl w)).mono ?_); rintro e w' ⟨rfl, rfl⟩)))
  go_upto_region 4 with (first | (go_at_call 14; ((with_reducible refine (newN H1.out (Qw.refl w)).mono ?_); rintro e w1 ⟨rfl, t, q⟩; have T1 := Lib.hid t; have Q1 := Lib.hid q; clear t q)) | (go_at_call 13; ((with_reducible refine (frameN T1.out Q1.out (Nat.le_refl _)).mono ?_); rintro e w2 ⟨⟨f, rfl, hg⟩, q⟩; have G2 := Lib.hid hg; have Q2 := Lib.hid q; clear hg q)) | (refine al_fr ?_; intro w3 P hp X q; have X3 := Lib.hid X; have Q3 := Lib.hid q; clear X q) | (refine st_fr2 5 22 rfl rfl X3.out ?_))
  refine code_of (fun w' => Bx w' P (frc f) FT ∧ Qw w w') ⟨X3.out.srS, (Qw.trans Q2.out Q3.out).sr' (Nat.le_trans Q2.out.size hp) _⟩ ?_
  have hP : w.heap.size ≤ P := Nat.le_trans Q2.out.size hp
  clear L1 L2 H1 T1 Q1 Q2 X3 Q3 hp
  rintro w4 ⟨F, q⟩
  have FX := Lib.hid (fun (w' : World) (q : Qw w4 w') => F.kept q)
  have Q4 := Lib.hid q
  clear F q
  go_upto_region 5 with (first | (go_at_call 14; ((with_reducible refine (newN H2.out Q4.out).mono ?_); rintro e w5 ⟨rfl, t, q⟩; have T5 := Lib.hid t; have Q5 := Lib.hid q; clear t q)) | (go_at_call 29; ((with_reducible refine (vecN T5.out Q5.out (Nat.le_refl _) 200000 (by decide) (by decide)).mono ?_); rintro e w6 ⟨⟨x, y, z, rfl, hx, hy, hz⟩, q⟩; have HB := Lib.hid (And.intro hx (And.intro hy hz)); have Q6 := Lib.hid q; clear hx hy hz q)))
  refine code_of (fun w' => Bx w' w6.heap.size #[.int .i64 x, .int .i64 y, .int .i64 z] 23 ∧ Qw w4 w') ⟨Bx.new _ _ _, Qw.al Q6.out _⟩ ?_
  clear H2 T5 Q5 Q6
  generalize w6.heap.size = A at *
  rintro w7 ⟨AA, q⟩
  have AX := Lib.hid (fun (w' : World) (q : Qw w7 w') => AA.kept q)
  have F7 := Lib.hid (fun (w' : World) (q' : Qw w7 w') => FX.out w' (Qw.trans q q'))
  have Q7 := Lib.hid (Qw.trans Q4.out q)
  clear AA q FX Q4
  obtain ⟨hx, hy, hz⟩ := HB.out
  have to2 := G2.out.to2 hx hy hz
  have t2 := G2.out.t2 hx hy hz f.a
  have oo := G2.out.o
  have ms : (-500000 ≤ Fm.mx f x y z ∧ Fm.mx f x y z ≤ 500000) ∧ (-500000 ≤ Fm.my f x y z ∧ Fm.my f x y z ≤ 500000) ∧ (-500000 ≤ Fm.mz f x y z ∧ Fm.mz f x y z ≤ 500000) := by unfold Fm.mx Fm.my Fm.mz; omega
  have TO : Hid (∀ w' : World, Qw w w' → Calls Tryd.prog 20 #[.agg (frc f), .agg #[.int .i64 x, .int .i64 y, .int .i64 z]] w' fun e w'' => e = .returned (.tuple #[.agg #[.int .i64 (Fm.mx f x y z), .int .i64 (Fm.my f x y z), .int .i64 (Fm.mz f x y z)], .int .i64 0]) ∧ Qw w' w'') := Lib.hid (fun w' q => by have := fmToAny f G2.out x y z (by omega) (by omega) (by omega) (by omega) (by omega) (by omega) w' (TK.out _ q); rwa [to2.1, to2.2.1, to2.2.1, to2.2.1] at this)
  have OR := Lib.hid (fun w' => fmOrigin f G2.out w')
  have st : f.t = false → Fm.mx f x y z - Fm.ox f - x = 0 ∧ Fm.my f x y z - Fm.oy f - y = 0 ∧ Fm.mz f x y z - Fm.oz f - z = 0 := fun ht => by
    have e := Fm.Gd.stay ht x y z f.a
    unfold Fm.mx Fm.my Fm.mz
    omega
  have hi : f.t = true → fh f.p (Fm.mx f x y z - Fm.ox f - x) (Fm.my f x y z - Fm.oy f - y) (Fm.mz f x y z - Fm.oz f - z) = 0 := fun ht => by
    have e := G2.out.high ht x y z f.a
    have e1 : Fm.mx f x y z - Fm.ox f - x = Fm.tx f x y z f.a - x := by unfold Fm.mx; omega
    have e2 : Fm.my f x y z - Fm.oy f - y = Fm.ty f x y z f.a - y := by unfold Fm.my; omega
    have e3 : Fm.mz f x y z - Fm.oz f - z = Fm.tz f x y z f.a - z := by unfold Fm.mz; omega
    rw [e1, e2, e3]
    exact e
  have gp := G2.out.p
  generalize Fm.mx f x y z = m0 at *
  generalize Fm.my f x y z = m1 at *
  generalize Fm.mz f x y z = m2 at *
  generalize Fm.ox f = o0 at *
  generalize Fm.oy f = o1 at *
  generalize Fm.oz f = o2 at *
  have S1 := Lib.hid (fun w' => vr_sub m0 m1 m2 o0 o1 o2 (by omega) (by omega) (by omega) (by omega) (by omega) (by omega) (by omega) (by omega) (by omega) (by omega) (by omega) (by omega) w')
  have S2 := Lib.hid (fun w' => vr_sub (m0 - o0) (m1 - o1) (m2 - o2) x y z (by omega) (by omega) (by omega) (by omega) (by omega) (by omega) (by omega) (by omega) (by omega) (by omega) (by omega) (by omega) w')
  have HG := Lib.hid (fun w' => rfHeight f.p (m0 - o0 - x) (m1 - o1 - y) (m2 - o2 - z) (by omega) (by omega) w')
  have ST := Lib.hid st
  have HI := Lib.hid hi
  clear to2 t2 oo ms st hi hx hy hz TK HB gp
  generalize m0 - o0 - x = d0 at *
  generalize m1 - o1 - y = d1 at *
  generalize m2 - o2 - z = d2 at *
  generalize m0 - o0 = c0 at *
  generalize m1 - o1 = c1 at *
  generalize m2 - o2 = c2 at *
  have a0 := (AX.out _ (Qw.refl w7)).cell' 0 (.int .i64 x) rfl; have a1 := (AX.out _ (Qw.refl w7)).cell' 1 (.int .i64 y) rfl; have a2 := (AX.out _ (Qw.refl w7)).cell' 2 (.int .i64 z) rfl
  go_upto_region 6 with (first | (refine ld_fr 5 rfl (F7.out _ (Qw.refl w7)) ?_) | (go_at_call 20; ((with_reducible refine (TO.out _ Q7.out).mono ?_); rintro e w8 ⟨rfl, q⟩; have Q8 := Lib.hid q; clear q)))
  refine code_of (fun w' => Bx w' w8.heap.size #[.int .i64 m0, .int .i64 m1, .int .i64 m2] 23 ∧ Qw w7 w') ⟨Bx.new _ _ _, Qw.al Q8.out _⟩ ?_
  clear a0 a1 a2 Q8 TO
  generalize w8.heap.size = M at *
  rintro w9 ⟨MM, q⟩
  have MX := Lib.hid (fun (w' : World) (q : Qw w9 w') => MM.kept q)
  have Q9 := Lib.hid q
  clear q MM
  go_upto_region 7 with (first | (refine ld_fr 5 rfl (F7.out _ Q9.out) ?_) | (go_at_call 18; ((with_reducible refine (OR.out _).mono ?_); rintro e w10 ⟨rfl, q⟩; have Q10 := Lib.hid q; clear q)))
  refine code_of (fun w' => Bx w' w10.heap.size #[.int .i64 o0, .int .i64 o1, .int .i64 o2] 23 ∧ Qw w9 w') ⟨Bx.new _ _ _, Qw.al Q10.out _⟩ ?_
  clear Q10 OR
  generalize w10.heap.size = N at *
  rintro w11 ⟨NN, q⟩
  have NX := Lib.hid (fun (w' : World) (q : Qw w11 w') => NN.kept q)
  have Q11 := Lib.hid q
  clear q NN
  go_upto_region 9 with (go_at_call 12; ((with_reducible refine (AW.out _ (Qw.trans Q7.out (Qw.trans Q9.out Q11.out))).mono ?_); rintro e w12 ⟨rfl, q⟩; have Q12 := Lib.hid (Qw.trans Q11.out q); have q12 := Lib.hid q; clear q))
  go_cut [10] (fun pv wx => ∃ D : Nat, pv = .pointer (some ⟨D, 0, none⟩) ∧ Hid (Bx wx D #[.int .i64 d0, .int .i64 d1, .int .i64 d2] 23) ∧ Hid (Qw w12 wx))
  case first =>
    refine wp_region_M (fun wS => Qw w12 wS) 6 (by kernel_rfl) ?_
    have hSS : Qw w12 (World.drew w12) := qw_drew1 w12
    generalize World.drew w12 = wd at *
    refine wpAnyM_take (i := 0) (v := ?_) rfl (by kernel_rfl) (fun _ _ _ h => h) (Or.inl ⟨by rfl, ?_⟩) hSS ?_
    rotate_left 1
    · intro wS hwS
      have e0 := (MX.out wS (Qw.trans Q12.out hwS)).cell' 0 (.int .i64 m0) rfl; have e1 := (MX.out wS (Qw.trans Q12.out hwS)).cell' 1 (.int .i64 m1) rfl; have e2 := (MX.out wS (Qw.trans Q12.out hwS)).cell' 2 (.int .i64 m2) rfl; go_simp
      try with_reducible rfl
    simp only [List.getElem_toArray, List.getElem_cons_succ, List.getElem_cons_zero, Act.put, List.setIfInBounds_toArray, List.set_cons_zero, List.set_cons_succ]
    refine wpAnyM_take (i := 1) (v := ?_) rfl (by kernel_rfl) (fun _ _ _ h => h) (Or.inl ⟨by rfl, ?_⟩) hSS ?_
    rotate_left 1
    · intro wS hwS
      have e0 := (NX.out wS (Qw.trans q12.out hwS)).cell' 0 (.int .i64 o0) rfl; have e1 := (NX.out wS (Qw.trans q12.out hwS)).cell' 1 (.int .i64 o1) rfl; have e2 := (NX.out wS (Qw.trans q12.out hwS)).cell' 2 (.int .i64 o2) rfl; go_simp
      try with_reducible rfl
    simp only [List.getElem_toArray, List.getElem_cons_succ, List.getElem_cons_zero, Act.put, List.setIfInBounds_toArray, List.set_cons_zero, List.set_cons_succ]
    refine wpAnyM_take (i := 3) (v := ?_) rfl (by kernel_rfl) (fun _ _ _ h => h) (Or.inl ⟨by rfl, ?_⟩) hSS ?_
    rotate_left 1
    · intro wS hwS
      have e0 := (AX.out wS (Qw.trans Q9.out (Qw.trans Q12.out hwS))).cell' 0 (.int .i64 x) rfl; have e1 := (AX.out wS (Qw.trans Q9.out (Qw.trans Q12.out hwS))).cell' 1 (.int .i64 y) rfl; have e2 := (AX.out wS (Qw.trans Q9.out (Qw.trans Q12.out hwS))).cell' 2 (.int .i64 z) rfl; go_simp
      try with_reducible rfl
    simp only [List.getElem_toArray, List.getElem_cons_succ, List.getElem_cons_zero, Act.put, List.setIfInBounds_toArray, List.set_cons_zero, List.set_cons_succ]
    refine wpAnyM_two (i := 2) (j := 5) rfl rfl (by kernel_rfl) rfl rfl (fun K hK => ?_) (fun K hK => ?_)
    · go_simp
      refine (S1.out _).mono ?_
      rintro e w13 ⟨rfl, m⟩
      have m2 := Qw.trans hSS m
      refine hK _ _ (fun _ => m2) ?_
      clear hK K hSS m
      have hSS := m2
      clear m2
      try simp only [List.getElem_toArray, List.getElem_cons_succ, List.getElem_cons_zero, Act.put, List.setIfInBounds_toArray, List.set_cons_zero, List.set_cons_succ]
      refine wpAnyM_two (i := 4) (j := 5) rfl rfl (by kernel_rfl) rfl rfl (fun K hK => ?_) (fun K hK => ?_)
      · go_simp
        refine (S2.out _).mono ?_
        rintro e w14 ⟨rfl, m⟩
        have m2 := Qw.trans hSS m
        refine hK _ _ (fun _ => m2) ?_
        clear hK K hSS m
        have hSS := m2
        clear m2
        try simp only [List.getElem_toArray, List.getElem_cons_succ, List.getElem_cons_zero, Act.put, List.setIfInBounds_toArray, List.set_cons_zero, List.set_cons_succ]
        refine wpAnyM_one (i := 5) rfl (by kernel_rfl) rfl (fun K hK => ?_)
        go_simp
        refine hK _ _ (fun _ => Qw.al hSS _) ?_
        obtain ⟨wn, N, en, eN, hN, m2, Z, mm⟩ := al_named hSS #[.int .i64 0, .int .i64 0, .int .i64 0] 23
        rw [en, eN]
        replace Z := Lib.hid Z
        clear hK K hSS en eN mm
        have hSS := m2
        clear m2
        try simp only [List.getElem_toArray, List.getElem_cons_succ, List.getElem_cons_zero, Act.put, List.setIfInBounds_toArray, List.set_cons_zero, List.set_cons_succ]
        have z0 := Z.out.cell' 0 (.int .i64 0) rfl
        have z1 := Z.out.cell' 1 (.int .i64 0) rfl
        have z2 := Z.out.cell' 2 (.int .i64 0) rfl
        have y0 := Z.out.free 0
        have y1 := Z.out.free 1
        have y2 := Z.out.free 2
        refine wpAnyM_one (i := 6) rfl (by kernel_rfl) rfl (fun K hK => ?_)
        go_simp
        have hZ := Z.out.st3 (.int .i64 d0) (.int .i64 d1) (.int .i64 d2)
        have m2 := Qw.st3 hSS hN (.int .i64 d0) (.int .i64 d1) (.int .i64 d2)
        refine hK _ _ (fun h => absurd h (by decide)) ?_
        clear hK K hSS z0 z1 z2 y0 y1 y2
        try simp only [List.getElem_toArray, List.getElem_cons_succ, List.getElem_cons_zero, Act.put, List.setIfInBounds_toArray, List.set_cons_zero, List.set_cons_succ]
        refine wpAnyM_done (by kernel_rfl) ?_ _
        go_wp2
        go_meet
        exact ⟨_, rfl, Lib.hid hZ, Lib.hid m2⟩
      · go_simp
        refine hK _ _ (fun _ => Qw.al hSS _) ?_
        obtain ⟨wn, N, en, eN, hN, m2, Z, mm⟩ := al_named hSS #[.int .i64 0, .int .i64 0, .int .i64 0] 23
        rw [en, eN]
        replace Z := Lib.hid Z
        clear hK K hSS en eN mm
        have hSS := m2
        clear m2
        try simp only [List.getElem_toArray, List.getElem_cons_succ, List.getElem_cons_zero, Act.put, List.setIfInBounds_toArray, List.set_cons_zero, List.set_cons_succ]
        refine wpAnyM_one (i := 4) rfl (by kernel_rfl) rfl (fun K hK => ?_)
        go_simp
        refine (S2.out _).mono ?_
        rintro e w14 ⟨rfl, m⟩
        have Z2 := Lib.hid (Z.out.kept m)
        clear Z
        have Z := Z2
        clear Z2
        have m2 := Qw.trans hSS m
        refine hK _ _ (fun _ => m2) ?_
        clear hK K hSS m
        have hSS := m2
        clear m2
        try simp only [List.getElem_toArray, List.getElem_cons_succ, List.getElem_cons_zero, Act.put, List.setIfInBounds_toArray, List.set_cons_zero, List.set_cons_succ]
        have z0 := Z.out.cell' 0 (.int .i64 0) rfl
        have z1 := Z.out.cell' 1 (.int .i64 0) rfl
        have z2 := Z.out.cell' 2 (.int .i64 0) rfl
        have y0 := Z.out.free 0
        have y1 := Z.out.free 1
        have y2 := Z.out.free 2
        refine wpAnyM_one (i := 6) rfl (by kernel_rfl) rfl (fun K hK => ?_)
        go_simp
        have hZ := Z.out.st3 (.int .i64 d0) (.int .i64 d1) (.int .i64 d2)
        have m2 := Qw.st3 hSS hN (.int .i64 d0) (.int .i64 d1) (.int .i64 d2)
        refine hK _ _ (fun h => absurd h (by decide)) ?_
        clear hK K hSS z0 z1 z2 y0 y1 y2
        try simp only [List.getElem_toArray, List.getElem_cons_succ, List.getElem_cons_zero, Act.put, List.setIfInBounds_toArray, List.set_cons_zero, List.set_cons_succ]
        refine wpAnyM_done (by kernel_rfl) ?_ _
        go_wp2
        go_meet
        exact ⟨_, rfl, Lib.hid hZ, Lib.hid m2⟩
    · go_simp
      refine hK _ _ (fun _ => Qw.al hSS _) ?_
      obtain ⟨wn, N, en, eN, hN, m2, Z, mm⟩ := al_named hSS #[.int .i64 0, .int .i64 0, .int .i64 0] 23
      rw [en, eN]
      replace Z := Lib.hid Z
      clear hK K hSS en eN mm
      have hSS := m2
      clear m2
      try simp only [List.getElem_toArray, List.getElem_cons_succ, List.getElem_cons_zero, Act.put, List.setIfInBounds_toArray, List.set_cons_zero, List.set_cons_succ]
      refine wpAnyM_one (i := 2) rfl (by kernel_rfl) rfl (fun K hK => ?_)
      go_simp
      refine (S1.out _).mono ?_
      rintro e w13 ⟨rfl, m⟩
      have Z2 := Lib.hid (Z.out.kept m)
      clear Z
      have Z := Z2
      clear Z2
      have m2 := Qw.trans hSS m
      refine hK _ _ (fun _ => m2) ?_
      clear hK K hSS m
      have hSS := m2
      clear m2
      try simp only [List.getElem_toArray, List.getElem_cons_succ, List.getElem_cons_zero, Act.put, List.setIfInBounds_toArray, List.set_cons_zero, List.set_cons_succ]
      refine wpAnyM_one (i := 4) rfl (by kernel_rfl) rfl (fun K hK => ?_)
      go_simp
      refine (S2.out _).mono ?_
      rintro e w14 ⟨rfl, m⟩
      have Z2 := Lib.hid (Z.out.kept m)
      clear Z
      have Z := Z2
      clear Z2
      have m2 := Qw.trans hSS m
      refine hK _ _ (fun _ => m2) ?_
      clear hK K hSS m
      have hSS := m2
      clear m2
      try simp only [List.getElem_toArray, List.getElem_cons_succ, List.getElem_cons_zero, Act.put, List.setIfInBounds_toArray, List.set_cons_zero, List.set_cons_succ]
      have z0 := Z.out.cell' 0 (.int .i64 0) rfl
      have z1 := Z.out.cell' 1 (.int .i64 0) rfl
      have z2 := Z.out.cell' 2 (.int .i64 0) rfl
      have y0 := Z.out.free 0
      have y1 := Z.out.free 1
      have y2 := Z.out.free 2
      refine wpAnyM_one (i := 6) rfl (by kernel_rfl) rfl (fun K hK => ?_)
      go_simp
      have hZ := Z.out.st3 (.int .i64 d0) (.int .i64 d1) (.int .i64 d2)
      have m2 := Qw.st3 hSS hN (.int .i64 d0) (.int .i64 d1) (.int .i64 d2)
      refine hK _ _ (fun h => absurd h (by decide)) ?_
      clear hK K hSS z0 z1 z2 y0 y1 y2
      try simp only [List.getElem_toArray, List.getElem_cons_succ, List.getElem_cons_zero, Act.put, List.setIfInBounds_toArray, List.set_cons_zero, List.set_cons_succ]
      refine wpAnyM_done (by kernel_rfl) ?_ _
      go_wp2
      go_meet
      exact ⟨_, rfl, Lib.hid hZ, Lib.hid m2⟩
  case rest =>
    obtain ⟨D, rfl, DX, Q13⟩ := hcut
    have QA := Lib.hid (Qw.trans Q7.out (Qw.trans Q9.out (Qw.trans Q12.out Q13.out)))
    have F8 := Lib.hid (F7.out _ (Qw.trans Q9.out (Qw.trans Q12.out Q13.out)))
    cases ht : f.t
    · obtain ⟨rfl, rfl, rfl⟩ := ST.out ht
      have c26 := F8.out.cell' 26 (.bool false) (at_t ht)
      have e0 := DX.out.cell' 0 (.int .i64 0) rfl
      have e1 := DX.out.cell' 1 (.int .i64 0) rfl
      have e2 := DX.out.cell' 2 (.int .i64 0) rfl
      clear ht
      go_wp2
      go_ret
      exact ⟨rfl, QA.out⟩
    · have hh := HI.out ht
      have hg := HG.out
      rw [hh] at hg
      have HG2 := Lib.hid hg
      have c26 := F8.out.cell' 26 (.bool true) (at_t ht)
      have c27 := F8.out.cell' 27 (.int .i64 f.p) rfl
      have e0 := DX.out.cell' 0 (.int .i64 d0) rfl
      have e1 := DX.out.cell' 1 (.int .i64 d1) rfl
      have e2 := DX.out.cell' 2 (.int .i64 d2) rfl
      clear ht hh hg
      go_wp2_with (go_at_call 31; ((with_reducible refine (HG2.out _).mono ?_); rintro e w14 ⟨rfl, q⟩; have Q14 := Lib.hid q; clear q))
      go_ret
      exact ⟨rfl, Qw.trans QA.out Q14.out⟩

/-! ### the row and the card -/
theorem reads_frameShifts (os : Os) {H : Type} (enc : TypeId × Value → H) : ∃ places, DataW.whole enc Tryd.prog ((laidWorldC os).forCall (fun _ _ => 0) ⟨#[], #[.slice none 0 0, .slice none 0 0], []⟩).memory Tryd.f7.params.toList Rows.frameShiftsSpec.vars false #[(.slice none 0 0 : Value), .slice none 0 0].toList 8 = some ([.nil, .nil], [], places) :=
  ⟨[], by kernel_rfl⟩
set_option maxRecDepth 100000 in
theorem lifted_frameShifts (os : Os) (started : os.Started) (H : Type) (enc : TypeId × Value → H) (F : Stop.Interp) :
    ReturnsInHanded {} Tryd.checked os 7 .any ((OpenSpec.ofChange Rows.frameShiftsSpec).preRow enc Tryd.prog Tryd.f7 Rows.frameShiftsRow.domain false Rows.frameShiftsRow.laid) (((OpenSpec.ofChange Rows.frameShiftsSpec).at F).post enc Tryd.prog Tryd.f7 false true false false) := by
  obtain ⟨places, hx⟩ := reads_frameShifts os enc
  refine returnsInHanded_of_row (C := Tryd.checked) (s := OpenSpec.ofChange Rows.frameShiftsSpec) ownC started (by kernel_rfl) Tryd.func7
    (witness_row_at (enc := enc) (C := Tryd.checked) false (laidWorldC os) #[.slice none 0 0, .slice none 0 0] rfl (by kernel_rfl) (by kernel_rfl) (by kernel_rfl)
      (OpenSpec.preRow_of_cond 8 hx (by kernel_rfl) (fun k hk => by cases hk) (by kernel_rfl) (laid_metC os _))) ?_
  intro W base args ds gs before hval0 hW _ _ _ hL _ _
  have ht : Tc W := tableC hL
  have hval : ∀ (j : Nat) t v, Tryd.f7.params[j]? = some t → args[j]? = some v → Value.okWide Tryd.prog W .any base t v := hval0
  have hW' := hW
  obtain ⟨p, q, hA0, hV, rfl, hfz, hnd⟩ := hW
  have hA : DataW.TrodAll enc Tryd.prog W 0 (fun _ => true) true Tryd.f7.params.toList args.toList ds p := hA0
  rw [Tryd.params7] at hA hval
  obtain ⟨v0, vs0, d0, ds0, p0, q0, hargs, rfl, rfl, h0, r0⟩ := trodAll_cons hA
  obtain ⟨v1, vs1, d1, ds1, p1, q1, rfl, rfl, rfl, h1, r1⟩ := trodAll_cons r0
  obtain ⟨rfl, rfl, rfl⟩ := trodAll_nil r1
  obtain rfl : args = #[v0, v1] := by cases args; simp_all
  obtain ⟨rfl, rfl⟩ := trodVars_none hV
  obtain ⟨u0, hu0⟩ := inM_ints (hval 0 27 v0 rfl rfl) h0
  obtain ⟨u1, hu1⟩ := inM_ints (hval 1 27 v1 rfl rfl) h1
  clear hA0 hval0 hL
  simp only [List.append_nil] at hW'
  refine (walk_frameShifts v0 u0 v1 u1 W hu0 hu1 ht).mono fun e W' ⟨he, bel⟩ => ?_
  subst he
  exact ⟨_, rfl, _, _, _, [], _, [], hW', trodAll_mk1 (shut_bool Tryd.underlying4 _), (trodAll_cons_mk (outM_ints h0 bel (fun x hx => hW'.lt x (by first | exact hx | simp [hx]))) (trodAll_cons_mk (outM_ints h1 bel (fun x hx => hW'.lt x (by first | exact hx | simp [hx]))) trodAll_mk0)), rfl, Below.frame bel _, fun h => by cases h⟩

theorem frameShifts_said : Rows.FrameShiftsSaid :=
  OpenClaim.holds_of_cond 7 Tryd.f7 rfl rfl rfl rfl rfl rfl rfl ⟨rfl, rfl, rfl, rfl, rfl⟩ rfl rfl rfl rfl rfl (by kernel_rfl) Tryd.func7 (by kernel_rfl)
    (of_decide_eq_true (by kernel_rfl)) (by unfold Func.isWrapper; first | (rw [if_pos (by decide +kernel)]; kernel_rfl) | (rw [if_neg (by decide +kernel)]; exact ⟨rfl, rfl⟩))
    (fun os started H enc _ F => by rw [OpenClaim.pre_eq_preRow]; exact lifted_frameShifts os started H enc F)

theorem plain_frameShifts (f : FuncId) (fn : Func) (hf : Tryd.pinned.checked.prog.funcNamed "cnc/cnclaw12.FrameShifts" = some f) (hfn : Tryd.pinned.checked.prog.funcs[f]? = some fn) :
    false = Tryd.pinned.checked.prog.looks [] ∧ ∀ (j : Nat) t, fn.params[j]? = some t → Tryd.pinned.checked.prog.wantsStandIn t = false := by
  obtain rfl : f = 7 := Option.some.inj ((show Tryd.prog.funcNamed "cnc/cnclaw12.FrameShifts" = some 7 by kernel_rfl).symm.trans hf) |>.symm
  obtain rfl : fn = Tryd.f7 := (Option.some.inj (Tryd.func7.symm.trans hfn)).symm
  refine ⟨by kernel_rfl, fun j t ht => ?_⟩
  rw [Tryd.params7] at ht
  obtain rfl : t = 27 := by simpa using Array.mem_of_getElem? ht
  exact (show Tryd.prog.wantsStandIn 27 = false by kernel_rfl)

/-- The statement. -/
theorem frameShifts_card : Rows.FrameShiftsCardSaid :=
  Claim7.holds_tied_plain_at .later [] _ _ _ _ frameShifts_said (fun _ h => by cases h) (by kernel_rfl) (fun _ h => by cases h) frameShifts_row_tie rfl ⟨rfl, rfl⟩ (by kernel_rfl) rfl plain_frameShifts (by kernel_rfl)

end Go.Proofs.YtnjcbgnghfppoaaDoor
