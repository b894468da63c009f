import Derived.Test.YtnjcbgnghfppoaaDoorGK
import Derived.Test.YtnjcbgnghfppoaaDoorGF
import Derived.Deep.DeepCutAuto
import Derived.Deep.Cut

/- The walks of frame.To and frame.From. -/
set_option linter.unusedVariables false
set_option linter.unusedSimpArgs false
namespace Go.Proofs.YtnjcbgnghfppoaaDoor
open Go.RowKit

theorem Qw.st3 {w w' : World} (q : Qw w w') {N : Nat} (hN : w.heap.size ≤ N) (x y z : Value) : Qw w (((w'.setCell ⟨N, 0, none⟩ x).setCell ⟨N, 1, none⟩ y).setCell ⟨N, 2, none⟩ z) := ((q.setCell hN _).setCell hN _).setCell hN _
theorem al_named {w w' : World} (q : Qw w w') (cs : Array Value) (t : TypeId) : ∃ (wn : World) (N : Nat), w'.alloc (.cells cs t) = wn ∧ w'.heap.size = N ∧ w.heap.size ≤ N ∧ Qw w wn ∧ Bx wn N cs t ∧ Qw w' wn :=
  ⟨_, _, rfl, rfl, q.size, Qw.al q _, Bx.new _ _ _, Qw.al (Qw.refl _) _⟩
theorem Bx.st3 {w : World} {N : Nat} {t : TypeId} {a b c : Value} (h : Bx w N #[a, b, c] t) (x y z : Value) : Bx (((w.setCell ⟨N, 0, none⟩ x).setCell ⟨N, 1, none⟩ y).setCell ⟨N, 2, none⟩ z) N #[x, y, z] t := ((h.set 0 x).set 1 y).set 2 z
set_option maxRecDepth 100000 in
set_option maxHeartbeats 8000000 in
theorem fmToT (f : Fm.F) (hg : Fm.Gd f) (ht : f.t = true) (x y z : Int) (h : wth x y z = true) (w : World) (T : Tc w) :
    Calls Tryd.prog 20 #[.agg (frc f), .agg #[.int .i64 x, .int .i64 y, .int .i64 z]] w fun e w' => e = .returned (.tuple #[.agg #[.int .i64 (Fm.toV f x y z (Fm.mx f x y z)), .int .i64 (Fm.toV f x y z (Fm.my f x y z)), .int .i64 (Fm.toV f x y z (Fm.mz f x y z))], .int .i64 (Fm.toE f x y z)]) ∧ Qw w w' := by
  obtain ⟨hx, hy, hz⟩ := Fm.wth_bd h
  have ov := hg.o
  have tb := hg.tb (x := x) (y := y) (z := z) (by omega) (by omega) (by omega) f.a
  have cw := fun w => vc_within x y z (by omega) (by omega) (by omega) (by omega) (by omega) (by omega) w
  have trn := fun P C w' F D T => fmYes f hg P C x y z f.a (by omega) (by omega) (by omega) (by have := hg.a; omega) w' F D T ht
  have v0 : Fm.toV f x y z (Fm.mx f x y z) = Fm.cvx (Fm.tx f x y z f.a + Fm.ox f) (Fm.ty f x y z f.a + Fm.oy f) (Fm.tz f x y z f.a + Fm.oz f) (Fm.tx f x y z f.a + Fm.ox f) := if_pos h
  have v1 : Fm.toV f x y z (Fm.my f x y z) = Fm.cvx (Fm.tx f x y z f.a + Fm.ox f) (Fm.ty f x y z f.a + Fm.oy f) (Fm.tz f x y z f.a + Fm.oz f) (Fm.ty f x y z f.a + Fm.oy f) := if_pos h
  have v2 : Fm.toV f x y z (Fm.mz f x y z) = Fm.cvx (Fm.tx f x y z f.a + Fm.ox f) (Fm.ty f x y z f.a + Fm.oy f) (Fm.tz f x y z f.a + Fm.oz f) (Fm.tz f x y z f.a + Fm.oz f) := if_pos h
  have v3 : Fm.toE f x y z = Fm.cve (Fm.tx f x y z f.a + Fm.ox f) (Fm.ty f x y z f.a + Fm.oy f) (Fm.tz f x y z f.a + Fm.oz f) := if_pos h
  rw [v0, v1, v2, v3]
  clear v0 v1 v2 v3
  rw [h] at cw
  have rot := fun w' => fmRotT f hg ht w'
  have org := fun w' => fmOrigin f hg w'
  have haa := hg.a
  generalize Fm.tx f x y z f.a = U at *
  generalize Fm.ty f x y z f.a = V at *
  generalize Fm.tz f x y z f.a = W at *
  generalize Fm.ox f = o1 at *
  generalize Fm.oy f = o2 at *
  generalize Fm.oz f = o3 at *
  have cad := fun w => vc_add U V W o1 o2 o3 (by omega) (by omega) (by omega) (by omega) (by omega) (by omega) (by omega) (by omega) (by omega) (by omega) (by omega) (by omega) w
  have cco := fun w => fmCoord (U + o1) (V + o2) (W + o3) (by omega) (by omega) (by omega) (by omega) (by omega) (by omega) w
  generalize Fm.cvx (U + o1) (V + o2) (W + o3) (U + o1) = k0 at *
  generalize Fm.cvx (U + o1) (V + o2) (W + o3) (V + o2) = k1 at *
  generalize Fm.cvx (U + o1) (V + o2) (W + o3) (W + o3) = k2 at *
  generalize Fm.cve (U + o1) (V + o2) (W + o3) = k3 at *
  generalize U + o1 = l0 at *
  generalize V + o2 = l1 at *
  generalize W + o3 = l2 at *
  have TRN := Lib.hid trn
  have ROT := Lib.hid rot
  have ORG := Lib.hid org
  have CW := Lib.hid cw
  have CCO := Lib.hid cco
  have CAD := Lib.hid cad
  have TK := Lib.hid (fun (w' : World) (q : Qw w w') => T.kept q)
  clear trn rot org cw cco tb ov hg ht hx hy hz h T cad
  go_enter Tryd.func20, Tryd.ntmps20
  go_upto_region 1 with (refine box_fr 0 rfl ?_; intro w0 P hp X q; have X0 := Lib.hid X; have Q0 := Lib.hid q; clear X q)
  refine code_of (fun w' => Bx w' P (frc f) FT ∧ Bx w' w0.heap.size #[.int .i64 x, .int .i64 y, .int .i64 z] 23 ∧ Bx w' (w0.heap.size + 1) #[.int .i64 0, .int .i64 0, .int .i64 0] 23 ∧ Qw w w') ⟨(X0.out.alloc _).alloc _, (Bx.new _ _ _).alloc _, bxn _ _ _ _, Qw.al (Qw.al Q0.out _) _⟩ ?_
  have hR : w.heap.size ≤ w0.heap.size + 1 := by have := Q0.out.size; omega
  clear X0 Q0 hp
  generalize w0.heap.size + 1 = R at *
  generalize w0.heap.size = A at *
  rintro w0 ⟨F, X, RR, q1⟩
  have y0 := X.cell' 0 (.int .i64 x) rfl
  have y1 := X.cell' 1 (.int .i64 y) rfl
  have y2 := X.cell' 2 (.int .i64 z) rfl
  have F0 := Lib.hid F
  have A0 := Lib.hid X
  have R0 := Lib.hid RR
  have Q0 := Lib.hid q1
  clear F X RR q1
  go_upto_region 3 with (go_at_call 43; ((with_reducible refine (CW.out _).mono ?_); rintro e w1 ⟨rfl, q⟩; have FX := Lib.hid (fun (w' : World) (q' : Qw w1 w') => (F0.out.kept q).kept q'); have AX := Lib.hid (fun (w' : World) (q' : Qw w1 w') => (A0.out.kept q).kept q'); have RX := Lib.hid (fun (w' : World) (q' : Qw w1 w') => (R0.out.kept q).kept q'); have TX := Lib.hid (fun (w' : World) (q' : Qw w1 w') => TK.out _ (Qw.trans (Qw.trans Q0.out q) q')); have Q1 := Lib.hid (Qw.trans Q0.out q); clear q))
  clear y0 y1 y2 F0 A0 R0 Q0 TK CW
  go_cut [6, 7] (fun pv bv wx => ∃ N : Nat, pv = .pointer (some ⟨N, 0, none⟩) ∧ bv = .bool true ∧ Hid (Bx wx N #[.int .i64 U, .int .i64 V, .int .i64 W] 23) ∧ Hid (Qw w1 wx))
  case first =>
    refine wp_region_M (fun wS => Qw w1 wS) 11 (by kernel_rfl) ?_
    have hSS : Qw w1 (World.drew w1) := qw_drew1 w1
    generalize World.drew w1 = wd at *
    refine wpAnyM_take (i := 0) rfl (by kernel_rfl) (fun _ _ _ h => h) (ry_fr (f := f) 2 rfl rfl rfl (fun wS hwS => FX.out wS hwS)) hSS ?_
    simp only [List.getElem_toArray, List.getElem_cons_succ, List.getElem_cons_zero, Act.put, List.setIfInBounds_toArray, List.set_cons_zero, List.set_cons_succ]
    refine wpAnyM_take (i := 2) (v := ?_) rfl (by kernel_rfl) (fun _ _ _ h => h) (Or.inl ⟨by rfl, ?_⟩) hSS ?_
    rotate_left 1
    · intro wS hwS
      have y0 := (AX.out wS hwS).cell' 0 (.int .i64 x) rfl; have y1 := (AX.out wS hwS).cell' 1 (.int .i64 y) rfl; have y2 := (AX.out wS hwS).cell' 2 (.int .i64 z) rfl; go_simp
      try with_reducible rfl
    simp only [List.getElem_toArray, List.getElem_cons_succ, List.getElem_cons_zero, Act.put, List.setIfInBounds_toArray, List.set_cons_zero, List.set_cons_succ]
    refine wpAnyM_take (i := 3) (v := ?_) rfl (by kernel_rfl) (fun _ _ _ h => h) (Or.inl ⟨by rfl, ?_⟩) hSS ?_
    rotate_left 1
    · intro wS hwS
      go_simp
      try with_reducible rfl
    simp only [List.getElem_toArray, List.getElem_cons_succ, List.getElem_cons_zero, Act.put, List.setIfInBounds_toArray, List.set_cons_zero, List.set_cons_succ]
    refine wpAnyM_take (i := 4) (v := ?_) rfl (by kernel_rfl) (fun _ _ _ h => h) (Or.inl ⟨by rfl, ?_⟩) hSS ?_
    rotate_left 1
    · intro wS hwS
      have y3 := (FX.out wS hwS).cell' 31 (.int .i64 f.a) rfl; go_simp
      try with_reducible rfl
    simp only [List.getElem_toArray, List.getElem_cons_succ, List.getElem_cons_zero, Act.put, List.setIfInBounds_toArray, List.set_cons_zero, List.set_cons_succ]
    refine wpAnyM_two (i := 1) (j := 9) rfl rfl (by kernel_rfl) rfl rfl (fun K hK => ?_) (fun K hK => ?_)
    · go_simp
      refine (ROT.out _).mono ?_
      rintro e w5 ⟨PP, CC, rfl, m1, m2, m⟩
      have M1 := Lib.hid (fun (w' : World) (q : Qw w5 w') => m1.kept q)
      have M2 := Lib.hid (fun (w' : World) (q : Qw w5 w') => m2.kept q)
      have Q5 := Lib.hid (Qw.refl w5)
      clear m1 m2
      have m2 := Qw.trans hSS m
      refine hK _ _ (fun _ => m2) ?_
      clear hK K hSS m
      have hSS := m2
      clear m2
      try simp only [List.getElem_toArray, List.getElem_cons_succ, List.getElem_cons_zero, Act.put, List.setIfInBounds_toArray, List.set_cons_zero, List.set_cons_succ]
      refine wpAnyM_two (i := 5) (j := 9) rfl rfl (by kernel_rfl) rfl rfl (fun K hK => ?_) (fun K hK => ?_)
      · go_simp
        refine (TRN.out PP CC _ (M1.out _ Q5.out) (M2.out _ Q5.out) (TX.out _ hSS)).mono ?_
        rintro e w8 ⟨rfl, m⟩
        have m2 := Qw.trans hSS m
        refine hK _ _ (fun _ => m2) ?_
        clear hK K hSS m
        have hSS := m2
        clear m2
        try simp only [List.getElem_toArray, List.getElem_cons_succ, List.getElem_cons_zero, Act.put, List.setIfInBounds_toArray, List.set_cons_zero, List.set_cons_succ]
        refine wpAnyM_take (i := 6) (v := ?_) rfl (by kernel_rfl) (fun _ _ _ h => h) (Or.inl ⟨by rfl, ?_⟩) hSS ?_
        rotate_left 1
        · intro wS hwS
          go_simp
          try with_reducible rfl
        simp only [List.getElem_toArray, List.getElem_cons_succ, List.getElem_cons_zero, Act.put, List.setIfInBounds_toArray, List.set_cons_zero, List.set_cons_succ]
        refine wpAnyM_take (i := 7) (v := ?_) rfl (by kernel_rfl) (fun _ _ _ h => h) (Or.inl ⟨by rfl, ?_⟩) hSS ?_
        rotate_left 1
        · intro wS hwS
          go_simp
          try with_reducible rfl
        simp only [List.getElem_toArray, List.getElem_cons_succ, List.getElem_cons_zero, Act.put, List.setIfInBounds_toArray, List.set_cons_zero, List.set_cons_succ]
        refine wpAnyM_take (i := 8) (v := ?_) rfl (by kernel_rfl) (fun _ _ _ h => h) (Or.inl ⟨by rfl, ?_⟩) hSS ?_
        rotate_left 1
        · intro wS hwS
          go_simp
          try with_reducible rfl
        simp only [List.getElem_toArray, List.getElem_cons_succ, List.getElem_cons_zero, Act.put, List.setIfInBounds_toArray, List.set_cons_zero, List.set_cons_succ]
        refine wpAnyM_one (i := 9) rfl (by kernel_rfl) rfl (fun K hK => ?_)
        go_simp
        refine hK _ _ (fun _ => Qw.al hSS _) ?_
        obtain ⟨wn, N, en, eN, hN, m2, Z, mm⟩ := al_named hSS #[.int .i64 0, .int .i64 0, .int .i64 0] 23
        rw [en, eN]
        replace Z := Lib.hid Z
        clear hK K hSS en eN mm
        have hSS := m2
        clear m2
        try simp only [List.getElem_toArray, List.getElem_cons_succ, List.getElem_cons_zero, Act.put, List.setIfInBounds_toArray, List.set_cons_zero, List.set_cons_succ]
        refine wpAnyM_one (i := 10) rfl (by kernel_rfl) rfl (fun K hK => ?_)
        have z0 := Z.out.cell' 0 (.int .i64 0) rfl
        have z1 := Z.out.cell' 1 (.int .i64 0) rfl
        have z2 := Z.out.cell' 2 (.int .i64 0) rfl
        have y0 := Z.out.free 0
        have y1 := Z.out.free 1
        have y2 := Z.out.free 2
        go_simp
        have hZ := Z.out.st3 (.int .i64 U) (.int .i64 V) (.int .i64 W)
        refine hK _ _ (fun _ => Qw.st3 hSS hN _ _ _) ?_
        have m2 := Qw.st3 hSS hN (.int .i64 U) (.int .i64 V) (.int .i64 W)
        clear hK K hSS z0 z1 z2 y0 y1 y2
        have hSS := m2
        clear m2
        try simp only [List.getElem_toArray, List.getElem_cons_succ, List.getElem_cons_zero, Act.put, List.setIfInBounds_toArray, List.set_cons_zero, List.set_cons_succ]
        refine wpAnyM_one (i := 11) rfl (by kernel_rfl) rfl (fun K hK => ?_)
        go_simp
        refine hK _ _ (fun h => absurd h (by decide)) ?_
        clear hK K
        try simp only [List.getElem_toArray, List.getElem_cons_succ, List.getElem_cons_zero, Act.put, List.setIfInBounds_toArray, List.set_cons_zero, List.set_cons_succ]
        refine wpAnyM_done (by kernel_rfl) ?_ _
        go_wp2
        go_meet
        exact ⟨_, rfl, rfl, Lib.hid hZ, Lib.hid hSS⟩
      · go_simp
        refine hK _ _ (fun _ => Qw.al hSS _) ?_
        obtain ⟨wn, N, en, eN, hN, m2, Z, mm⟩ := al_named hSS #[.int .i64 0, .int .i64 0, .int .i64 0] 23
        rw [en, eN]
        replace Z := Lib.hid Z
        replace Q5 := Lib.hid (Qw.trans Q5.out mm)
        clear hK K hSS en eN mm
        have hSS := m2
        clear m2
        try simp only [List.getElem_toArray, List.getElem_cons_succ, List.getElem_cons_zero, Act.put, List.setIfInBounds_toArray, List.set_cons_zero, List.set_cons_succ]
        refine wpAnyM_one (i := 5) rfl (by kernel_rfl) rfl (fun K hK => ?_)
        go_simp
        refine (TRN.out PP CC _ (M1.out _ Q5.out) (M2.out _ Q5.out) (TX.out _ hSS)).mono ?_
        rintro e w8 ⟨rfl, m⟩
        have Z2 := Lib.hid (Z.out.kept m)
        clear Z
        have Z := Z2
        clear Z2
        have m2 := Qw.trans hSS m
        refine hK _ _ (fun _ => m2) ?_
        clear hK K hSS m
        have hSS := m2
        clear m2
        try simp only [List.getElem_toArray, List.getElem_cons_succ, List.getElem_cons_zero, Act.put, List.setIfInBounds_toArray, List.set_cons_zero, List.set_cons_succ]
        refine wpAnyM_take (i := 6) (v := ?_) rfl (by kernel_rfl) (fun _ _ _ h => h) (Or.inl ⟨by rfl, ?_⟩) hSS ?_
        rotate_left 1
        · intro wS hwS
          go_simp
          try with_reducible rfl
        simp only [List.getElem_toArray, List.getElem_cons_succ, List.getElem_cons_zero, Act.put, List.setIfInBounds_toArray, List.set_cons_zero, List.set_cons_succ]
        refine wpAnyM_take (i := 7) (v := ?_) rfl (by kernel_rfl) (fun _ _ _ h => h) (Or.inl ⟨by rfl, ?_⟩) hSS ?_
        rotate_left 1
        · intro wS hwS
          go_simp
          try with_reducible rfl
        simp only [List.getElem_toArray, List.getElem_cons_succ, List.getElem_cons_zero, Act.put, List.setIfInBounds_toArray, List.set_cons_zero, List.set_cons_succ]
        refine wpAnyM_take (i := 8) (v := ?_) rfl (by kernel_rfl) (fun _ _ _ h => h) (Or.inl ⟨by rfl, ?_⟩) hSS ?_
        rotate_left 1
        · intro wS hwS
          go_simp
          try with_reducible rfl
        simp only [List.getElem_toArray, List.getElem_cons_succ, List.getElem_cons_zero, Act.put, List.setIfInBounds_toArray, List.set_cons_zero, List.set_cons_succ]
        refine wpAnyM_one (i := 10) rfl (by kernel_rfl) rfl (fun K hK => ?_)
        have z0 := Z.out.cell' 0 (.int .i64 0) rfl
        have z1 := Z.out.cell' 1 (.int .i64 0) rfl
        have z2 := Z.out.cell' 2 (.int .i64 0) rfl
        have y0 := Z.out.free 0
        have y1 := Z.out.free 1
        have y2 := Z.out.free 2
        go_simp
        have hZ := Z.out.st3 (.int .i64 U) (.int .i64 V) (.int .i64 W)
        refine hK _ _ (fun _ => Qw.st3 hSS hN _ _ _) ?_
        have m2 := Qw.st3 hSS hN (.int .i64 U) (.int .i64 V) (.int .i64 W)
        clear hK K hSS z0 z1 z2 y0 y1 y2
        have hSS := m2
        clear m2
        try simp only [List.getElem_toArray, List.getElem_cons_succ, List.getElem_cons_zero, Act.put, List.setIfInBounds_toArray, List.set_cons_zero, List.set_cons_succ]
        refine wpAnyM_one (i := 11) rfl (by kernel_rfl) rfl (fun K hK => ?_)
        go_simp
        refine hK _ _ (fun h => absurd h (by decide)) ?_
        clear hK K
        try simp only [List.getElem_toArray, List.getElem_cons_succ, List.getElem_cons_zero, Act.put, List.setIfInBounds_toArray, List.set_cons_zero, List.set_cons_succ]
        refine wpAnyM_done (by kernel_rfl) ?_ _
        go_wp2
        go_meet
        exact ⟨_, rfl, rfl, Lib.hid hZ, Lib.hid hSS⟩
    · go_simp
      refine hK _ _ (fun _ => Qw.al hSS _) ?_
      obtain ⟨wn, N, en, eN, hN, m2, Z, mm⟩ := al_named hSS #[.int .i64 0, .int .i64 0, .int .i64 0] 23
      rw [en, eN]
      replace Z := Lib.hid Z
      clear hK K hSS en eN mm
      have hSS := m2
      clear m2
      try simp only [List.getElem_toArray, List.getElem_cons_succ, List.getElem_cons_zero, Act.put, List.setIfInBounds_toArray, List.set_cons_zero, List.set_cons_succ]
      refine wpAnyM_one (i := 1) rfl (by kernel_rfl) rfl (fun K hK => ?_)
      go_simp
      refine (ROT.out _).mono ?_
      rintro e w5 ⟨PP, CC, rfl, m1, m2, m⟩
      have M1 := Lib.hid (fun (w' : World) (q : Qw w5 w') => m1.kept q)
      have M2 := Lib.hid (fun (w' : World) (q : Qw w5 w') => m2.kept q)
      have Q5 := Lib.hid (Qw.refl w5)
      clear m1 m2
      have Z2 := Lib.hid (Z.out.kept m)
      clear Z
      have Z := Z2
      clear Z2
      have m2 := Qw.trans hSS m
      refine hK _ _ (fun _ => m2) ?_
      clear hK K hSS m
      have hSS := m2
      clear m2
      try simp only [List.getElem_toArray, List.getElem_cons_succ, List.getElem_cons_zero, Act.put, List.setIfInBounds_toArray, List.set_cons_zero, List.set_cons_succ]
      refine wpAnyM_one (i := 5) rfl (by kernel_rfl) rfl (fun K hK => ?_)
      go_simp
      refine (TRN.out PP CC _ (M1.out _ Q5.out) (M2.out _ Q5.out) (TX.out _ hSS)).mono ?_
      rintro e w8 ⟨rfl, m⟩
      have Z2 := Lib.hid (Z.out.kept m)
      clear Z
      have Z := Z2
      clear Z2
      have m2 := Qw.trans hSS m
      refine hK _ _ (fun _ => m2) ?_
      clear hK K hSS m
      have hSS := m2
      clear m2
      try simp only [List.getElem_toArray, List.getElem_cons_succ, List.getElem_cons_zero, Act.put, List.setIfInBounds_toArray, List.set_cons_zero, List.set_cons_succ]
      refine wpAnyM_take (i := 6) (v := ?_) rfl (by kernel_rfl) (fun _ _ _ h => h) (Or.inl ⟨by rfl, ?_⟩) hSS ?_
      rotate_left 1
      · intro wS hwS
        go_simp
        try with_reducible rfl
      simp only [List.getElem_toArray, List.getElem_cons_succ, List.getElem_cons_zero, Act.put, List.setIfInBounds_toArray, List.set_cons_zero, List.set_cons_succ]
      refine wpAnyM_take (i := 7) (v := ?_) rfl (by kernel_rfl) (fun _ _ _ h => h) (Or.inl ⟨by rfl, ?_⟩) hSS ?_
      rotate_left 1
      · intro wS hwS
        go_simp
        try with_reducible rfl
      simp only [List.getElem_toArray, List.getElem_cons_succ, List.getElem_cons_zero, Act.put, List.setIfInBounds_toArray, List.set_cons_zero, List.set_cons_succ]
      refine wpAnyM_take (i := 8) (v := ?_) rfl (by kernel_rfl) (fun _ _ _ h => h) (Or.inl ⟨by rfl, ?_⟩) hSS ?_
      rotate_left 1
      · intro wS hwS
        go_simp
        try with_reducible rfl
      simp only [List.getElem_toArray, List.getElem_cons_succ, List.getElem_cons_zero, Act.put, List.setIfInBounds_toArray, List.set_cons_zero, List.set_cons_succ]
      refine wpAnyM_one (i := 10) rfl (by kernel_rfl) rfl (fun K hK => ?_)
      have z0 := Z.out.cell' 0 (.int .i64 0) rfl
      have z1 := Z.out.cell' 1 (.int .i64 0) rfl
      have z2 := Z.out.cell' 2 (.int .i64 0) rfl
      have y0 := Z.out.free 0
      have y1 := Z.out.free 1
      have y2 := Z.out.free 2
      go_simp
      have hZ := Z.out.st3 (.int .i64 U) (.int .i64 V) (.int .i64 W)
      refine hK _ _ (fun _ => Qw.st3 hSS hN _ _ _) ?_
      have m2 := Qw.st3 hSS hN (.int .i64 U) (.int .i64 V) (.int .i64 W)
      clear hK K hSS z0 z1 z2 y0 y1 y2
      have hSS := m2
      clear m2
      try simp only [List.getElem_toArray, List.getElem_cons_succ, List.getElem_cons_zero, Act.put, List.setIfInBounds_toArray, List.set_cons_zero, List.set_cons_succ]
      refine wpAnyM_one (i := 11) rfl (by kernel_rfl) rfl (fun K hK => ?_)
      go_simp
      refine hK _ _ (fun h => absurd h (by decide)) ?_
      clear hK K
      try simp only [List.getElem_toArray, List.getElem_cons_succ, List.getElem_cons_zero, Act.put, List.setIfInBounds_toArray, List.set_cons_zero, List.set_cons_succ]
      refine wpAnyM_done (by kernel_rfl) ?_ _
      go_wp2
      go_meet
      exact ⟨_, rfl, rfl, Lib.hid hZ, Lib.hid hSS⟩
  case rest =>
    obtain ⟨N, rfl, rfl, NX, Q2⟩ := hcut
    go_upto_region 6 with fail
    refine wp_region_M (fun wS => Qw wc wS) 7 (by kernel_rfl) ?_
    have hSS : Qw wc (World.drew wc) := qw_drew1 wc
    generalize World.drew wc = wd at *
    refine wpAnyM_take (i := 0) (v := ?_) rfl (by kernel_rfl) (fun _ _ _ h => h) (Or.inl ⟨by rfl, ?_⟩) hSS ?_
    rotate_left 1
    · intro wS hwS
      have y0 := (NX.out.kept hwS).cell' 0 (.int .i64 U) rfl; have y1 := (NX.out.kept hwS).cell' 1 (.int .i64 V) rfl; have y2 := (NX.out.kept hwS).cell' 2 (.int .i64 W) rfl; go_simp
      try with_reducible rfl
    simp only [List.getElem_toArray, List.getElem_cons_succ, List.getElem_cons_zero, Act.put, List.setIfInBounds_toArray, List.set_cons_zero, List.set_cons_succ]
    refine wpAnyM_take (i := 1) rfl (by kernel_rfl) (fun _ _ _ h => h) (ry_fr (f := f) 2 rfl rfl rfl (fun wS hwS => FX.out wS (Qw.trans Q2.out hwS))) hSS ?_
    simp only [List.getElem_toArray, List.getElem_cons_succ, List.getElem_cons_zero, Act.put, List.setIfInBounds_toArray, List.set_cons_zero, List.set_cons_succ]
    refine wpAnyM_one (i := 2) rfl (by kernel_rfl) rfl (fun K hK => ?_)
    go_simp
    refine (ORG.out _).mono ?_
    rintro e w6 ⟨rfl, m⟩
    have m2 := Qw.trans hSS m
    refine hK _ _ (fun _ => m2) ?_
    clear hK K hSS m
    have hSS := m2
    clear m2
    try simp only [List.getElem_toArray, List.getElem_cons_succ, List.getElem_cons_zero, Act.put, List.setIfInBounds_toArray, List.set_cons_zero, List.set_cons_succ]
    refine wpAnyM_one (i := 3) rfl (by kernel_rfl) rfl (fun K hK => ?_)
    go_simp
    refine (CAD.out _).mono ?_
    rintro e w7 ⟨rfl, m⟩
    have m2 := Qw.trans hSS m
    refine hK _ _ (fun _ => m2) ?_
    clear hK K hSS m
    have hSS := m2
    clear m2
    try simp only [List.getElem_toArray, List.getElem_cons_succ, List.getElem_cons_zero, Act.put, List.setIfInBounds_toArray, List.set_cons_zero, List.set_cons_succ]
    refine wpAnyM_one (i := 4) rfl (by kernel_rfl) rfl (fun K hK => ?_)
    go_simp
    refine (CCO.out _).mono ?_
    rintro e w8 ⟨rfl, m⟩
    have m2 := Qw.trans hSS m
    refine hK _ _ (fun _ => m2) ?_
    clear hK K hSS m
    have hSS := m2
    clear m2
    try simp only [List.getElem_toArray, List.getElem_cons_succ, List.getElem_cons_zero, Act.put, List.setIfInBounds_toArray, List.set_cons_zero, List.set_cons_succ]
    refine wpAnyM_take (i := 5) (v := ?_) rfl (by kernel_rfl) (fun _ _ _ h => h) (Or.inl ⟨by rfl, ?_⟩) hSS ?_
    rotate_left 1
    · intro wS hwS
      go_simp
      try with_reducible rfl
    simp only [List.getElem_toArray, List.getElem_cons_succ, List.getElem_cons_zero, Act.put, List.setIfInBounds_toArray, List.set_cons_zero, List.set_cons_succ]
    refine wpAnyM_take (i := 6) (v := ?_) rfl (by kernel_rfl) (fun _ _ _ h => h) (Or.inl ⟨by rfl, ?_⟩) hSS ?_
    rotate_left 1
    · intro wS hwS
      go_simp
      try with_reducible rfl
    simp only [List.getElem_toArray, List.getElem_cons_succ, List.getElem_cons_zero, Act.put, List.setIfInBounds_toArray, List.set_cons_zero, List.set_cons_succ]
    have RB := Lib.hid (RX.out _ (Qw.trans Q2.out hSS))
    have z0 := RB.out.cell' 0 (.int .i64 0) rfl
    have z1 := RB.out.cell' 1 (.int .i64 0) rfl
    have z2 := RB.out.cell' 2 (.int .i64 0) rfl
    have y0 := RB.out.free 0
    have y1 := RB.out.free 1
    have y2 := RB.out.free 2
    refine wpAnyM_one (i := 7) rfl (by kernel_rfl) rfl (fun K hK => ?_)
    go_simp
    refine hK _ _ (fun h => absurd h (by decide)) ?_
    clear hK K z0 z1 z2 y0 y1 y2
    try simp only [List.getElem_toArray, List.getElem_cons_succ, List.getElem_cons_zero, Act.put, List.setIfInBounds_toArray, List.set_cons_zero, List.set_cons_succ]
    refine wpAnyM_one (i := 8) rfl (by kernel_rfl) rfl (fun K hK => ?_)
    go_simp
    refine hK _ _ (fun h => absurd h (by decide)) ?_
    clear hK K
    try simp only [List.getElem_toArray, List.getElem_cons_succ, List.getElem_cons_zero, Act.put, List.setIfInBounds_toArray, List.set_cons_zero, List.set_cons_succ]
    refine wpAnyM_done (by kernel_rfl) ?_ _
    go_wp2
    have S := RB.out.st3 (.int .i64 k0) (.int .i64 k1) (.int .i64 k2)
    have t0 := S.cell' 0 (.int .i64 k0) rfl
    have t1 := S.cell' 1 (.int .i64 k1) rfl
    have t2 := S.cell' 2 (.int .i64 k2) rfl
    exact bodyPost_ret (v := .tuple #[.agg #[.int .i64 k0, .int .i64 k1, .int .i64 k2], .int .i64 k3]) (by simp [results, Tryd.results20, go_sem, t0, t1, t2]) rfl ⟨rfl, Qw.st3 (Qw.trans Q1.out (Qw.trans Q2.out hSS)) hR _ _ _⟩
set_option maxRecDepth 100000 in
set_option maxHeartbeats 8000000 in
theorem fmToF (f : Fm.F) (hg : Fm.Gd f) (ht : f.t = false) (x y z : Int) (h : wth x y z = true) (w : World) (T : Tc w) :
    Calls Tryd.prog 20 #[.agg (frc f), .agg #[.int .i64 x, .int .i64 y, .int .i64 z]] w fun e w' => e = .returned (.tuple #[.agg #[.int .i64 (Fm.toV f x y z (Fm.mx f x y z)), .int .i64 (Fm.toV f x y z (Fm.my f x y z)), .int .i64 (Fm.toV f x y z (Fm.mz f x y z))], .int .i64 (Fm.toE f x y z)]) ∧ Qw w w' := by
  obtain ⟨hx, hy, hz⟩ := Fm.wth_bd h
  have ov := hg.o
  have tb := hg.tb (x := x) (y := y) (z := z) (by omega) (by omega) (by omega) f.a
  have cw := fun w => vc_within x y z (by omega) (by omega) (by omega) (by omega) (by omega) (by omega) w
  have trn := fun w' => fmNo x y z f.a w'
  have t0 : Fm.tx f x y z f.a = x := by unfold Fm.tx; rw [ht]; rfl
  have t1 : Fm.ty f x y z f.a = y := by unfold Fm.ty; rw [ht]; rfl
  have t2 : Fm.tz f x y z f.a = z := by unfold Fm.tz; rw [ht]; rfl
  have v0 : Fm.toV f x y z (Fm.mx f x y z) = Fm.cvx (Fm.tx f x y z f.a + Fm.ox f) (Fm.ty f x y z f.a + Fm.oy f) (Fm.tz f x y z f.a + Fm.oz f) (Fm.tx f x y z f.a + Fm.ox f) := if_pos h
  have v1 : Fm.toV f x y z (Fm.my f x y z) = Fm.cvx (Fm.tx f x y z f.a + Fm.ox f) (Fm.ty f x y z f.a + Fm.oy f) (Fm.tz f x y z f.a + Fm.oz f) (Fm.ty f x y z f.a + Fm.oy f) := if_pos h
  have v2 : Fm.toV f x y z (Fm.mz f x y z) = Fm.cvx (Fm.tx f x y z f.a + Fm.ox f) (Fm.ty f x y z f.a + Fm.oy f) (Fm.tz f x y z f.a + Fm.oz f) (Fm.tz f x y z f.a + Fm.oz f) := if_pos h
  have v3 : Fm.toE f x y z = Fm.cve (Fm.tx f x y z f.a + Fm.ox f) (Fm.ty f x y z f.a + Fm.oy f) (Fm.tz f x y z f.a + Fm.oz f) := if_pos h
  rw [v0, v1, v2, v3]
  clear v0 v1 v2 v3
  rw [t0, t1, t2]
  rw [t0, t1, t2] at tb
  rw [h] at cw
  have rot := fun w' => fmRotF f ht w'
  have org := fun w' => fmOrigin f hg w'
  have haa := hg.a
  generalize Fm.ox f = o1 at *
  generalize Fm.oy f = o2 at *
  generalize Fm.oz f = o3 at *
  have cad := fun w => vc_add x y z o1 o2 o3 (by omega) (by omega) (by omega) (by omega) (by omega) (by omega) (by omega) (by omega) (by omega) (by omega) (by omega) (by omega) w
  have cco := fun w => fmCoord (x + o1) (y + o2) (z + o3) (by omega) (by omega) (by omega) (by omega) (by omega) (by omega) w
  generalize Fm.cvx (x + o1) (y + o2) (z + o3) (x + o1) = k0 at *
  generalize Fm.cvx (x + o1) (y + o2) (z + o3) (y + o2) = k1 at *
  generalize Fm.cvx (x + o1) (y + o2) (z + o3) (z + o3) = k2 at *
  generalize Fm.cve (x + o1) (y + o2) (z + o3) = k3 at *
  generalize x + o1 = l0 at *
  generalize y + o2 = l1 at *
  generalize z + o3 = l2 at *
  have TRN := Lib.hid trn
  have ROT := Lib.hid rot
  have ORG := Lib.hid org
  have CW := Lib.hid cw
  have CCO := Lib.hid cco
  have CAD := Lib.hid cad
  have TK := Lib.hid (fun (w' : World) (q : Qw w w') => T.kept q)
  clear trn rot org cw cco tb ov hg ht hx hy hz h T cad
  try clear t0 t1 t2
  go_enter Tryd.func20, Tryd.ntmps20
  go_upto_region 1 with (refine box_fr 0 rfl ?_; intro w0 P hp X q; have X0 := Lib.hid X; have Q0 := Lib.hid q; clear X q)
  refine code_of (fun w' => Bx w' P (frc f) FT ∧ Bx w' w0.heap.size #[.int .i64 x, .int .i64 y, .int .i64 z] 23 ∧ Bx w' (w0.heap.size + 1) #[.int .i64 0, .int .i64 0, .int .i64 0] 23 ∧ Qw w w') ⟨(X0.out.alloc _).alloc _, (Bx.new _ _ _).alloc _, bxn _ _ _ _, Qw.al (Qw.al Q0.out _) _⟩ ?_
  have hR : w.heap.size ≤ w0.heap.size + 1 := by have := Q0.out.size; omega
  clear X0 Q0 hp
  generalize w0.heap.size + 1 = R at *
  generalize w0.heap.size = A at *
  rintro w0 ⟨F, X, RR, q1⟩
  have y0 := X.cell' 0 (.int .i64 x) rfl
  have y1 := X.cell' 1 (.int .i64 y) rfl
  have y2 := X.cell' 2 (.int .i64 z) rfl
  have F0 := Lib.hid F
  have A0 := Lib.hid X
  have R0 := Lib.hid RR
  have Q0 := Lib.hid q1
  clear F X RR q1
  go_upto_region 3 with (go_at_call 43; ((with_reducible refine (CW.out _).mono ?_); rintro e w1 ⟨rfl, q⟩; have FX := Lib.hid (fun (w' : World) (q' : Qw w1 w') => (F0.out.kept q).kept q'); have AX := Lib.hid (fun (w' : World) (q' : Qw w1 w') => (A0.out.kept q).kept q'); have RX := Lib.hid (fun (w' : World) (q' : Qw w1 w') => (R0.out.kept q).kept q'); have TX := Lib.hid (fun (w' : World) (q' : Qw w1 w') => TK.out _ (Qw.trans (Qw.trans Q0.out q) q')); have Q1 := Lib.hid (Qw.trans Q0.out q); clear q))
  clear y0 y1 y2 F0 A0 R0 Q0 TK CW
  go_cut [6, 7] (fun pv bv wx => ∃ N : Nat, pv = .pointer (some ⟨N, 0, none⟩) ∧ bv = .bool true ∧ Hid (Bx wx N #[.int .i64 x, .int .i64 y, .int .i64 z] 23) ∧ Hid (Qw w1 wx))
  case first =>
    refine wp_region_M (fun wS => Qw w1 wS) 11 (by kernel_rfl) ?_
    have hSS : Qw w1 (World.drew w1) := qw_drew1 w1
    generalize World.drew w1 = wd at *
    refine wpAnyM_take (i := 0) rfl (by kernel_rfl) (fun _ _ _ h => h) (ry_fr (f := f) 2 rfl rfl rfl (fun wS hwS => FX.out wS hwS)) hSS ?_
    simp only [List.getElem_toArray, List.getElem_cons_succ, List.getElem_cons_zero, Act.put, List.setIfInBounds_toArray, List.set_cons_zero, List.set_cons_succ]
    refine wpAnyM_take (i := 2) (v := ?_) rfl (by kernel_rfl) (fun _ _ _ h => h) (Or.inl ⟨by rfl, ?_⟩) hSS ?_
    rotate_left 1
    · intro wS hwS
      have y0 := (AX.out wS hwS).cell' 0 (.int .i64 x) rfl; have y1 := (AX.out wS hwS).cell' 1 (.int .i64 y) rfl; have y2 := (AX.out wS hwS).cell' 2 (.int .i64 z) rfl; go_simp
      try with_reducible rfl
    simp only [List.getElem_toArray, List.getElem_cons_succ, List.getElem_cons_zero, Act.put, List.setIfInBounds_toArray, List.set_cons_zero, List.set_cons_succ]
    refine wpAnyM_take (i := 3) (v := ?_) rfl (by kernel_rfl) (fun _ _ _ h => h) (Or.inl ⟨by rfl, ?_⟩) hSS ?_
    rotate_left 1
    · intro wS hwS
      go_simp
      try with_reducible rfl
    simp only [List.getElem_toArray, List.getElem_cons_succ, List.getElem_cons_zero, Act.put, List.setIfInBounds_toArray, List.set_cons_zero, List.set_cons_succ]
    refine wpAnyM_take (i := 4) (v := ?_) rfl (by kernel_rfl) (fun _ _ _ h => h) (Or.inl ⟨by rfl, ?_⟩) hSS ?_
    rotate_left 1
    · intro wS hwS
      have y3 := (FX.out wS hwS).cell' 31 (.int .i64 f.a) rfl; go_simp
      try with_reducible rfl
    simp only [List.getElem_toArray, List.getElem_cons_succ, List.getElem_cons_zero, Act.put, List.setIfInBounds_toArray, List.set_cons_zero, List.set_cons_succ]
    refine wpAnyM_two (i := 1) (j := 9) rfl rfl (by kernel_rfl) rfl rfl (fun K hK => ?_) (fun K hK => ?_)
    · go_simp
      refine (ROT.out _).mono ?_
      rintro e w5 ⟨rfl, m⟩
      have m2 := Qw.trans hSS m
      refine hK _ _ (fun _ => m2) ?_
      clear hK K hSS m
      have hSS := m2
      clear m2
      try simp only [List.getElem_toArray, List.getElem_cons_succ, List.getElem_cons_zero, Act.put, List.setIfInBounds_toArray, List.set_cons_zero, List.set_cons_succ]
      refine wpAnyM_two (i := 5) (j := 9) rfl rfl (by kernel_rfl) rfl rfl (fun K hK => ?_) (fun K hK => ?_)
      · go_simp
        refine (TRN.out _).mono ?_
        rintro e w8 ⟨rfl, m⟩
        have m2 := Qw.trans hSS m
        refine hK _ _ (fun _ => m2) ?_
        clear hK K hSS m
        have hSS := m2
        clear m2
        try simp only [List.getElem_toArray, List.getElem_cons_succ, List.getElem_cons_zero, Act.put, List.setIfInBounds_toArray, List.set_cons_zero, List.set_cons_succ]
        refine wpAnyM_take (i := 6) (v := ?_) rfl (by kernel_rfl) (fun _ _ _ h => h) (Or.inl ⟨by rfl, ?_⟩) hSS ?_
        rotate_left 1
        · intro wS hwS
          go_simp
          try with_reducible rfl
        simp only [List.getElem_toArray, List.getElem_cons_succ, List.getElem_cons_zero, Act.put, List.setIfInBounds_toArray, List.set_cons_zero, List.set_cons_succ]
        refine wpAnyM_take (i := 7) (v := ?_) rfl (by kernel_rfl) (fun _ _ _ h => h) (Or.inl ⟨by rfl, ?_⟩) hSS ?_
        rotate_left 1
        · intro wS hwS
          go_simp
          try with_reducible rfl
        simp only [List.getElem_toArray, List.getElem_cons_succ, List.getElem_cons_zero, Act.put, List.setIfInBounds_toArray, List.set_cons_zero, List.set_cons_succ]
        refine wpAnyM_take (i := 8) (v := ?_) rfl (by kernel_rfl) (fun _ _ _ h => h) (Or.inl ⟨by rfl, ?_⟩) hSS ?_
        rotate_left 1
        · intro wS hwS
          go_simp
          try with_reducible rfl
        simp only [List.getElem_toArray, List.getElem_cons_succ, List.getElem_cons_zero, Act.put, List.setIfInBounds_toArray, List.set_cons_zero, List.set_cons_succ]
        refine wpAnyM_one (i := 9) rfl (by kernel_rfl) rfl (fun K hK => ?_)
        go_simp
        refine hK _ _ (fun _ => Qw.al hSS _) ?_
        obtain ⟨wn, N, en, eN, hN, m2, Z, mm⟩ := al_named hSS #[.int .i64 0, .int .i64 0, .int .i64 0] 23
        rw [en, eN]
        replace Z := Lib.hid Z
        clear hK K hSS en eN mm
        have hSS := m2
        clear m2
        try simp only [List.getElem_toArray, List.getElem_cons_succ, List.getElem_cons_zero, Act.put, List.setIfInBounds_toArray, List.set_cons_zero, List.set_cons_succ]
        refine wpAnyM_one (i := 10) rfl (by kernel_rfl) rfl (fun K hK => ?_)
        have z0 := Z.out.cell' 0 (.int .i64 0) rfl
        have z1 := Z.out.cell' 1 (.int .i64 0) rfl
        have z2 := Z.out.cell' 2 (.int .i64 0) rfl
        have y0 := Z.out.free 0
        have y1 := Z.out.free 1
        have y2 := Z.out.free 2
        go_simp
        have hZ := Z.out.st3 (.int .i64 x) (.int .i64 y) (.int .i64 z)
        refine hK _ _ (fun _ => Qw.st3 hSS hN _ _ _) ?_
        have m2 := Qw.st3 hSS hN (.int .i64 x) (.int .i64 y) (.int .i64 z)
        clear hK K hSS z0 z1 z2 y0 y1 y2
        have hSS := m2
        clear m2
        try simp only [List.getElem_toArray, List.getElem_cons_succ, List.getElem_cons_zero, Act.put, List.setIfInBounds_toArray, List.set_cons_zero, List.set_cons_succ]
        refine wpAnyM_one (i := 11) rfl (by kernel_rfl) rfl (fun K hK => ?_)
        go_simp
        refine hK _ _ (fun h => absurd h (by decide)) ?_
        clear hK K
        try simp only [List.getElem_toArray, List.getElem_cons_succ, List.getElem_cons_zero, Act.put, List.setIfInBounds_toArray, List.set_cons_zero, List.set_cons_succ]
        refine wpAnyM_done (by kernel_rfl) ?_ _
        go_wp2
        go_meet
        exact ⟨_, rfl, rfl, Lib.hid hZ, Lib.hid hSS⟩
      · go_simp
        refine hK _ _ (fun _ => Qw.al hSS _) ?_
        obtain ⟨wn, N, en, eN, hN, m2, Z, mm⟩ := al_named hSS #[.int .i64 0, .int .i64 0, .int .i64 0] 23
        rw [en, eN]
        replace Z := Lib.hid Z
        clear hK K hSS en eN mm
        have hSS := m2
        clear m2
        try simp only [List.getElem_toArray, List.getElem_cons_succ, List.getElem_cons_zero, Act.put, List.setIfInBounds_toArray, List.set_cons_zero, List.set_cons_succ]
        refine wpAnyM_one (i := 5) rfl (by kernel_rfl) rfl (fun K hK => ?_)
        go_simp
        refine (TRN.out _).mono ?_
        rintro e w8 ⟨rfl, m⟩
        have Z2 := Lib.hid (Z.out.kept m)
        clear Z
        have Z := Z2
        clear Z2
        have m2 := Qw.trans hSS m
        refine hK _ _ (fun _ => m2) ?_
        clear hK K hSS m
        have hSS := m2
        clear m2
        try simp only [List.getElem_toArray, List.getElem_cons_succ, List.getElem_cons_zero, Act.put, List.setIfInBounds_toArray, List.set_cons_zero, List.set_cons_succ]
        refine wpAnyM_take (i := 6) (v := ?_) rfl (by kernel_rfl) (fun _ _ _ h => h) (Or.inl ⟨by rfl, ?_⟩) hSS ?_
        rotate_left 1
        · intro wS hwS
          go_simp
          try with_reducible rfl
        simp only [List.getElem_toArray, List.getElem_cons_succ, List.getElem_cons_zero, Act.put, List.setIfInBounds_toArray, List.set_cons_zero, List.set_cons_succ]
        refine wpAnyM_take (i := 7) (v := ?_) rfl (by kernel_rfl) (fun _ _ _ h => h) (Or.inl ⟨by rfl, ?_⟩) hSS ?_
        rotate_left 1
        · intro wS hwS
          go_simp
          try with_reducible rfl
        simp only [List.getElem_toArray, List.getElem_cons_succ, List.getElem_cons_zero, Act.put, List.setIfInBounds_toArray, List.set_cons_zero, List.set_cons_succ]
        refine wpAnyM_take (i := 8) (v := ?_) rfl (by kernel_rfl) (fun _ _ _ h => h) (Or.inl ⟨by rfl, ?_⟩) hSS ?_
        rotate_left 1
        · intro wS hwS
          go_simp
          try with_reducible rfl
        simp only [List.getElem_toArray, List.getElem_cons_succ, List.getElem_cons_zero, Act.put, List.setIfInBounds_toArray, List.set_cons_zero, List.set_cons_succ]
        refine wpAnyM_one (i := 10) rfl (by kernel_rfl) rfl (fun K hK => ?_)
        have z0 := Z.out.cell' 0 (.int .i64 0) rfl
        have z1 := Z.out.cell' 1 (.int .i64 0) rfl
        have z2 := Z.out.cell' 2 (.int .i64 0) rfl
        have y0 := Z.out.free 0
        have y1 := Z.out.free 1
        have y2 := Z.out.free 2
        go_simp
        have hZ := Z.out.st3 (.int .i64 x) (.int .i64 y) (.int .i64 z)
        refine hK _ _ (fun _ => Qw.st3 hSS hN _ _ _) ?_
        have m2 := Qw.st3 hSS hN (.int .i64 x) (.int .i64 y) (.int .i64 z)
        clear hK K hSS z0 z1 z2 y0 y1 y2
        have hSS := m2
        clear m2
        try simp only [List.getElem_toArray, List.getElem_cons_succ, List.getElem_cons_zero, Act.put, List.setIfInBounds_toArray, List.set_cons_zero, List.set_cons_succ]
        refine wpAnyM_one (i := 11) rfl (by kernel_rfl) rfl (fun K hK => ?_)
        go_simp
        refine hK _ _ (fun h => absurd h (by decide)) ?_
        clear hK K
        try simp only [List.getElem_toArray, List.getElem_cons_succ, List.getElem_cons_zero, Act.put, List.setIfInBounds_toArray, List.set_cons_zero, List.set_cons_succ]
        refine wpAnyM_done (by kernel_rfl) ?_ _
        go_wp2
        go_meet
        exact ⟨_, rfl, rfl, Lib.hid hZ, Lib.hid hSS⟩
    · go_simp
      refine hK _ _ (fun _ => Qw.al hSS _) ?_
      obtain ⟨wn, N, en, eN, hN, m2, Z, mm⟩ := al_named hSS #[.int .i64 0, .int .i64 0, .int .i64 0] 23
      rw [en, eN]
      replace Z := Lib.hid Z
      clear hK K hSS en eN mm
      have hSS := m2
      clear m2
      try simp only [List.getElem_toArray, List.getElem_cons_succ, List.getElem_cons_zero, Act.put, List.setIfInBounds_toArray, List.set_cons_zero, List.set_cons_succ]
      refine wpAnyM_one (i := 1) rfl (by kernel_rfl) rfl (fun K hK => ?_)
      go_simp
      refine (ROT.out _).mono ?_
      rintro e w5 ⟨rfl, m⟩
      have Z2 := Lib.hid (Z.out.kept m)
      clear Z
      have Z := Z2
      clear Z2
      have m2 := Qw.trans hSS m
      refine hK _ _ (fun _ => m2) ?_
      clear hK K hSS m
      have hSS := m2
      clear m2
      try simp only [List.getElem_toArray, List.getElem_cons_succ, List.getElem_cons_zero, Act.put, List.setIfInBounds_toArray, List.set_cons_zero, List.set_cons_succ]
      refine wpAnyM_one (i := 5) rfl (by kernel_rfl) rfl (fun K hK => ?_)
      go_simp
      refine (TRN.out _).mono ?_
      rintro e w8 ⟨rfl, m⟩
      have Z2 := Lib.hid (Z.out.kept m)
      clear Z
      have Z := Z2
      clear Z2
      have m2 := Qw.trans hSS m
      refine hK _ _ (fun _ => m2) ?_
      clear hK K hSS m
      have hSS := m2
      clear m2
      try simp only [List.getElem_toArray, List.getElem_cons_succ, List.getElem_cons_zero, Act.put, List.setIfInBounds_toArray, List.set_cons_zero, List.set_cons_succ]
      refine wpAnyM_take (i := 6) (v := ?_) rfl (by kernel_rfl) (fun _ _ _ h => h) (Or.inl ⟨by rfl, ?_⟩) hSS ?_
      rotate_left 1
      · intro wS hwS
        go_simp
        try with_reducible rfl
      simp only [List.getElem_toArray, List.getElem_cons_succ, List.getElem_cons_zero, Act.put, List.setIfInBounds_toArray, List.set_cons_zero, List.set_cons_succ]
      refine wpAnyM_take (i := 7) (v := ?_) rfl (by kernel_rfl) (fun _ _ _ h => h) (Or.inl ⟨by rfl, ?_⟩) hSS ?_
      rotate_left 1
      · intro wS hwS
        go_simp
        try with_reducible rfl
      simp only [List.getElem_toArray, List.getElem_cons_succ, List.getElem_cons_zero, Act.put, List.setIfInBounds_toArray, List.set_cons_zero, List.set_cons_succ]
      refine wpAnyM_take (i := 8) (v := ?_) rfl (by kernel_rfl) (fun _ _ _ h => h) (Or.inl ⟨by rfl, ?_⟩) hSS ?_
      rotate_left 1
      · intro wS hwS
        go_simp
        try with_reducible rfl
      simp only [List.getElem_toArray, List.getElem_cons_succ, List.getElem_cons_zero, Act.put, List.setIfInBounds_toArray, List.set_cons_zero, List.set_cons_succ]
      refine wpAnyM_one (i := 10) rfl (by kernel_rfl) rfl (fun K hK => ?_)
      have z0 := Z.out.cell' 0 (.int .i64 0) rfl
      have z1 := Z.out.cell' 1 (.int .i64 0) rfl
      have z2 := Z.out.cell' 2 (.int .i64 0) rfl
      have y0 := Z.out.free 0
      have y1 := Z.out.free 1
      have y2 := Z.out.free 2
      go_simp
      have hZ := Z.out.st3 (.int .i64 x) (.int .i64 y) (.int .i64 z)
      refine hK _ _ (fun _ => Qw.st3 hSS hN _ _ _) ?_
      have m2 := Qw.st3 hSS hN (.int .i64 x) (.int .i64 y) (.int .i64 z)
      clear hK K hSS z0 z1 z2 y0 y1 y2
      have hSS := m2
      clear m2
      try simp only [List.getElem_toArray, List.getElem_cons_succ, List.getElem_cons_zero, Act.put, List.setIfInBounds_toArray, List.set_cons_zero, List.set_cons_succ]
      refine wpAnyM_one (i := 11) rfl (by kernel_rfl) rfl (fun K hK => ?_)
      go_simp
      refine hK _ _ (fun h => absurd h (by decide)) ?_
      clear hK K
      try simp only [List.getElem_toArray, List.getElem_cons_succ, List.getElem_cons_zero, Act.put, List.setIfInBounds_toArray, List.set_cons_zero, List.set_cons_succ]
      refine wpAnyM_done (by kernel_rfl) ?_ _
      go_wp2
      go_meet
      exact ⟨_, rfl, rfl, Lib.hid hZ, Lib.hid hSS⟩
  case rest =>
    obtain ⟨N, rfl, rfl, NX, Q2⟩ := hcut
    go_upto_region 6 with fail
    refine wp_region_M (fun wS => Qw wc wS) 7 (by kernel_rfl) ?_
    have hSS : Qw wc (World.drew wc) := qw_drew1 wc
    generalize World.drew wc = wd at *
    refine wpAnyM_take (i := 0) (v := ?_) rfl (by kernel_rfl) (fun _ _ _ h => h) (Or.inl ⟨by rfl, ?_⟩) hSS ?_
    rotate_left 1
    · intro wS hwS
      have y0 := (NX.out.kept hwS).cell' 0 (.int .i64 x) rfl; have y1 := (NX.out.kept hwS).cell' 1 (.int .i64 y) rfl; have y2 := (NX.out.kept hwS).cell' 2 (.int .i64 z) rfl; go_simp
      try with_reducible rfl
    simp only [List.getElem_toArray, List.getElem_cons_succ, List.getElem_cons_zero, Act.put, List.setIfInBounds_toArray, List.set_cons_zero, List.set_cons_succ]
    refine wpAnyM_take (i := 1) rfl (by kernel_rfl) (fun _ _ _ h => h) (ry_fr (f := f) 2 rfl rfl rfl (fun wS hwS => FX.out wS (Qw.trans Q2.out hwS))) hSS ?_
    simp only [List.getElem_toArray, List.getElem_cons_succ, List.getElem_cons_zero, Act.put, List.setIfInBounds_toArray, List.set_cons_zero, List.set_cons_succ]
    refine wpAnyM_one (i := 2) rfl (by kernel_rfl) rfl (fun K hK => ?_)
    go_simp
    refine (ORG.out _).mono ?_
    rintro e w6 ⟨rfl, m⟩
    have m2 := Qw.trans hSS m
    refine hK _ _ (fun _ => m2) ?_
    clear hK K hSS m
    have hSS := m2
    clear m2
    try simp only [List.getElem_toArray, List.getElem_cons_succ, List.getElem_cons_zero, Act.put, List.setIfInBounds_toArray, List.set_cons_zero, List.set_cons_succ]
    refine wpAnyM_one (i := 3) rfl (by kernel_rfl) rfl (fun K hK => ?_)
    go_simp
    refine (CAD.out _).mono ?_
    rintro e w7 ⟨rfl, m⟩
    have m2 := Qw.trans hSS m
    refine hK _ _ (fun _ => m2) ?_
    clear hK K hSS m
    have hSS := m2
    clear m2
    try simp only [List.getElem_toArray, List.getElem_cons_succ, List.getElem_cons_zero, Act.put, List.setIfInBounds_toArray, List.set_cons_zero, List.set_cons_succ]
    refine wpAnyM_one (i := 4) rfl (by kernel_rfl) rfl (fun K hK => ?_)
    go_simp
    refine (CCO.out _).mono ?_
    rintro e w8 ⟨rfl, m⟩
    have m2 := Qw.trans hSS m
    refine hK _ _ (fun _ => m2) ?_
    clear hK K hSS m
    have hSS := m2
    clear m2
    try simp only [List.getElem_toArray, List.getElem_cons_succ, List.getElem_cons_zero, Act.put, List.setIfInBounds_toArray, List.set_cons_zero, List.set_cons_succ]
    refine wpAnyM_take (i := 5) (v := ?_) rfl (by kernel_rfl) (fun _ _ _ h => h) (Or.inl ⟨by rfl, ?_⟩) hSS ?_
    rotate_left 1
    · intro wS hwS
      go_simp
      try with_reducible rfl
    simp only [List.getElem_toArray, List.getElem_cons_succ, List.getElem_cons_zero, Act.put, List.setIfInBounds_toArray, List.set_cons_zero, List.set_cons_succ]
    refine wpAnyM_take (i := 6) (v := ?_) rfl (by kernel_rfl) (fun _ _ _ h => h) (Or.inl ⟨by rfl, ?_⟩) hSS ?_
    rotate_left 1
    · intro wS hwS
      go_simp
      try with_reducible rfl
    simp only [List.getElem_toArray, List.getElem_cons_succ, List.getElem_cons_zero, Act.put, List.setIfInBounds_toArray, List.set_cons_zero, List.set_cons_succ]
    have RB := Lib.hid (RX.out _ (Qw.trans Q2.out hSS))
    have z0 := RB.out.cell' 0 (.int .i64 0) rfl
    have z1 := RB.out.cell' 1 (.int .i64 0) rfl
    have z2 := RB.out.cell' 2 (.int .i64 0) rfl
    have y0 := RB.out.free 0
    have y1 := RB.out.free 1
    have y2 := RB.out.free 2
    refine wpAnyM_one (i := 7) rfl (by kernel_rfl) rfl (fun K hK => ?_)
    go_simp
    refine hK _ _ (fun h => absurd h (by decide)) ?_
    clear hK K z0 z1 z2 y0 y1 y2
    try simp only [List.getElem_toArray, List.getElem_cons_succ, List.getElem_cons_zero, Act.put, List.setIfInBounds_toArray, List.set_cons_zero, List.set_cons_succ]
    refine wpAnyM_one (i := 8) rfl (by kernel_rfl) rfl (fun K hK => ?_)
    go_simp
    refine hK _ _ (fun h => absurd h (by decide)) ?_
    clear hK K
    try simp only [List.getElem_toArray, List.getElem_cons_succ, List.getElem_cons_zero, Act.put, List.setIfInBounds_toArray, List.set_cons_zero, List.set_cons_succ]
    refine wpAnyM_done (by kernel_rfl) ?_ _
    go_wp2
    have S := RB.out.st3 (.int .i64 k0) (.int .i64 k1) (.int .i64 k2)
    have t0 := S.cell' 0 (.int .i64 k0) rfl
    have t1 := S.cell' 1 (.int .i64 k1) rfl
    have t2 := S.cell' 2 (.int .i64 k2) rfl
    exact bodyPost_ret (v := .tuple #[.agg #[.int .i64 k0, .int .i64 k1, .int .i64 k2], .int .i64 k3]) (by simp [results, Tryd.results20, go_sem, t0, t1, t2]) rfl ⟨rfl, Qw.st3 (Qw.trans Q1.out (Qw.trans Q2.out hSS)) hR _ _ _⟩
end Go.Proofs.YtnjcbgnghfppoaaDoor
