import Derived.Test.YtnjcbgnghfppoaaDoorGFb
import Derived.Test.YtnjcbgnghfppoaaDoorGN
import Derived.Test.YtnjcbgnghfppoaaDoorGMb

/- The walks of the specification's To and From. -/
set_option linter.unusedVariables false
set_option linter.unusedSimpArgs false
namespace Go.Proofs.YtnjcbgnghfppoaaDoor
open Go.RowKit

theorem wi_true (x y z n : Int) : wiv true x y z n = Fm.cvx x y z n := rfl
theorem we_true (x y z : Int) : wie true x y z = Fm.cve x y z := rfl
set_option maxRecDepth 100000 in
set_option maxHeartbeats 8000000 in
theorem rfTo (f : Fm.F) (hg : Fm.Gd f) (x y z : Int) (h : wth x y z = true) (w : World) :
    Calls Tryd.prog 21 #[.agg (frc f), .agg #[.int .i64 x, .int .i64 y, .int .i64 z]] w fun e w' => e = .returned (.tuple #[.agg #[.int .i64 (Fm.toV f x y z (Fm.mx f x y z)), .int .i64 (Fm.toV f x y z (Fm.my f x y z)), .int .i64 (Fm.toV f x y z (Fm.mz f x y z))], .int .i64 (Fm.toE f x y z)]) ∧ Qw w w' := by
  obtain ⟨hx, hy, hz⟩ := Fm.wth_bd h
  have ov := hg.o
  have cw := fun w => vr_within x y z (by omega) (by omega) (by omega) (by omega) (by omega) (by omega) w
  rw [h] at cw
  have tb := hg.tb (x := x) (y := y) (z := z) (by omega) (by omega) (by omega) f.a
  have trn := fun w => rfTurned f hg x y z f.a (by omega) (by omega) (by omega) (by have := hg.a; omega) w
  have v0 : Fm.toV f x y z (Fm.mx f x y z) = Fm.cvx (Fm.tx f x y z f.a + Fm.ox f) (Fm.ty f x y z f.a + Fm.oy f) (Fm.tz f x y z f.a + Fm.oz f) (Fm.tx f x y z f.a + Fm.ox f) := if_pos h
  have v1 : Fm.toV f x y z (Fm.my f x y z) = Fm.cvx (Fm.tx f x y z f.a + Fm.ox f) (Fm.ty f x y z f.a + Fm.oy f) (Fm.tz f x y z f.a + Fm.oz f) (Fm.ty f x y z f.a + Fm.oy f) := if_pos h
  have v2 : Fm.toV f x y z (Fm.mz f x y z) = Fm.cvx (Fm.tx f x y z f.a + Fm.ox f) (Fm.ty f x y z f.a + Fm.oy f) (Fm.tz f x y z f.a + Fm.oz f) (Fm.tz f x y z f.a + Fm.oz f) := if_pos h
  have v3 : Fm.toE f x y z = Fm.cve (Fm.tx f x y z f.a + Fm.ox f) (Fm.ty f x y z f.a + Fm.oy f) (Fm.tz f x y z f.a + Fm.oz f) := if_pos h
  rw [v0, v1, v2, v3]
  clear v0 v1 v2 v3
  have org := fun w' => rfOrigin f hg w'
  generalize Fm.tx f x y z f.a = U at *
  generalize Fm.ty f x y z f.a = V at *
  generalize Fm.tz f x y z f.a = W at *
  generalize Fm.ox f = o1 at *
  generalize Fm.oy f = o2 at *
  generalize Fm.oz f = o3 at *
  have cad := fun w => vr_add U V W o1 o2 o3 (by omega) (by omega) (by omega) (by omega) (by omega) (by omega) (by omega) (by omega) (by omega) (by omega) (by omega) (by omega) w
  have cco := fun w => rfWithin (U + o1) (V + o2) (W + o3) true (by omega) (by omega) (by omega) (by omega) (by omega) (by omega) w
  simp only [wi_true, we_true] at cco
  generalize Fm.cvx (U + o1) (V + o2) (W + o3) (U + o1) = k0 at *
  generalize Fm.cvx (U + o1) (V + o2) (W + o3) (V + o2) = k1 at *
  generalize Fm.cvx (U + o1) (V + o2) (W + o3) (W + o3) = k2 at *
  generalize Fm.cve (U + o1) (V + o2) (W + o3) = k3 at *
  generalize U + o1 = l0 at *
  generalize V + o2 = l1 at *
  generalize W + o3 = l2 at *
  have CAD := Lib.hid cad
  clear cad
  have CW := Lib.hid cw
  have TRN := Lib.hid trn
  have ORG := Lib.hid org
  have CCO := Lib.hid cco
  clear cw trn org cco tb ov hg hx hy hz h
  go_enter Tryd.func21, Tryd.ntmps21
  go_upto_region 1 with (refine box_fr 0 rfl ?_; intro w0 P hp X q; have X0 := Lib.hid X; have Q0 := Lib.hid q; clear X q)
  refine code_of (fun w' => Bx w' P (frc f) FT ∧ Bx w' w0.heap.size #[.int .i64 x, .int .i64 y, .int .i64 z] 23 ∧ Bx w' (w0.heap.size + 1) #[.int .i64 0, .int .i64 0, .int .i64 0] 23 ∧ Qw w w') ⟨(X0.out.alloc _).alloc _, (Bx.new _ _ _).alloc _, bxn _ _ _ _, Qw.al (Qw.al Q0.out _) _⟩ ?_
  have hR : w.heap.size ≤ w0.heap.size + 1 := by have := Q0.out.size; omega
  clear X0 Q0 hp
  generalize w0.heap.size + 1 = R at *
  generalize w0.heap.size = A at *
  rintro w0 ⟨F, X, RR, q1⟩
  have y0 := X.cell' 0 (.int .i64 x) rfl
  have y1 := X.cell' 1 (.int .i64 y) rfl
  have y2 := X.cell' 2 (.int .i64 z) rfl
  have F0 := Lib.hid F
  have A0 := Lib.hid X
  have R0 := Lib.hid RR
  have Q0 := Lib.hid q1
  clear F X RR q1
  go_upto_region 3 with (go_at_call 46; ((with_reducible refine (CW.out _).mono ?_); rintro e w1 ⟨rfl, q⟩; have FX := Lib.hid (fun (w' : World) (q' : Qw w1 w') => (F0.out.kept q).kept q'); have AX := Lib.hid (fun (w' : World) (q' : Qw w1 w') => (A0.out.kept q).kept q'); have RX := Lib.hid (fun (w' : World) (q' : Qw w1 w') => (R0.out.kept q).kept q'); have Q1 := Lib.hid (Qw.trans Q0.out q); clear q))
  clear y0 y1 y2 F0 A0 R0 Q0 CW
  have y0 := (AX.out _ (Qw.refl w1)).cell' 0 (.int .i64 x) rfl
  have y1 := (AX.out _ (Qw.refl w1)).cell' 1 (.int .i64 y) rfl
  have y2 := (AX.out _ (Qw.refl w1)).cell' 2 (.int .i64 z) rfl
  have y3 := (FX.out _ (Qw.refl w1)).cell' 31 (.int .i64 f.a) rfl
  go_upto_region 4 with (first | (refine ld_fr 2 rfl (FX.out _ (Qw.refl w1)) ?_) | (go_at_call 51; ((with_reducible refine (TRN.out _).mono ?_); rintro e w2 ⟨rfl, q⟩; have Q2 := Lib.hid q; clear q)))
  refine code_of (fun w' => Bx w' w2.heap.size #[.int .i64 U, .int .i64 V, .int .i64 W] 23 ∧ Qw w1 w') ⟨Bx.new _ _ _, Qw.al Q2.out _⟩ ?_
  clear y0 y1 y2 y3 Q2
  generalize w2.heap.size = N at *
  rintro wc ⟨NX0, q2⟩
  have NX := Lib.hid NX0
  have Q2 := Lib.hid q2
  clear NX0 q2
  refine wp_region_M (fun wS => Qw wc wS) 8 (by kernel_rfl) ?_
  have hSS : Qw wc (World.drew wc) := qw_drew1 wc
  generalize World.drew wc = wd at *
  refine wpAnyM_take (i := 0) (v := ?_) rfl (by kernel_rfl) (fun _ _ _ h => h) (Or.inl ⟨by rfl, ?_⟩) hSS ?_
  rotate_left 1
  · intro wS hwS
    have y0 := (NX.out.kept hwS).cell' 0 (.int .i64 U) rfl; have y1 := (NX.out.kept hwS).cell' 1 (.int .i64 V) rfl; have y2 := (NX.out.kept hwS).cell' 2 (.int .i64 W) rfl; go_simp
    try with_reducible rfl
  simp only [List.getElem_toArray, List.getElem_cons_succ, List.getElem_cons_zero, Act.put, List.setIfInBounds_toArray, List.set_cons_zero, List.set_cons_succ]
  refine wpAnyM_take (i := 1) rfl (by kernel_rfl) (fun _ _ _ h => h) (ry_fr (f := f) 2 rfl rfl rfl (fun wS hwS => FX.out wS (Qw.trans Q2.out hwS))) hSS ?_
  simp only [List.getElem_toArray, List.getElem_cons_succ, List.getElem_cons_zero, Act.put, List.setIfInBounds_toArray, List.set_cons_zero, List.set_cons_succ]
  refine wpAnyM_take (i := 4) (v := ?_) rfl (by kernel_rfl) (fun _ _ _ h => h) (Or.inl ⟨by rfl, ?_⟩) hSS ?_
  rotate_left 1
  · intro wS hwS
    go_simp
    try with_reducible rfl
  simp only [List.getElem_toArray, List.getElem_cons_succ, List.getElem_cons_zero, Act.put, List.setIfInBounds_toArray, List.set_cons_zero, List.set_cons_succ]
  refine wpAnyM_one (i := 2) rfl (by kernel_rfl) rfl (fun K hK => ?_)
  go_simp
  refine (ORG.out _).mono ?_
  rintro e w6 ⟨rfl, m⟩
  have m2 := Qw.trans hSS m
  refine hK _ _ (fun _ => m2) ?_
  clear hK K hSS m
  have hSS := m2
  clear m2
  try simp only [List.getElem_toArray, List.getElem_cons_succ, List.getElem_cons_zero, Act.put, List.setIfInBounds_toArray, List.set_cons_zero, List.set_cons_succ]
  refine wpAnyM_one (i := 3) rfl (by kernel_rfl) rfl (fun K hK => ?_)
  go_simp
  refine (CAD.out _).mono ?_
  rintro e w7 ⟨rfl, m⟩
  have m2 := Qw.trans hSS m
  refine hK _ _ (fun _ => m2) ?_
  clear hK K hSS m
  have hSS := m2
  clear m2
  try simp only [List.getElem_toArray, List.getElem_cons_succ, List.getElem_cons_zero, Act.put, List.setIfInBounds_toArray, List.set_cons_zero, List.set_cons_succ]
  refine wpAnyM_one (i := 5) rfl (by kernel_rfl) rfl (fun K hK => ?_)
  go_simp
  refine (CCO.out _).mono ?_
  rintro e w8 ⟨rfl, m⟩
  have m2 := Qw.trans hSS m
  refine hK _ _ (fun _ => m2) ?_
  clear hK K hSS m
  have hSS := m2
  clear m2
  try simp only [List.getElem_toArray, List.getElem_cons_succ, List.getElem_cons_zero, Act.put, List.setIfInBounds_toArray, List.set_cons_zero, List.set_cons_succ]
  refine wpAnyM_take (i := 6) (v := ?_) rfl (by kernel_rfl) (fun _ _ _ h => h) (Or.inl ⟨by rfl, ?_⟩) hSS ?_
  rotate_left 1
  · intro wS hwS
    go_simp
    try with_reducible rfl
  simp only [List.getElem_toArray, List.getElem_cons_succ, List.getElem_cons_zero, Act.put, List.setIfInBounds_toArray, List.set_cons_zero, List.set_cons_succ]
  refine wpAnyM_take (i := 7) (v := ?_) rfl (by kernel_rfl) (fun _ _ _ h => h) (Or.inl ⟨by rfl, ?_⟩) hSS ?_
  rotate_left 1
  · intro wS hwS
    go_simp
    try with_reducible rfl
  simp only [List.getElem_toArray, List.getElem_cons_succ, List.getElem_cons_zero, Act.put, List.setIfInBounds_toArray, List.set_cons_zero, List.set_cons_succ]
  have RB := Lib.hid (RX.out _ (Qw.trans Q2.out hSS))
  have z0 := RB.out.cell' 0 (.int .i64 0) rfl
  have z1 := RB.out.cell' 1 (.int .i64 0) rfl
  have z2 := RB.out.cell' 2 (.int .i64 0) rfl
  have y0 := RB.out.free 0
  have y1 := RB.out.free 1
  have y2 := RB.out.free 2
  refine wpAnyM_one (i := 8) rfl (by kernel_rfl) rfl (fun K hK => ?_)
  go_simp
  refine hK _ _ (fun h => absurd h (by decide)) ?_
  clear hK K z0 z1 z2 y0 y1 y2
  try simp only [List.getElem_toArray, List.getElem_cons_succ, List.getElem_cons_zero, Act.put, List.setIfInBounds_toArray, List.set_cons_zero, List.set_cons_succ]
  refine wpAnyM_one (i := 9) rfl (by kernel_rfl) rfl (fun K hK => ?_)
  go_simp
  refine hK _ _ (fun h => absurd h (by decide)) ?_
  clear hK K
  try simp only [List.getElem_toArray, List.getElem_cons_succ, List.getElem_cons_zero, Act.put, List.setIfInBounds_toArray, List.set_cons_zero, List.set_cons_succ]
  refine wpAnyM_done (by kernel_rfl) ?_ _
  go_wp2
  have S := RB.out.st3 (.int .i64 k0) (.int .i64 k1) (.int .i64 k2)
  have t0 := S.cell' 0 (.int .i64 k0) rfl
  have t1 := S.cell' 1 (.int .i64 k1) rfl
  have t2 := S.cell' 2 (.int .i64 k2) rfl
  exact bodyPost_ret (v := .tuple #[.agg #[.int .i64 k0, .int .i64 k1, .int .i64 k2], .int .i64 k3]) (by simp [results, Tryd.results21, go_sem, t0, t1, t2]) rfl ⟨rfl, Qw.st3 (Qw.trans Q1.out (Qw.trans Q2.out hSS)) hR _ _ _⟩
set_option maxRecDepth 100000 in
set_option maxHeartbeats 8000000 in
theorem rfFrom (f : Fm.F) (hg : Fm.Gd f) (x y z : Int) (h : wth x y z = true) (w : World) :
    Calls Tryd.prog 23 #[.agg (frc f), .agg #[.int .i64 x, .int .i64 y, .int .i64 z]] w fun e w' => e = .returned (.tuple #[.agg #[.int .i64 (Fm.frV f x y z (Fm.px f x y z)), .int .i64 (Fm.frV f x y z (Fm.py f x y z)), .int .i64 (Fm.frV f x y z (Fm.pz f x y z))], .int .i64 (Fm.frE f x y z)]) ∧ Qw w w' := by
  obtain ⟨hx, hy, hz⟩ := Fm.wth_bd h
  have ov := hg.o
  have cw := fun w => vr_within x y z (by omega) (by omega) (by omega) (by omega) (by omega) (by omega) w
  rw [h] at cw
  have haa := hg.a
  have EW : Hid (IntKind.i64.wrap (-f.a) = -f.a) := Lib.hid (IntWalk.i64_in _ (by omega))
  have tb := hg.tb (x := x - Fm.ox f) (y := y - Fm.oy f) (z := z - Fm.oz f) (by omega) (by omega) (by omega) (-f.a)
  have trn := fun w => rfTurned f hg (x - Fm.ox f) (y - Fm.oy f) (z - Fm.oz f) (-f.a) (by omega) (by omega) (by omega) (by omega) w
  have csu := fun w => vr_sub x y z (Fm.ox f) (Fm.oy f) (Fm.oz f) (by omega) (by omega) (by omega) (by omega) (by omega) (by omega) (by omega) (by omega) (by omega) (by omega) (by omega) (by omega) w
  have v0 : Fm.frV f x y z (Fm.px f x y z) = Fm.cvx (Fm.tx f (x - Fm.ox f) (y - Fm.oy f) (z - Fm.oz f) (-f.a)) (Fm.ty f (x - Fm.ox f) (y - Fm.oy f) (z - Fm.oz f) (-f.a)) (Fm.tz f (x - Fm.ox f) (y - Fm.oy f) (z - Fm.oz f) (-f.a)) (Fm.tx f (x - Fm.ox f) (y - Fm.oy f) (z - Fm.oz f) (-f.a)) := if_pos h
  have v1 : Fm.frV f x y z (Fm.py f x y z) = Fm.cvx (Fm.tx f (x - Fm.ox f) (y - Fm.oy f) (z - Fm.oz f) (-f.a)) (Fm.ty f (x - Fm.ox f) (y - Fm.oy f) (z - Fm.oz f) (-f.a)) (Fm.tz f (x - Fm.ox f) (y - Fm.oy f) (z - Fm.oz f) (-f.a)) (Fm.ty f (x - Fm.ox f) (y - Fm.oy f) (z - Fm.oz f) (-f.a)) := if_pos h
  have v2 : Fm.frV f x y z (Fm.pz f x y z) = Fm.cvx (Fm.tx f (x - Fm.ox f) (y - Fm.oy f) (z - Fm.oz f) (-f.a)) (Fm.ty f (x - Fm.ox f) (y - Fm.oy f) (z - Fm.oz f) (-f.a)) (Fm.tz f (x - Fm.ox f) (y - Fm.oy f) (z - Fm.oz f) (-f.a)) (Fm.tz f (x - Fm.ox f) (y - Fm.oy f) (z - Fm.oz f) (-f.a)) := if_pos h
  have v3 : Fm.frE f x y z = Fm.cve (Fm.tx f (x - Fm.ox f) (y - Fm.oy f) (z - Fm.oz f) (-f.a)) (Fm.ty f (x - Fm.ox f) (y - Fm.oy f) (z - Fm.oz f) (-f.a)) (Fm.tz f (x - Fm.ox f) (y - Fm.oy f) (z - Fm.oz f) (-f.a)) := if_pos h
  rw [v0, v1, v2, v3]
  clear v0 v1 v2 v3
  have org := fun w' => rfOrigin f hg w'
  generalize Fm.tx f (x - Fm.ox f) (y - Fm.oy f) (z - Fm.oz f) (-f.a) = U at *
  generalize Fm.ty f (x - Fm.ox f) (y - Fm.oy f) (z - Fm.oz f) (-f.a) = V at *
  generalize Fm.tz f (x - Fm.ox f) (y - Fm.oy f) (z - Fm.oz f) (-f.a) = W at *
  generalize Fm.ox f = o1 at *
  generalize Fm.oy f = o2 at *
  generalize Fm.oz f = o3 at *
  generalize x - o1 = U' at *
  generalize y - o2 = V' at *
  generalize z - o3 = W' at *
  have cco := fun w => rfWithin U V W true (by omega) (by omega) (by omega) (by omega) (by omega) (by omega) w
  simp only [wi_true, we_true] at cco
  generalize Fm.cvx U V W U = k0 at *
  generalize Fm.cvx U V W V = k1 at *
  generalize Fm.cvx U V W W = k2 at *
  generalize Fm.cve U V W = k3 at *
  have SUB := Lib.hid csu
  clear csu
  have CW := Lib.hid cw
  have TRN := Lib.hid trn
  have ORG := Lib.hid org
  have CCO := Lib.hid cco
  clear cw trn org cco tb ov hg hx hy hz h
  go_enter Tryd.func23, Tryd.ntmps23
  go_upto_region 1 with (refine box_fr 0 rfl ?_; intro w0 P hp X q; have X0 := Lib.hid X; have Q0 := Lib.hid q; clear X q)
  refine code_of (fun w' => Bx w' P (frc f) FT ∧ Bx w' w0.heap.size #[.int .i64 x, .int .i64 y, .int .i64 z] 23 ∧ Bx w' (w0.heap.size + 1) #[.int .i64 0, .int .i64 0, .int .i64 0] 23 ∧ Qw w w') ⟨(X0.out.alloc _).alloc _, (Bx.new _ _ _).alloc _, bxn _ _ _ _, Qw.al (Qw.al Q0.out _) _⟩ ?_
  have hR : w.heap.size ≤ w0.heap.size + 1 := by have := Q0.out.size; omega
  clear X0 Q0 hp
  generalize w0.heap.size + 1 = R at *
  generalize w0.heap.size = A at *
  rintro w0 ⟨F, X, RR, q1⟩
  have y0 := X.cell' 0 (.int .i64 x) rfl
  have y1 := X.cell' 1 (.int .i64 y) rfl
  have y2 := X.cell' 2 (.int .i64 z) rfl
  have F0 := Lib.hid F
  have A0 := Lib.hid X
  have R0 := Lib.hid RR
  have Q0 := Lib.hid q1
  clear F X RR q1
  go_upto_region 3 with (go_at_call 46; ((with_reducible refine (CW.out _).mono ?_); rintro e w1 ⟨rfl, q⟩; have FX := Lib.hid (fun (w' : World) (q' : Qw w1 w') => (F0.out.kept q).kept q'); have AX := Lib.hid (fun (w' : World) (q' : Qw w1 w') => (A0.out.kept q).kept q'); have RX := Lib.hid (fun (w' : World) (q' : Qw w1 w') => (R0.out.kept q).kept q'); have Q1 := Lib.hid (Qw.trans Q0.out q); clear q))
  clear y0 y1 y2 F0 A0 R0 Q0 CW
  go_cut [6, 7] (fun pv bv wx => ∃ N : Nat, pv = .pointer (some ⟨N, 0, none⟩) ∧ bv = .bool true ∧ Hid (Bx wx N #[.int .i64 U, .int .i64 V, .int .i64 W] 23) ∧ Hid (Qw w1 wx))
  case first =>
    refine wp_region_M (fun wS => Qw w1 wS) 14 (by kernel_rfl) ?_
    have hSS : Qw w1 (World.drew w1) := qw_drew1 w1
    generalize World.drew w1 = wd at *
    refine wpAnyM_take (i := 0) rfl (by kernel_rfl) (fun _ _ _ h => h) (ry_fr (f := f) 2 rfl rfl rfl (fun wS hwS => FX.out wS hwS)) hSS ?_
    simp only [List.getElem_toArray, List.getElem_cons_succ, List.getElem_cons_zero, Act.put, List.setIfInBounds_toArray, List.set_cons_zero, List.set_cons_succ]
    refine wpAnyM_take (i := 1) (v := ?_) rfl (by kernel_rfl) (fun _ _ _ h => h) (Or.inl ⟨by rfl, ?_⟩) hSS ?_
    rotate_left 1
    · intro wS hwS
      have y0 := (AX.out wS hwS).cell' 0 (.int .i64 x) rfl; have y1 := (AX.out wS hwS).cell' 1 (.int .i64 y) rfl; have y2 := (AX.out wS hwS).cell' 2 (.int .i64 z) rfl; go_simp
      try with_reducible rfl
    simp only [List.getElem_toArray, List.getElem_cons_succ, List.getElem_cons_zero, Act.put, List.setIfInBounds_toArray, List.set_cons_zero, List.set_cons_succ]
    refine wpAnyM_take (i := 2) rfl (by kernel_rfl) (fun _ _ _ h => h) (ry_fr (f := f) 2 rfl rfl rfl (fun wS hwS => FX.out wS hwS)) hSS ?_
    simp only [List.getElem_toArray, List.getElem_cons_succ, List.getElem_cons_zero, Act.put, List.setIfInBounds_toArray, List.set_cons_zero, List.set_cons_succ]
    refine wpAnyM_take (i := 5) (v := ?_) rfl (by kernel_rfl) (fun _ _ _ h => h) (Or.inl ⟨by rfl, ?_⟩) hSS ?_
    rotate_left 1
    · intro wS hwS
      go_simp
      try with_reducible rfl
    simp only [List.getElem_toArray, List.getElem_cons_succ, List.getElem_cons_zero, Act.put, List.setIfInBounds_toArray, List.set_cons_zero, List.set_cons_succ]
    refine wpAnyM_take (i := 6) (v := ?_) rfl (by kernel_rfl) (fun _ _ _ h => h) (Or.inl ⟨by rfl, ?_⟩) hSS ?_
    rotate_left 1
    · intro wS hwS
      have y := (FX.out wS hwS).cell' 31 (.int .i64 f.a) rfl; go_simp
      try with_reducible rfl
    simp only [List.getElem_toArray, List.getElem_cons_succ, List.getElem_cons_zero, Act.put, List.setIfInBounds_toArray, List.set_cons_zero, List.set_cons_succ]
    refine wpAnyM_take (i := 7) (v := ?_) rfl (by kernel_rfl) (fun _ _ _ h => h) (Or.inl ⟨by rfl, ?_⟩) hSS ?_
    rotate_left 1
    · intro wS hwS
      have ew := EW.out; go_simp
      try with_reducible rfl
    simp only [List.getElem_toArray, List.getElem_cons_succ, List.getElem_cons_zero, Act.put, List.setIfInBounds_toArray, List.set_cons_zero, List.set_cons_succ]
    refine wpAnyM_two (i := 3) (j := 12) rfl rfl (by kernel_rfl) rfl rfl (fun K hK => ?_) (fun K hK => ?_)
    · go_simp
      refine (ORG.out _).mono ?_
      rintro e w6 ⟨rfl, m⟩
      have m2 := Qw.trans hSS m
      refine hK _ _ (fun _ => m2) ?_
      clear hK K hSS m
      have hSS := m2
      clear m2
      try simp only [List.getElem_toArray, List.getElem_cons_succ, List.getElem_cons_zero, Act.put, List.setIfInBounds_toArray, List.set_cons_zero, List.set_cons_succ]
      refine wpAnyM_two (i := 4) (j := 12) rfl rfl (by kernel_rfl) rfl rfl (fun K hK => ?_) (fun K hK => ?_)
      · go_simp
        refine (SUB.out _).mono ?_
        rintro e w7 ⟨rfl, m⟩
        have m2 := Qw.trans hSS m
        refine hK _ _ (fun _ => m2) ?_
        clear hK K hSS m
        have hSS := m2
        clear m2
        try simp only [List.getElem_toArray, List.getElem_cons_succ, List.getElem_cons_zero, Act.put, List.setIfInBounds_toArray, List.set_cons_zero, List.set_cons_succ]
        refine wpAnyM_two (i := 8) (j := 12) rfl rfl (by kernel_rfl) rfl rfl (fun K hK => ?_) (fun K hK => ?_)
        · go_simp
          refine (TRN.out _).mono ?_
          rintro e w8 ⟨rfl, m⟩
          have m2 := Qw.trans hSS m
          refine hK _ _ (fun _ => m2) ?_
          clear hK K hSS m
          have hSS := m2
          clear m2
          try simp only [List.getElem_toArray, List.getElem_cons_succ, List.getElem_cons_zero, Act.put, List.setIfInBounds_toArray, List.set_cons_zero, List.set_cons_succ]
          refine wpAnyM_take (i := 9) (v := ?_) rfl (by kernel_rfl) (fun _ _ _ h => h) (Or.inl ⟨by rfl, ?_⟩) hSS ?_
          rotate_left 1
          · intro wS hwS
            go_simp
            try with_reducible rfl
          simp only [List.getElem_toArray, List.getElem_cons_succ, List.getElem_cons_zero, Act.put, List.setIfInBounds_toArray, List.set_cons_zero, List.set_cons_succ]
          refine wpAnyM_take (i := 10) (v := ?_) rfl (by kernel_rfl) (fun _ _ _ h => h) (Or.inl ⟨by rfl, ?_⟩) hSS ?_
          rotate_left 1
          · intro wS hwS
            go_simp
            try with_reducible rfl
          simp only [List.getElem_toArray, List.getElem_cons_succ, List.getElem_cons_zero, Act.put, List.setIfInBounds_toArray, List.set_cons_zero, List.set_cons_succ]
          refine wpAnyM_take (i := 11) (v := ?_) rfl (by kernel_rfl) (fun _ _ _ h => h) (Or.inl ⟨by rfl, ?_⟩) hSS ?_
          rotate_left 1
          · intro wS hwS
            go_simp
            try with_reducible rfl
          simp only [List.getElem_toArray, List.getElem_cons_succ, List.getElem_cons_zero, Act.put, List.setIfInBounds_toArray, List.set_cons_zero, List.set_cons_succ]
          refine wpAnyM_one (i := 12) rfl (by kernel_rfl) rfl (fun K hK => ?_)
          go_simp
          refine hK _ _ (fun _ => Qw.al hSS _) ?_
          obtain ⟨wn, N, en, eN, hN, m2, Z, mm⟩ := al_named hSS #[.int .i64 0, .int .i64 0, .int .i64 0] 23
          rw [en, eN]
          replace Z := Lib.hid Z
          clear hK K hSS en eN mm
          have hSS := m2
          clear m2
          try simp only [List.getElem_toArray, List.getElem_cons_succ, List.getElem_cons_zero, Act.put, List.setIfInBounds_toArray, List.set_cons_zero, List.set_cons_succ]
          refine wpAnyM_one (i := 13) rfl (by kernel_rfl) rfl (fun K hK => ?_)
          have z0 := Z.out.cell' 0 (.int .i64 0) rfl
          have z1 := Z.out.cell' 1 (.int .i64 0) rfl
          have z2 := Z.out.cell' 2 (.int .i64 0) rfl
          have y0 := Z.out.free 0
          have y1 := Z.out.free 1
          have y2 := Z.out.free 2
          go_simp
          have hZ := Z.out.st3 (.int .i64 U) (.int .i64 V) (.int .i64 W)
          refine hK _ _ (fun _ => Qw.st3 hSS hN _ _ _) ?_
          have m2 := Qw.st3 hSS hN (.int .i64 U) (.int .i64 V) (.int .i64 W)
          clear hK K hSS z0 z1 z2 y0 y1 y2
          have hSS := m2
          clear m2
          try simp only [List.getElem_toArray, List.getElem_cons_succ, List.getElem_cons_zero, Act.put, List.setIfInBounds_toArray, List.set_cons_zero, List.set_cons_succ]
          refine wpAnyM_one (i := 14) rfl (by kernel_rfl) rfl (fun K hK => ?_)
          go_simp
          refine hK _ _ (fun h => absurd h (by decide)) ?_
          clear hK K
          try simp only [List.getElem_toArray, List.getElem_cons_succ, List.getElem_cons_zero, Act.put, List.setIfInBounds_toArray, List.set_cons_zero, List.set_cons_succ]
          refine wpAnyM_done (by kernel_rfl) ?_ _
          go_wp2
          go_meet
          exact ⟨_, rfl, rfl, Lib.hid hZ, Lib.hid hSS⟩
        · go_simp
          refine hK _ _ (fun _ => Qw.al hSS _) ?_
          obtain ⟨wn, N, en, eN, hN, m2, Z, mm⟩ := al_named hSS #[.int .i64 0, .int .i64 0, .int .i64 0] 23
          rw [en, eN]
          replace Z := Lib.hid Z
          clear hK K hSS en eN mm
          have hSS := m2
          clear m2
          try simp only [List.getElem_toArray, List.getElem_cons_succ, List.getElem_cons_zero, Act.put, List.setIfInBounds_toArray, List.set_cons_zero, List.set_cons_succ]
          refine wpAnyM_one (i := 8) rfl (by kernel_rfl) rfl (fun K hK => ?_)
          go_simp
          refine (TRN.out _).mono ?_
          rintro e w8 ⟨rfl, m⟩
          have Z2 := Lib.hid (Z.out.kept m)
          clear Z
          have Z := Z2
          clear Z2
          have m2 := Qw.trans hSS m
          refine hK _ _ (fun _ => m2) ?_
          clear hK K hSS m
          have hSS := m2
          clear m2
          try simp only [List.getElem_toArray, List.getElem_cons_succ, List.getElem_cons_zero, Act.put, List.setIfInBounds_toArray, List.set_cons_zero, List.set_cons_succ]
          refine wpAnyM_take (i := 9) (v := ?_) rfl (by kernel_rfl) (fun _ _ _ h => h) (Or.inl ⟨by rfl, ?_⟩) hSS ?_
          rotate_left 1
          · intro wS hwS
            go_simp
            try with_reducible rfl
          simp only [List.getElem_toArray, List.getElem_cons_succ, List.getElem_cons_zero, Act.put, List.setIfInBounds_toArray, List.set_cons_zero, List.set_cons_succ]
          refine wpAnyM_take (i := 10) (v := ?_) rfl (by kernel_rfl) (fun _ _ _ h => h) (Or.inl ⟨by rfl, ?_⟩) hSS ?_
          rotate_left 1
          · intro wS hwS
            go_simp
            try with_reducible rfl
          simp only [List.getElem_toArray, List.getElem_cons_succ, List.getElem_cons_zero, Act.put, List.setIfInBounds_toArray, List.set_cons_zero, List.set_cons_succ]
          refine wpAnyM_take (i := 11) (v := ?_) rfl (by kernel_rfl) (fun _ _ _ h => h) (Or.inl ⟨by rfl, ?_⟩) hSS ?_
          rotate_left 1
          · intro wS hwS
            go_simp
            try with_reducible rfl
          simp only [List.getElem_toArray, List.getElem_cons_succ, List.getElem_cons_zero, Act.put, List.setIfInBounds_toArray, List.set_cons_zero, List.set_cons_succ]
          refine wpAnyM_one (i := 13) rfl (by kernel_rfl) rfl (fun K hK => ?_)
          have z0 := Z.out.cell' 0 (.int .i64 0) rfl
          have z1 := Z.out.cell' 1 (.int .i64 0) rfl
          have z2 := Z.out.cell' 2 (.int .i64 0) rfl
          have y0 := Z.out.free 0
          have y1 := Z.out.free 1
          have y2 := Z.out.free 2
          go_simp
          have hZ := Z.out.st3 (.int .i64 U) (.int .i64 V) (.int .i64 W)
          refine hK _ _ (fun _ => Qw.st3 hSS hN _ _ _) ?_
          have m2 := Qw.st3 hSS hN (.int .i64 U) (.int .i64 V) (.int .i64 W)
          clear hK K hSS z0 z1 z2 y0 y1 y2
          have hSS := m2
          clear m2
          try simp only [List.getElem_toArray, List.getElem_cons_succ, List.getElem_cons_zero, Act.put, List.setIfInBounds_toArray, List.set_cons_zero, List.set_cons_succ]
          refine wpAnyM_one (i := 14) rfl (by kernel_rfl) rfl (fun K hK => ?_)
          go_simp
          refine hK _ _ (fun h => absurd h (by decide)) ?_
          clear hK K
          try simp only [List.getElem_toArray, List.getElem_cons_succ, List.getElem_cons_zero, Act.put, List.setIfInBounds_toArray, List.set_cons_zero, List.set_cons_succ]
          refine wpAnyM_done (by kernel_rfl) ?_ _
          go_wp2
          go_meet
          exact ⟨_, rfl, rfl, Lib.hid hZ, Lib.hid hSS⟩
      · go_simp
        refine hK _ _ (fun _ => Qw.al hSS _) ?_
        obtain ⟨wn, N, en, eN, hN, m2, Z, mm⟩ := al_named hSS #[.int .i64 0, .int .i64 0, .int .i64 0] 23
        rw [en, eN]
        replace Z := Lib.hid Z
        clear hK K hSS en eN mm
        have hSS := m2
        clear m2
        try simp only [List.getElem_toArray, List.getElem_cons_succ, List.getElem_cons_zero, Act.put, List.setIfInBounds_toArray, List.set_cons_zero, List.set_cons_succ]
        refine wpAnyM_one (i := 4) rfl (by kernel_rfl) rfl (fun K hK => ?_)
        go_simp
        refine (SUB.out _).mono ?_
        rintro e w7 ⟨rfl, m⟩
        have Z2 := Lib.hid (Z.out.kept m)
        clear Z
        have Z := Z2
        clear Z2
        have m2 := Qw.trans hSS m
        refine hK _ _ (fun _ => m2) ?_
        clear hK K hSS m
        have hSS := m2
        clear m2
        try simp only [List.getElem_toArray, List.getElem_cons_succ, List.getElem_cons_zero, Act.put, List.setIfInBounds_toArray, List.set_cons_zero, List.set_cons_succ]
        refine wpAnyM_one (i := 8) rfl (by kernel_rfl) rfl (fun K hK => ?_)
        go_simp
        refine (TRN.out _).mono ?_
        rintro e w8 ⟨rfl, m⟩
        have Z2 := Lib.hid (Z.out.kept m)
        clear Z
        have Z := Z2
        clear Z2
        have m2 := Qw.trans hSS m
        refine hK _ _ (fun _ => m2) ?_
        clear hK K hSS m
        have hSS := m2
        clear m2
        try simp only [List.getElem_toArray, List.getElem_cons_succ, List.getElem_cons_zero, Act.put, List.setIfInBounds_toArray, List.set_cons_zero, List.set_cons_succ]
        refine wpAnyM_take (i := 9) (v := ?_) rfl (by kernel_rfl) (fun _ _ _ h => h) (Or.inl ⟨by rfl, ?_⟩) hSS ?_
        rotate_left 1
        · intro wS hwS
          go_simp
          try with_reducible rfl
        simp only [List.getElem_toArray, List.getElem_cons_succ, List.getElem_cons_zero, Act.put, List.setIfInBounds_toArray, List.set_cons_zero, List.set_cons_succ]
        refine wpAnyM_take (i := 10) (v := ?_) rfl (by kernel_rfl) (fun _ _ _ h => h) (Or.inl ⟨by rfl, ?_⟩) hSS ?_
        rotate_left 1
        · intro wS hwS
          go_simp
          try with_reducible rfl
        simp only [List.getElem_toArray, List.getElem_cons_succ, List.getElem_cons_zero, Act.put, List.setIfInBounds_toArray, List.set_cons_zero, List.set_cons_succ]
        refine wpAnyM_take (i := 11) (v := ?_) rfl (by kernel_rfl) (fun _ _ _ h => h) (Or.inl ⟨by rfl, ?_⟩) hSS ?_
        rotate_left 1
        · intro wS hwS
          go_simp
          try with_reducible rfl
        simp only [List.getElem_toArray, List.getElem_cons_succ, List.getElem_cons_zero, Act.put, List.setIfInBounds_toArray, List.set_cons_zero, List.set_cons_succ]
        refine wpAnyM_one (i := 13) rfl (by kernel_rfl) rfl (fun K hK => ?_)
        have z0 := Z.out.cell' 0 (.int .i64 0) rfl
        have z1 := Z.out.cell' 1 (.int .i64 0) rfl
        have z2 := Z.out.cell' 2 (.int .i64 0) rfl
        have y0 := Z.out.free 0
        have y1 := Z.out.free 1
        have y2 := Z.out.free 2
        go_simp
        have hZ := Z.out.st3 (.int .i64 U) (.int .i64 V) (.int .i64 W)
        refine hK _ _ (fun _ => Qw.st3 hSS hN _ _ _) ?_
        have m2 := Qw.st3 hSS hN (.int .i64 U) (.int .i64 V) (.int .i64 W)
        clear hK K hSS z0 z1 z2 y0 y1 y2
        have hSS := m2
        clear m2
        try simp only [List.getElem_toArray, List.getElem_cons_succ, List.getElem_cons_zero, Act.put, List.setIfInBounds_toArray, List.set_cons_zero, List.set_cons_succ]
        refine wpAnyM_one (i := 14) rfl (by kernel_rfl) rfl (fun K hK => ?_)
        go_simp
        refine hK _ _ (fun h => absurd h (by decide)) ?_
        clear hK K
        try simp only [List.getElem_toArray, List.getElem_cons_succ, List.getElem_cons_zero, Act.put, List.setIfInBounds_toArray, List.set_cons_zero, List.set_cons_succ]
        refine wpAnyM_done (by kernel_rfl) ?_ _
        go_wp2
        go_meet
        exact ⟨_, rfl, rfl, Lib.hid hZ, Lib.hid hSS⟩
    · go_simp
      refine hK _ _ (fun _ => Qw.al hSS _) ?_
      obtain ⟨wn, N, en, eN, hN, m2, Z, mm⟩ := al_named hSS #[.int .i64 0, .int .i64 0, .int .i64 0] 23
      rw [en, eN]
      replace Z := Lib.hid Z
      clear hK K hSS en eN mm
      have hSS := m2
      clear m2
      try simp only [List.getElem_toArray, List.getElem_cons_succ, List.getElem_cons_zero, Act.put, List.setIfInBounds_toArray, List.set_cons_zero, List.set_cons_succ]
      refine wpAnyM_one (i := 3) rfl (by kernel_rfl) rfl (fun K hK => ?_)
      go_simp
      refine (ORG.out _).mono ?_
      rintro e w6 ⟨rfl, m⟩
      have Z2 := Lib.hid (Z.out.kept m)
      clear Z
      have Z := Z2
      clear Z2
      have m2 := Qw.trans hSS m
      refine hK _ _ (fun _ => m2) ?_
      clear hK K hSS m
      have hSS := m2
      clear m2
      try simp only [List.getElem_toArray, List.getElem_cons_succ, List.getElem_cons_zero, Act.put, List.setIfInBounds_toArray, List.set_cons_zero, List.set_cons_succ]
      refine wpAnyM_one (i := 4) rfl (by kernel_rfl) rfl (fun K hK => ?_)
      go_simp
      refine (SUB.out _).mono ?_
      rintro e w7 ⟨rfl, m⟩
      have Z2 := Lib.hid (Z.out.kept m)
      clear Z
      have Z := Z2
      clear Z2
      have m2 := Qw.trans hSS m
      refine hK _ _ (fun _ => m2) ?_
      clear hK K hSS m
      have hSS := m2
      clear m2
      try simp only [List.getElem_toArray, List.getElem_cons_succ, List.getElem_cons_zero, Act.put, List.setIfInBounds_toArray, List.set_cons_zero, List.set_cons_succ]
      refine wpAnyM_one (i := 8) rfl (by kernel_rfl) rfl (fun K hK => ?_)
      go_simp
      refine (TRN.out _).mono ?_
      rintro e w8 ⟨rfl, m⟩
      have Z2 := Lib.hid (Z.out.kept m)
      clear Z
      have Z := Z2
      clear Z2
      have m2 := Qw.trans hSS m
      refine hK _ _ (fun _ => m2) ?_
      clear hK K hSS m
      have hSS := m2
      clear m2
      try simp only [List.getElem_toArray, List.getElem_cons_succ, List.getElem_cons_zero, Act.put, List.setIfInBounds_toArray, List.set_cons_zero, List.set_cons_succ]
      refine wpAnyM_take (i := 9) (v := ?_) rfl (by kernel_rfl) (fun _ _ _ h => h) (Or.inl ⟨by rfl, ?_⟩) hSS ?_
      rotate_left 1
      · intro wS hwS
        go_simp
        try with_reducible rfl
      simp only [List.getElem_toArray, List.getElem_cons_succ, List.getElem_cons_zero, Act.put, List.setIfInBounds_toArray, List.set_cons_zero, List.set_cons_succ]
      refine wpAnyM_take (i := 10) (v := ?_) rfl (by kernel_rfl) (fun _ _ _ h => h) (Or.inl ⟨by rfl, ?_⟩) hSS ?_
      rotate_left 1
      · intro wS hwS
        go_simp
        try with_reducible rfl
      simp only [List.getElem_toArray, List.getElem_cons_succ, List.getElem_cons_zero, Act.put, List.setIfInBounds_toArray, List.set_cons_zero, List.set_cons_succ]
      refine wpAnyM_take (i := 11) (v := ?_) rfl (by kernel_rfl) (fun _ _ _ h => h) (Or.inl ⟨by rfl, ?_⟩) hSS ?_
      rotate_left 1
      · intro wS hwS
        go_simp
        try with_reducible rfl
      simp only [List.getElem_toArray, List.getElem_cons_succ, List.getElem_cons_zero, Act.put, List.setIfInBounds_toArray, List.set_cons_zero, List.set_cons_succ]
      refine wpAnyM_one (i := 13) rfl (by kernel_rfl) rfl (fun K hK => ?_)
      have z0 := Z.out.cell' 0 (.int .i64 0) rfl
      have z1 := Z.out.cell' 1 (.int .i64 0) rfl
      have z2 := Z.out.cell' 2 (.int .i64 0) rfl
      have y0 := Z.out.free 0
      have y1 := Z.out.free 1
      have y2 := Z.out.free 2
      go_simp
      have hZ := Z.out.st3 (.int .i64 U) (.int .i64 V) (.int .i64 W)
      refine hK _ _ (fun _ => Qw.st3 hSS hN _ _ _) ?_
      have m2 := Qw.st3 hSS hN (.int .i64 U) (.int .i64 V) (.int .i64 W)
      clear hK K hSS z0 z1 z2 y0 y1 y2
      have hSS := m2
      clear m2
      try simp only [List.getElem_toArray, List.getElem_cons_succ, List.getElem_cons_zero, Act.put, List.setIfInBounds_toArray, List.set_cons_zero, List.set_cons_succ]
      refine wpAnyM_one (i := 14) rfl (by kernel_rfl) rfl (fun K hK => ?_)
      go_simp
      refine hK _ _ (fun h => absurd h (by decide)) ?_
      clear hK K
      try simp only [List.getElem_toArray, List.getElem_cons_succ, List.getElem_cons_zero, Act.put, List.setIfInBounds_toArray, List.set_cons_zero, List.set_cons_succ]
      refine wpAnyM_done (by kernel_rfl) ?_ _
      go_wp2
      go_meet
      exact ⟨_, rfl, rfl, Lib.hid hZ, Lib.hid hSS⟩
  case rest =>
    obtain ⟨N, rfl, rfl, NX, Q2⟩ := hcut
    have y0 := NX.out.cell' 0 (.int .i64 U) rfl
    have y1 := NX.out.cell' 1 (.int .i64 V) rfl
    have y2 := NX.out.cell' 2 (.int .i64 W) rfl
    go_wp2_with fail
    refine (CCO.out _).mono ?_
    rintro e w8 ⟨rfl, m⟩
    have RB := Lib.hid (RX.out _ (Qw.trans Q2.out m))
    have hSS := m
    clear y0 y1 y2 m
    have z0 := RB.out.cell' 0 (.int .i64 0) rfl
    have z1 := RB.out.cell' 1 (.int .i64 0) rfl
    have z2 := RB.out.cell' 2 (.int .i64 0) rfl
    have y0 := RB.out.free 0
    have y1 := RB.out.free 1
    have y2 := RB.out.free 2
    go_wp2
    have S := RB.out.st3 (.int .i64 k0) (.int .i64 k1) (.int .i64 k2)
    have t0 := S.cell' 0 (.int .i64 k0) rfl
    have t1 := S.cell' 1 (.int .i64 k1) rfl
    have t2 := S.cell' 2 (.int .i64 k2) rfl
    exact bodyPost_ret (v := .tuple #[.agg #[.int .i64 k0, .int .i64 k1, .int .i64 k2], .int .i64 k3]) (by simp [results, Tryd.results23, go_sem, t0, t1, t2]) rfl ⟨rfl, Qw.st3 (Qw.trans Q1.out (Qw.trans Q2.out hSS)) hR _ _ _⟩
end Go.Proofs.YtnjcbgnghfppoaaDoor

/- To and From of any position, by the program and by the specification. -/
set_option linter.unusedVariables false
set_option linter.unusedSimpArgs false
namespace Go.Proofs.YtnjcbgnghfppoaaDoor
open Go.RowKit

set_option maxRecDepth 100000 in
set_option maxHeartbeats 2000000 in
theorem fmToNo (f : Fm.F) (x y z : Int) (x1 : -9223372036854775808 ≤ x) (x2 : x ≤ 9223372036854775807) (y1 : -9223372036854775808 ≤ y) (y2 : y ≤ 9223372036854775807) (z1 : -9223372036854775808 ≤ z) (z2 : z ≤ 9223372036854775807) (h : wth x y z = false) (w : World) :
    Calls Tryd.prog 20 #[.agg (frc f), .agg #[.int .i64 x, .int .i64 y, .int .i64 z]] w fun e w' => e = .returned (.tuple #[.agg #[.int .i64 0, .int .i64 0, .int .i64 0], .int .i64 3]) ∧ Qw w w' := by
  have cw := fun w => vc_within x y z x1 x2 y1 y2 z1 z2 w
  rw [h] at cw
  have CW := Lib.hid cw
  clear cw h x1 x2 y1 y2 z1 z2
  go_enter Tryd.func20, Tryd.ntmps20
  go_upto_region 1 with (refine box_fr 0 rfl ?_; intro w0 P hp X q; have X0 := Lib.hid X; have Q0 := Lib.hid q; clear X q)
  refine code_of (fun w' => Bx w' w0.heap.size #[.int .i64 x, .int .i64 y, .int .i64 z] 23 ∧ Bx w' (w0.heap.size + 1) #[.int .i64 0, .int .i64 0, .int .i64 0] 23 ∧ Qw w w') ⟨(Bx.new _ _ _).alloc _, bxn _ _ _ _, Qw.al (Qw.al Q0.out _) _⟩ ?_
  have hR : w.heap.size ≤ w0.heap.size + 1 := by have := Q0.out.size; omega
  clear X0 Q0 hp
  generalize w0.heap.size + 1 = R at *
  generalize w0.heap.size = A at *
  rintro w1 ⟨X, RR, q1⟩
  have y0 := X.cell' 0 (.int .i64 x) rfl
  have y1 := X.cell' 1 (.int .i64 y) rfl
  have y2 := X.cell' 2 (.int .i64 z) rfl
  have R0 := Lib.hid RR
  have Q1 := Lib.hid q1
  clear X RR q1
  go_wp2_with (go_at_call 43; ((with_reducible refine (CW.out _).mono ?_); rintro e w2 ⟨rfl, q⟩; have R2 := Lib.hid (R0.out.kept q); have Q2 := Lib.hid (Qw.trans Q1.out q); have z0 := R2.out.cell' 0 (.int .i64 0) rfl; have z1 := R2.out.cell' 1 (.int .i64 0) rfl; have z2 := R2.out.cell' 2 (.int .i64 0) rfl; have f0 := R2.out.free 0; have f1 := R2.out.free 1; have f2 := R2.out.free 2; clear q))
  have S := R2.out.st3 (.int .i64 0) (.int .i64 0) (.int .i64 0)
  have t0 := S.cell' 0 (.int .i64 0) rfl
  have t1 := S.cell' 1 (.int .i64 0) rfl
  have t2 := S.cell' 2 (.int .i64 0) rfl
  exact bodyPost_ret (v := .tuple #[.agg #[.int .i64 0, .int .i64 0, .int .i64 0], .int .i64 3]) (by simp [results, Tryd.results20, go_sem, t0, t1, t2]) rfl ⟨rfl, Qw.st3 Q2.out hR _ _ _⟩
theorem fmToAny (f : Fm.F) (hg : Fm.Gd f) (x y z : Int) (x1 : -9223372036854775808 ≤ x) (x2 : x ≤ 9223372036854775807) (y1 : -9223372036854775808 ≤ y) (y2 : y ≤ 9223372036854775807) (z1 : -9223372036854775808 ≤ z) (z2 : z ≤ 9223372036854775807) (w : World) (T : Tc w) :
    Calls Tryd.prog 20 #[.agg (frc f), .agg #[.int .i64 x, .int .i64 y, .int .i64 z]] w fun e w' => e = .returned (.tuple #[.agg #[.int .i64 (Fm.toV f x y z (Fm.mx f x y z)), .int .i64 (Fm.toV f x y z (Fm.my f x y z)), .int .i64 (Fm.toV f x y z (Fm.mz f x y z))], .int .i64 (Fm.toE f x y z)]) ∧ Qw w w' := by
  cases h : wth x y z
  · have e : ∀ n, Fm.toV f x y z n = 0 := fun n => if_neg (by rw [h]; decide)
    have e3 : Fm.toE f x y z = 3 := if_neg (by rw [h]; decide)
    rw [e, e, e, e3]
    exact fmToNo f x y z x1 x2 y1 y2 z1 z2 h w
  · cases ht : f.t
    · exact fmToF f hg ht x y z h w T
    · exact fmToT f hg ht x y z h w T
set_option maxRecDepth 100000 in
set_option maxHeartbeats 2000000 in
theorem fmFromNo (f : Fm.F) (x y z : Int) (x1 : -9223372036854775808 ≤ x) (x2 : x ≤ 9223372036854775807) (y1 : -9223372036854775808 ≤ y) (y2 : y ≤ 9223372036854775807) (z1 : -9223372036854775808 ≤ z) (z2 : z ≤ 9223372036854775807) (h : wth x y z = false) (w : World) :
    Calls Tryd.prog 22 #[.agg (frc f), .agg #[.int .i64 x, .int .i64 y, .int .i64 z]] w fun e w' => e = .returned (.tuple #[.agg #[.int .i64 0, .int .i64 0, .int .i64 0], .int .i64 3]) ∧ Qw w w' := by
  have cw := fun w => vc_within x y z x1 x2 y1 y2 z1 z2 w
  rw [h] at cw
  have CW := Lib.hid cw
  clear cw h x1 x2 y1 y2 z1 z2
  go_enter Tryd.func22, Tryd.ntmps22
  go_upto_region 1 with (refine box_fr 0 rfl ?_; intro w0 P hp X q; have X0 := Lib.hid X; have Q0 := Lib.hid q; clear X q)
  refine code_of (fun w' => Bx w' w0.heap.size #[.int .i64 x, .int .i64 y, .int .i64 z] 23 ∧ Bx w' (w0.heap.size + 1) #[.int .i64 0, .int .i64 0, .int .i64 0] 23 ∧ Qw w w') ⟨(Bx.new _ _ _).alloc _, bxn _ _ _ _, Qw.al (Qw.al Q0.out _) _⟩ ?_
  have hR : w.heap.size ≤ w0.heap.size + 1 := by have := Q0.out.size; omega
  clear X0 Q0 hp
  generalize w0.heap.size + 1 = R at *
  generalize w0.heap.size = A at *
  rintro w1 ⟨X, RR, q1⟩
  have y0 := X.cell' 0 (.int .i64 x) rfl
  have y1 := X.cell' 1 (.int .i64 y) rfl
  have y2 := X.cell' 2 (.int .i64 z) rfl
  have R0 := Lib.hid RR
  have Q1 := Lib.hid q1
  clear X RR q1
  go_wp2_with (go_at_call 43; ((with_reducible refine (CW.out _).mono ?_); rintro e w2 ⟨rfl, q⟩; have R2 := Lib.hid (R0.out.kept q); have Q2 := Lib.hid (Qw.trans Q1.out q); have z0 := R2.out.cell' 0 (.int .i64 0) rfl; have z1 := R2.out.cell' 1 (.int .i64 0) rfl; have z2 := R2.out.cell' 2 (.int .i64 0) rfl; have f0 := R2.out.free 0; have f1 := R2.out.free 1; have f2 := R2.out.free 2; clear q))
  have S := R2.out.st3 (.int .i64 0) (.int .i64 0) (.int .i64 0)
  have t0 := S.cell' 0 (.int .i64 0) rfl
  have t1 := S.cell' 1 (.int .i64 0) rfl
  have t2 := S.cell' 2 (.int .i64 0) rfl
  exact bodyPost_ret (v := .tuple #[.agg #[.int .i64 0, .int .i64 0, .int .i64 0], .int .i64 3]) (by simp [results, Tryd.results22, go_sem, t0, t1, t2]) rfl ⟨rfl, Qw.st3 Q2.out hR _ _ _⟩
theorem fmFromAny (f : Fm.F) (hg : Fm.Gd f) (x y z : Int) (x1 : -9223372036854775808 ≤ x) (x2 : x ≤ 9223372036854775807) (y1 : -9223372036854775808 ≤ y) (y2 : y ≤ 9223372036854775807) (z1 : -9223372036854775808 ≤ z) (z2 : z ≤ 9223372036854775807) (w : World) (T : Tc w) :
    Calls Tryd.prog 22 #[.agg (frc f), .agg #[.int .i64 x, .int .i64 y, .int .i64 z]] w fun e w' => e = .returned (.tuple #[.agg #[.int .i64 (Fm.frV f x y z (Fm.px f x y z)), .int .i64 (Fm.frV f x y z (Fm.py f x y z)), .int .i64 (Fm.frV f x y z (Fm.pz f x y z))], .int .i64 (Fm.frE f x y z)]) ∧ Qw w w' := by
  cases h : wth x y z
  · have e : ∀ n, Fm.frV f x y z n = 0 := fun n => if_neg (by rw [h]; decide)
    have e3 : Fm.frE f x y z = 3 := if_neg (by rw [h]; decide)
    rw [e, e, e, e3]
    exact fmFromNo f x y z x1 x2 y1 y2 z1 z2 h w
  · cases ht : f.t
    · exact fmFromF f hg ht x y z h w T
    · exact fmFromT f hg ht x y z h w T
set_option maxRecDepth 100000 in
set_option maxHeartbeats 2000000 in
theorem rfToNo (f : Fm.F) (x y z : Int) (x1 : -9223372036854775808 ≤ x) (x2 : x ≤ 9223372036854775807) (y1 : -9223372036854775808 ≤ y) (y2 : y ≤ 9223372036854775807) (z1 : -9223372036854775808 ≤ z) (z2 : z ≤ 9223372036854775807) (h : wth x y z = false) (w : World) :
    Calls Tryd.prog 21 #[.agg (frc f), .agg #[.int .i64 x, .int .i64 y, .int .i64 z]] w fun e w' => e = .returned (.tuple #[.agg #[.int .i64 0, .int .i64 0, .int .i64 0], .int .i64 3]) ∧ Qw w w' := by
  have cw := fun w => vr_within x y z x1 x2 y1 y2 z1 z2 w
  rw [h] at cw
  have CW := Lib.hid cw
  clear cw h x1 x2 y1 y2 z1 z2
  go_enter Tryd.func21, Tryd.ntmps21
  go_upto_region 1 with (refine box_fr 0 rfl ?_; intro w0 P hp X q; have X0 := Lib.hid X; have Q0 := Lib.hid q; clear X q)
  refine code_of (fun w' => Bx w' w0.heap.size #[.int .i64 x, .int .i64 y, .int .i64 z] 23 ∧ Bx w' (w0.heap.size + 1) #[.int .i64 0, .int .i64 0, .int .i64 0] 23 ∧ Qw w w') ⟨(Bx.new _ _ _).alloc _, bxn _ _ _ _, Qw.al (Qw.al Q0.out _) _⟩ ?_
  have hR : w.heap.size ≤ w0.heap.size + 1 := by have := Q0.out.size; omega
  clear X0 Q0 hp
  generalize w0.heap.size + 1 = R at *
  generalize w0.heap.size = A at *
  rintro w1 ⟨X, RR, q1⟩
  have y0 := X.cell' 0 (.int .i64 x) rfl
  have y1 := X.cell' 1 (.int .i64 y) rfl
  have y2 := X.cell' 2 (.int .i64 z) rfl
  have R0 := Lib.hid RR
  have Q1 := Lib.hid q1
  clear X RR q1
  go_wp2_with (go_at_call 46; ((with_reducible refine (CW.out _).mono ?_); rintro e w2 ⟨rfl, q⟩; have R2 := Lib.hid (R0.out.kept q); have Q2 := Lib.hid (Qw.trans Q1.out q); have z0 := R2.out.cell' 0 (.int .i64 0) rfl; have z1 := R2.out.cell' 1 (.int .i64 0) rfl; have z2 := R2.out.cell' 2 (.int .i64 0) rfl; have f0 := R2.out.free 0; have f1 := R2.out.free 1; have f2 := R2.out.free 2; clear q))
  have S := R2.out.st3 (.int .i64 0) (.int .i64 0) (.int .i64 0)
  have t0 := S.cell' 0 (.int .i64 0) rfl
  have t1 := S.cell' 1 (.int .i64 0) rfl
  have t2 := S.cell' 2 (.int .i64 0) rfl
  exact bodyPost_ret (v := .tuple #[.agg #[.int .i64 0, .int .i64 0, .int .i64 0], .int .i64 3]) (by simp [results, Tryd.results21, go_sem, t0, t1, t2]) rfl ⟨rfl, Qw.st3 Q2.out hR _ _ _⟩
theorem rfToAny (f : Fm.F) (hg : Fm.Gd f) (x y z : Int) (x1 : -9223372036854775808 ≤ x) (x2 : x ≤ 9223372036854775807) (y1 : -9223372036854775808 ≤ y) (y2 : y ≤ 9223372036854775807) (z1 : -9223372036854775808 ≤ z) (z2 : z ≤ 9223372036854775807) (w : World) :
    Calls Tryd.prog 21 #[.agg (frc f), .agg #[.int .i64 x, .int .i64 y, .int .i64 z]] w fun e w' => e = .returned (.tuple #[.agg #[.int .i64 (Fm.toV f x y z (Fm.mx f x y z)), .int .i64 (Fm.toV f x y z (Fm.my f x y z)), .int .i64 (Fm.toV f x y z (Fm.mz f x y z))], .int .i64 (Fm.toE f x y z)]) ∧ Qw w w' := by
  cases h : wth x y z
  · have e : ∀ n, Fm.toV f x y z n = 0 := fun n => if_neg (by rw [h]; decide)
    have e3 : Fm.toE f x y z = 3 := if_neg (by rw [h]; decide)
    rw [e, e, e, e3]
    exact rfToNo f x y z x1 x2 y1 y2 z1 z2 h w
  · exact rfTo f hg x y z h w
set_option maxRecDepth 100000 in
set_option maxHeartbeats 2000000 in
theorem rfFromNo (f : Fm.F) (x y z : Int) (x1 : -9223372036854775808 ≤ x) (x2 : x ≤ 9223372036854775807) (y1 : -9223372036854775808 ≤ y) (y2 : y ≤ 9223372036854775807) (z1 : -9223372036854775808 ≤ z) (z2 : z ≤ 9223372036854775807) (h : wth x y z = false) (w : World) :
    Calls Tryd.prog 23 #[.agg (frc f), .agg #[.int .i64 x, .int .i64 y, .int .i64 z]] w fun e w' => e = .returned (.tuple #[.agg #[.int .i64 0, .int .i64 0, .int .i64 0], .int .i64 3]) ∧ Qw w w' := by
  have cw := fun w => vr_within x y z x1 x2 y1 y2 z1 z2 w
  rw [h] at cw
  have CW := Lib.hid cw
  clear cw h x1 x2 y1 y2 z1 z2
  go_enter Tryd.func23, Tryd.ntmps23
  go_upto_region 1 with (refine box_fr 0 rfl ?_; intro w0 P hp X q; have X0 := Lib.hid X; have Q0 := Lib.hid q; clear X q)
  refine code_of (fun w' => Bx w' w0.heap.size #[.int .i64 x, .int .i64 y, .int .i64 z] 23 ∧ Bx w' (w0.heap.size + 1) #[.int .i64 0, .int .i64 0, .int .i64 0] 23 ∧ Qw w w') ⟨(Bx.new _ _ _).alloc _, bxn _ _ _ _, Qw.al (Qw.al Q0.out _) _⟩ ?_
  have hR : w.heap.size ≤ w0.heap.size + 1 := by have := Q0.out.size; omega
  clear X0 Q0 hp
  generalize w0.heap.size + 1 = R at *
  generalize w0.heap.size = A at *
  rintro w1 ⟨X, RR, q1⟩
  have y0 := X.cell' 0 (.int .i64 x) rfl
  have y1 := X.cell' 1 (.int .i64 y) rfl
  have y2 := X.cell' 2 (.int .i64 z) rfl
  have R0 := Lib.hid RR
  have Q1 := Lib.hid q1
  clear X RR q1
  go_wp2_with (go_at_call 46; ((with_reducible refine (CW.out _).mono ?_); rintro e w2 ⟨rfl, q⟩; have R2 := Lib.hid (R0.out.kept q); have Q2 := Lib.hid (Qw.trans Q1.out q); have z0 := R2.out.cell' 0 (.int .i64 0) rfl; have z1 := R2.out.cell' 1 (.int .i64 0) rfl; have z2 := R2.out.cell' 2 (.int .i64 0) rfl; have f0 := R2.out.free 0; have f1 := R2.out.free 1; have f2 := R2.out.free 2; clear q))
  have S := R2.out.st3 (.int .i64 0) (.int .i64 0) (.int .i64 0)
  have t0 := S.cell' 0 (.int .i64 0) rfl
  have t1 := S.cell' 1 (.int .i64 0) rfl
  have t2 := S.cell' 2 (.int .i64 0) rfl
  exact bodyPost_ret (v := .tuple #[.agg #[.int .i64 0, .int .i64 0, .int .i64 0], .int .i64 3]) (by simp [results, Tryd.results23, go_sem, t0, t1, t2]) rfl ⟨rfl, Qw.st3 Q2.out hR _ _ _⟩
theorem rfFromAny (f : Fm.F) (hg : Fm.Gd f) (x y z : Int) (x1 : -9223372036854775808 ≤ x) (x2 : x ≤ 9223372036854775807) (y1 : -9223372036854775808 ≤ y) (y2 : y ≤ 9223372036854775807) (z1 : -9223372036854775808 ≤ z) (z2 : z ≤ 9223372036854775807) (w : World) :
    Calls Tryd.prog 23 #[.agg (frc f), .agg #[.int .i64 x, .int .i64 y, .int .i64 z]] w fun e w' => e = .returned (.tuple #[.agg #[.int .i64 (Fm.frV f x y z (Fm.px f x y z)), .int .i64 (Fm.frV f x y z (Fm.py f x y z)), .int .i64 (Fm.frV f x y z (Fm.pz f x y z))], .int .i64 (Fm.frE f x y z)]) ∧ Qw w w' := by
  cases h : wth x y z
  · have e : ∀ n, Fm.frV f x y z n = 0 := fun n => if_neg (by rw [h]; decide)
    have e3 : Fm.frE f x y z = 3 := if_neg (by rw [h]; decide)
    rw [e, e, e, e3]
    exact rfFromNo f x y z x1 x2 y1 y2 z1 z2 h w
  · exact rfFrom f hg x y z h w
end Go.Proofs.YtnjcbgnghfppoaaDoor
