
/- VecPlanes: Flat and Solid return the position and the vector, for any plane.
   Conditions: none; every input. -/
import Derived.Test.YtlfkgnpbpmejkaaFrameV
import Derived.Test.YtlfkgnpbpmejkaaVmB
import Derived.Test.YtlfkgnpbpmejkaaVrB
import Derived.Test.YtlfkgnpbpmejkaaVmC
set_option linter.unusedVariables false
set_option linter.unusedSimpArgs false
namespace Go.Proofs.Ytlfkgnpbpmejkaa
open Go.ChangeShapes Go.WideShapes Go.ChangeAt Go.RowKit

set_option maxRecDepth 100000 in
set_option maxHeartbeats 1000000 in
theorem walk_vecPlanes (n : Int) (n1 : -9223372036854775808 ≤ n) (n2 : n ≤ 9223372036854775807) (x : Int) (x1 : -9223372036854775808 ≤ x) (x2 : x ≤ 9223372036854775807) (y : Int) (y1 : -9223372036854775808 ≤ y) (y2 : y ≤ 9223372036854775807) (z : Int) (z1 : -9223372036854775808 ≤ z) (z2 : z ≤ 9223372036854775807) (u : Int) (u1 : -9223372036854775808 ≤ u) (u2 : u ≤ 9223372036854775807) (v : Int) (v1 : -9223372036854775808 ≤ v) (v2 : v ≤ 9223372036854775807) (h : Int) (h1 : -9223372036854775808 ≤ h) (h2 : h ≤ 9223372036854775807) (w : World) : Calls Try.prog 6 #[.int .i64 n, .agg #[.int .i64 x, .int .i64 y, .int .i64 z], .agg #[.int .i64 u, .int .i64 v], .int .i64 h] w fun e w' => e = .returned (.bool true) ∧ Below w.heap.size w w' := by
  have k0 := fun w => vectorW x y z x1 x2 y1 y2 z1 z2 w
  have k1 := fun w => pointW u v u1 u2 v1 v2 w
  have k2 := fun w => smallW h h1 h2 w
  obtain ⟨m01, m02⟩ := sm_bd x
  generalize sm x = m0 at *
  obtain ⟨m11, m12⟩ := sm_bd y
  generalize sm y = m1 at *
  obtain ⟨m21, m22⟩ := sm_bd z
  generalize sm z = m2 at *
  obtain ⟨m31, m32⟩ := sm_bd u
  generalize sm u = m3 at *
  obtain ⟨m41, m42⟩ := sm_bd v
  generalize sm v = m4 at *
  obtain ⟨m51, m52⟩ := sm_bd h
  generalize sm h = m5 at *
  have aw := fun w => awakeV w
  have K0 := Lib.hid k0
  have K1 := Lib.hid k1
  have K2 := Lib.hid k2
  have AW := Lib.hid aw
  clear k0 k1 k2 aw
  go_enter Try.func6, Try.ntmps6
  go_upto_region 1 with fail
  refine code_of (fun w' => Bx w' w.heap.size #[.int .i64 x, .int .i64 y, .int .i64 z] 23 ∧ Bx w' (w.heap.size + 1) #[.int .i64 u, .int .i64 v] 36 ∧ Qw w w') ⟨((Bx.new _ _ _).alloc _), (by have := (Bx.new (World.alloc w (.cells #[.int .i64 x, .int .i64 y, .int .i64 z] 23)) #[.int .i64 u, .int .i64 v] 36); simpa using this), (((Below.refl _ _).alloc (by simp) _).alloc (by simp) _)⟩ ?_
  rintro w1 ⟨X, Y, p⟩
  have x_0 := X.kcell 0 (.int .i64 x) rfl
  have x_1 := X.kcell 1 (.int .i64 y) rfl
  have x_2 := X.kcell 2 (.int .i64 z) rfl
  have y_0 := Y.kcell 0 (.int .i64 u) rfl
  have y_1 := Y.kcell 1 (.int .i64 v) rfl
  refine region_kept_tail 6 (by kernel_rfl) (by kernel_rfl) ?_
  simp only [List.take_succ_cons, List.take_zero, List.drop_succ_cons, List.drop_zero]
  repeat (go_big_quiet_step (first | (go_at_call 19; with_reducible exact Kept.call (K0.out _)) | (go_at_call 28; with_reducible exact Kept.call (K1.out _)) | (go_at_call 29; with_reducible exact Kept.same (K2.out _))))
  refine wpQuiet_nil ?_
  intro w2 q
  clear x_0 x_1 x_2 y_0 y_1
  replace X := X.kept q
  replace Y := Y.kept q
  replace p := p.trans q
  clear q
  have x_0 := X.cell' 0 (.int .i64 x) rfl
  have x_f0 := X.free 0
  have x_1 := X.cell' 1 (.int .i64 y) rfl
  have x_f1 := X.free 1
  have x_2 := X.cell' 2 (.int .i64 z) rfl
  have x_f2 := X.free 2
  have y_0 := Y.cell' 0 (.int .i64 u) rfl
  have y_f0 := Y.free 0
  have y_1 := Y.cell' 1 (.int .i64 v) rfl
  have y_f1 := Y.free 1
  go_upto_region 2 with fail
  clear x_0 x_f0 x_1 x_f1 x_2 x_f2 y_0 y_f0 y_1 y_f1
  refine code_of (fun w' => Bx w' w.heap.size #[.int .i64 m0, .int .i64 m1, .int .i64 m2] 23 ∧ Bx w' (w.heap.size + 1) #[.int .i64 m3, .int .i64 m4] 36 ∧ Qw w w') ⟨(((((X.set 0 _).set 1 _).set 2 _).other (by first | (simp; done) | (simp; omega)) _).other (by first | (simp; done) | (simp; omega)) _), (((((Y.other (by first | (simp; done) | (simp; omega)) _).other (by first | (simp; done) | (simp; omega)) _).other (by first | (simp; done) | (simp; omega)) _).set 0 _).set 1 _), (((((p.setCell (by first | (simp; done) | (simp; omega)) _).setCell (by first | (simp; done) | (simp; omega)) _).setCell (by first | (simp; done) | (simp; omega)) _).setCell (by first | (simp; done) | (simp; omega)) _).setCell (by first | (simp; done) | (simp; omega)) _)⟩ ?_
  clear X Y p
  rintro w3 ⟨X, Y, p⟩
  go_wp2
  go_loopw [0, 9] (fun P i wr => ∃ (k : Nat) (q : Int), k ≤ 2 ∧ -9223372036854775808 ≤ q ∧ q ≤ 9223372036854775807 ∧ i = .int .i64 k ∧ P = .int .i64 q ∧ Bx wr w.heap.size #[.int .i64 m0, .int .i64 m1, .int .i64 m2] 23 ∧ Bx wr (w.heap.size + 1) #[.int .i64 m3, .int .i64 m4] 36 ∧ Qw w wr) (fun _ i _ => 2 - (intOf i).toNat)
  case atStart => exact ⟨0, n, by omega, n1, n2, rfl, rfl, X, Y, p⟩
  case round =>
    clear X Y p
    obtain ⟨k, q, hk, q1, q2, rfl, rfl, X, Y, p⟩ := hrel
    by_cases hlt : k < 2
    · have k3 := fun w => modW q 3 q1 q2 (by decide) (by decide) w
      obtain ⟨r1, r2⟩ : 0 ≤ q % 3 ∧ q % 3 < 3 := by omega
      have c0 := fun w => vc_flat q m0 m1 m2 q1 q2 w
      have c1 := fun w => vr_flat q m0 m1 m2 q1 q2 w
      have c2 := fun w => vc_solid q m3 m4 m5 q1 q2 w
      have c3 := fun w => vr_solid q m3 m4 m5 q1 q2 w
      generalize q % 3 = r at *
      generalize pin q = b at *
      generalize fu q m0 m1 m2 = g0 at *
      generalize fw q m0 m1 m2 = g1 at *
      generalize fh q m0 m1 m2 = g2 at *
      generalize sx q m3 m4 m5 = s0 at *
      generalize sy q m3 m4 m5 = s1 at *
      generalize sz q m3 m4 m5 = s2 at *
      have K3 := Lib.hid k3
      have C0 := Lib.hid c0
      have C1 := Lib.hid c1
      have C2 := Lib.hid c2
      have C3 := Lib.hid c3
      clear k3 c0 c1 c2 c3
      have x_0 := X.cell' 0 (.int .i64 m0) rfl
      have x_1 := X.cell' 1 (.int .i64 m1) rfl
      have x_2 := X.cell' 2 (.int .i64 m2) rfl
      have y_0 := Y.cell' 0 (.int .i64 m3) rfl
      have y_1 := Y.cell' 1 (.int .i64 m4) rfl
      go_wp2_with fail
      refine (C0.out _).mono ?_
      rintro e w4 ⟨rfl, q⟩
      clear x_0 x_1 x_2 y_0 y_1
      replace X := X.kept q
      replace Y := Y.kept q
      replace p := p.trans q
      clear q
      go_upto_region 6 with fail
      refine code_of (fun w' => Bx w' w.heap.size #[.int .i64 m0, .int .i64 m1, .int .i64 m2] 23 ∧ Bx w' (w.heap.size + 1) #[.int .i64 m3, .int .i64 m4] 36 ∧ Bx w' w4.heap.size #[.int .i64 g0, .int .i64 g1] 36 ∧ Qw w w') ⟨(X.alloc _), (Y.alloc _), (Bx.new _ _ _), (p.alloc p.size _)⟩ ?_
      clear X Y p
      rintro w5 ⟨X, Y, P, p⟩
      have x_0 := X.cell' 0 (.int .i64 m0) rfl
      have x_1 := X.cell' 1 (.int .i64 m1) rfl
      have x_2 := X.cell' 2 (.int .i64 m2) rfl
      have y_0 := Y.cell' 0 (.int .i64 m3) rfl
      have y_1 := Y.cell' 1 (.int .i64 m4) rfl
      have p_0 := P.cell' 0 (.int .i64 g0) rfl
      have p_1 := P.cell' 1 (.int .i64 g1) rfl
      go_wp2_with fail
      refine (C1.out _).mono ?_
      rintro e w6 ⟨rfl, q⟩
      clear x_0 x_1 x_2 y_0 y_1 p_0 p_1
      replace X := X.kept q
      replace Y := Y.kept q
      replace P := P.kept q
      replace p := p.trans q
      clear q
      go_upto_region 7 with fail
      refine code_of (fun w' => Bx w' w.heap.size #[.int .i64 m0, .int .i64 m1, .int .i64 m2] 23 ∧ Bx w' (w.heap.size + 1) #[.int .i64 m3, .int .i64 m4] 36 ∧ Bx w' w4.heap.size #[.int .i64 g0, .int .i64 g1] 36 ∧ Bx w' w6.heap.size #[.int .i64 g0, .int .i64 g1] 36 ∧ Qw w w') ⟨(X.alloc _), (Y.alloc _), (P.alloc _), (Bx.new _ _ _), (p.alloc p.size _)⟩ ?_
      clear X Y P p
      rintro w7 ⟨X, Y, P, R, p⟩
      have x_0 := X.cell' 0 (.int .i64 m0) rfl
      have x_1 := X.cell' 1 (.int .i64 m1) rfl
      have x_2 := X.cell' 2 (.int .i64 m2) rfl
      have y_0 := Y.cell' 0 (.int .i64 m3) rfl
      have y_1 := Y.cell' 1 (.int .i64 m4) rfl
      have p_0 := P.cell' 0 (.int .i64 g0) rfl
      have p_1 := P.cell' 1 (.int .i64 g1) rfl
      have r_0 := R.cell' 0 (.int .i64 g0) rfl
      have r_1 := R.cell' 1 (.int .i64 g1) rfl
      go_wp2_with fail
      refine (C2.out _).mono ?_
      rintro e w8 ⟨rfl, q⟩
      clear x_0 x_1 x_2 y_0 y_1 p_0 p_1 r_0 r_1
      replace X := X.kept q
      replace Y := Y.kept q
      replace P := P.kept q
      replace R := R.kept q
      replace p := p.trans q
      clear q
      go_upto_region 8 with fail
      refine code_of (fun w' => Bx w' w.heap.size #[.int .i64 m0, .int .i64 m1, .int .i64 m2] 23 ∧ Bx w' (w.heap.size + 1) #[.int .i64 m3, .int .i64 m4] 36 ∧ Bx w' w4.heap.size #[.int .i64 g0, .int .i64 g1] 36 ∧ Bx w' w6.heap.size #[.int .i64 g0, .int .i64 g1] 36 ∧ Bx w' w8.heap.size #[.int .i64 s0, .int .i64 s1, .int .i64 s2] 23 ∧ Qw w w') ⟨(X.alloc _), (Y.alloc _), (P.alloc _), (R.alloc _), (Bx.new _ _ _), (p.alloc p.size _)⟩ ?_
      clear X Y P R p
      rintro w9 ⟨X, Y, P, R, S, p⟩
      have x_0 := X.cell' 0 (.int .i64 m0) rfl
      have x_1 := X.cell' 1 (.int .i64 m1) rfl
      have x_2 := X.cell' 2 (.int .i64 m2) rfl
      have y_0 := Y.cell' 0 (.int .i64 m3) rfl
      have y_1 := Y.cell' 1 (.int .i64 m4) rfl
      have p_0 := P.cell' 0 (.int .i64 g0) rfl
      have p_1 := P.cell' 1 (.int .i64 g1) rfl
      have r_0 := R.cell' 0 (.int .i64 g0) rfl
      have r_1 := R.cell' 1 (.int .i64 g1) rfl
      have s_0 := S.cell' 0 (.int .i64 s0) rfl
      have s_1 := S.cell' 1 (.int .i64 s1) rfl
      have s_2 := S.cell' 2 (.int .i64 s2) rfl
      go_wp2_with fail
      refine (C3.out _).mono ?_
      rintro e w10 ⟨rfl, q⟩
      clear x_0 x_1 x_2 y_0 y_1 p_0 p_1 r_0 r_1 s_0 s_1 s_2
      replace X := X.kept q
      replace Y := Y.kept q
      replace P := P.kept q
      replace R := R.kept q
      replace S := S.kept q
      replace p := p.trans q
      clear q
      go_upto_region 9 with fail
      refine code_of (fun w' => Bx w' w.heap.size #[.int .i64 m0, .int .i64 m1, .int .i64 m2] 23 ∧ Bx w' (w.heap.size + 1) #[.int .i64 m3, .int .i64 m4] 36 ∧ Bx w' w4.heap.size #[.int .i64 g0, .int .i64 g1] 36 ∧ Bx w' w6.heap.size #[.int .i64 g0, .int .i64 g1] 36 ∧ Bx w' w8.heap.size #[.int .i64 s0, .int .i64 s1, .int .i64 s2] 23 ∧ Bx w' w10.heap.size #[.int .i64 s0, .int .i64 s1, .int .i64 s2] 23 ∧ Qw w w') ⟨(X.alloc _), (Y.alloc _), (P.alloc _), (R.alloc _), (S.alloc _), (Bx.new _ _ _), (p.alloc p.size _)⟩ ?_
      clear X Y P R S p
      rintro w11 ⟨X, Y, P, R, S, T, p⟩
      have x_0 := X.cell' 0 (.int .i64 m0) rfl
      have x_1 := X.cell' 1 (.int .i64 m1) rfl
      have x_2 := X.cell' 2 (.int .i64 m2) rfl
      have y_0 := Y.cell' 0 (.int .i64 m3) rfl
      have y_1 := Y.cell' 1 (.int .i64 m4) rfl
      have p_0 := P.cell' 0 (.int .i64 g0) rfl
      have p_1 := P.cell' 1 (.int .i64 g1) rfl
      have r_0 := R.cell' 0 (.int .i64 g0) rfl
      have r_1 := R.cell' 1 (.int .i64 g1) rfl
      have s_0 := S.cell' 0 (.int .i64 s0) rfl
      have s_1 := S.cell' 1 (.int .i64 s1) rfl
      have s_2 := S.cell' 2 (.int .i64 s2) rfl
      have t_0 := T.cell' 0 (.int .i64 s0) rfl
      have t_1 := T.cell' 1 (.int .i64 s1) rfl
      have t_2 := T.cell' 2 (.int .i64 s2) rfl
      go_wp2_with (go_at_call 15; refine (K3.out _).mono ?_; rintro e w' ⟨rfl, rfl⟩)
      exact ⟨⟨k + 1, 17 + r, by omega, by omega, by omega, by go_num, rfl, X, Y, p⟩, by simp [intOf]; omega⟩
    · go_wp2_with fail
      refine (AW.out _).mono ?_
      rintro e w' ⟨rfl, q'⟩
      go_wp2
      go_ret
      exact ⟨rfl, p.trans q'⟩

/-! ### the row -/
theorem own_vecPlanes : ownKnob Try.prog.godebug = none := by kernel_rfl
set_option maxRecDepth 100000 in
theorem lifted_vecPlanes (os : Os) (started : os.Started) (H : Type) (enc : TypeId × Value → H) :
    ReturnsInHanded {} Try.checked os 6 .any (Rows.vecPlanesSpec.pre6 enc Try.prog Try.f6 Rows.vecPlanesRow.domain false) (Rows.vecPlanesSpec.post enc Try.prog Try.f6 false true false false) := by
  refine returnsInHanded_of_change (C := Try.checked) own_vecPlanes started (by kernel_rfl) Try.func6
    (ChangeSpec.witness6 (enc := enc) (C := Try.checked) false ⟨#[], #[.int .i64 0, .agg #[.int .i64 0, .int .i64 0, .int .i64 0], .agg #[.int .i64 0, .int .i64 0], .int .i64 0], []⟩ 8 (by kernel_rfl) (by kernel_rfl) (by kernel_rfl) (by kernel_rfl)) ?_
  intro W base args ds gs before hval0 hW hcnd _
  have hval : ∀ (j : Nat) t v, Try.f6.params[j]? = some t → args[j]? = some v → Value.okWide Try.prog W .any base t v := hval0
  have hW' := hW
  obtain ⟨p, q, hA0, hV, rfl, hfz, hnd⟩ := hW
  have hA : DataW.TrodAll enc Try.prog W 0 (fun _ => true) true Try.f6.params.toList args.toList ds p := hA0
  rw [Try.params6] at hA hval
  obtain ⟨v0, vs0, d0, ds0, p0, q0, hargs, rfl, rfl, h0, r0⟩ := trodAll_cons hA
  obtain ⟨v1, vs1, d1, ds1, p1, q1, rfl, rfl, rfl, h1, r1⟩ := trodAll_cons r0
  obtain ⟨v2, vs2, d2, ds2, p2, q2, rfl, rfl, rfl, h2, r2⟩ := trodAll_cons r1
  obtain ⟨v3, vs3, d3, ds3, p3, q3, rfl, rfl, rfl, h3, r3⟩ := trodAll_cons r2
  obtain ⟨rfl, rfl, rfl⟩ := trodAll_nil r3
  obtain rfl : args = #[v0, v1, v2, v3] := by cases args; simp_all
  obtain ⟨rfl, rfl⟩ := trodVars_none hV
  obtain ⟨a0_0, rfl, rfl, rfl, w0_0⟩ := open_int Try.underlying3 (hval 0 3 v0 rfl rfl) h0
  obtain ⟨x0_0, y0_0⟩ := i64_of_wf w0_0
  obtain ⟨a1_0, a1_1, a1_2, rfl, rfl, rfl, w1_0, w1_1, w1_2⟩ := open_vec (hval 1 23 v1 rfl rfl) h1
  obtain ⟨x1_0, y1_0⟩ := i64_of_wf w1_0
  obtain ⟨x1_1, y1_1⟩ := i64_of_wf w1_1
  obtain ⟨x1_2, y1_2⟩ := i64_of_wf w1_2
  obtain ⟨a2_0, a2_1, rfl, rfl, rfl, w2_0, w2_1⟩ := open_pt (hval 2 36 v2 rfl rfl) h2
  obtain ⟨x2_0, y2_0⟩ := i64_of_wf w2_0
  obtain ⟨x2_1, y2_1⟩ := i64_of_wf w2_1
  obtain ⟨a3_0, rfl, rfl, rfl, w3_0⟩ := open_int Try.underlying3 (hval 3 3 v3 rfl rfl) h3
  obtain ⟨x3_0, y3_0⟩ := i64_of_wf w3_0
  clear hA0 hval0
  simp only [List.append_nil] at hW'
  refine (walk_vecPlanes a0_0 x0_0 y0_0 a1_0 x1_0 y1_0 a1_1 x1_1 y1_1 a1_2 x1_2 y1_2 a2_0 x2_0 y2_0 a2_1 x2_1 y2_1 a3_0 x3_0 y3_0 W).mono fun e W' ⟨he, bel⟩ => ?_
  subst he
  exact ⟨_, rfl, _, _, _, [], _, [], hW', trodAll_mk1 (shut_bool Try.underlying4 _), (trodAll_cons_mk (shut_int Try.underlying3 w0_0) (trodAll_cons_mk (shut_vec w1_0 w1_1 w1_2) (trodAll_cons_mk (shut_pt w2_0 w2_1) (trodAll_cons_mk (shut_int Try.underlying3 w3_0) trodAll_mk0)))), rfl, Below.frame bel _, fun h => by cases h⟩

/-- The statement. -/
theorem vecPlanes_holds : Rows.VecPlanesSaid :=
  OpenClaim.holds_of_wide 6 Try.f6 rfl rfl rfl rfl rfl rfl rfl ⟨rfl, rfl, rfl, rfl, rfl⟩ rfl rfl rfl rfl rfl (by kernel_rfl) Try.func6 (by kernel_rfl)
    (of_decide_eq_true (by kernel_rfl)) (by unfold Func.isWrapper; first | (rw [if_pos (by decide +kernel)]; kernel_rfl) | (rw [if_neg (by decide +kernel)]; exact ⟨rfl, rfl⟩))
    (fun os started H enc _ => lifted_vecPlanes os started H enc)

end Go.Proofs.Ytlfkgnpbpmejkaa
