
/- VecTriangle: a sum is not longer than its parts together, and a length does not exceed the sum of the components.
   Conditions: none; every input. -/
import Derived.Test.YtlfkgnpbpmejkaaFrameV
import Derived.Test.YtlfkgnpbpmejkaaVmB
import Derived.Test.YtlfkgnpbpmejkaaVrB
import Derived.Test.YtlfkgnpbpmejkaaVmC
set_option linter.unusedVariables false
set_option linter.unusedSimpArgs false
namespace Go.Proofs.Ytlfkgnpbpmejkaa
open Go.ChangeShapes Go.WideShapes Go.ChangeAt Go.RowKit

set_option maxRecDepth 100000 in
set_option maxHeartbeats 1000000 in
theorem walk_vecTriangle (x : Int) (x1 : -9223372036854775808 ≤ x) (x2 : x ≤ 9223372036854775807) (y : Int) (y1 : -9223372036854775808 ≤ y) (y2 : y ≤ 9223372036854775807) (z : Int) (z1 : -9223372036854775808 ≤ z) (z2 : z ≤ 9223372036854775807) (a : Int) (a1 : -9223372036854775808 ≤ a) (a2 : a ≤ 9223372036854775807) (b : Int) (b1 : -9223372036854775808 ≤ b) (b2 : b ≤ 9223372036854775807) (c : Int) (c1 : -9223372036854775808 ≤ c) (c2 : c ≤ 9223372036854775807) (w : World) : Calls Try.prog 11 #[.agg #[.int .i64 x, .int .i64 y, .int .i64 z], .agg #[.int .i64 a, .int .i64 b, .int .i64 c]] w fun e w' => e = .returned (.bool true) ∧ Below w.heap.size w w' := by
  have k0 := fun w => halvedW x y z x1 x2 y1 y2 z1 z2 w
  have k1 := fun w => halvedW a b c a1 a2 b1 b2 c1 c2 w
  obtain ⟨m01, m02⟩ := hv_bd x
  generalize hv x = m0 at *
  obtain ⟨m11, m12⟩ := hv_bd y
  generalize hv y = m1 at *
  obtain ⟨m21, m22⟩ := hv_bd z
  generalize hv z = m2 at *
  obtain ⟨m31, m32⟩ := hv_bd a
  generalize hv a = m3 at *
  obtain ⟨m41, m42⟩ := hv_bd b
  generalize hv b = m4 at *
  obtain ⟨m51, m52⟩ := hv_bd c
  generalize hv c = m5 at *
  have c0 := fun w => vc_length m0 m1 m2 1 (show -4194304 ≤ m0 by omega) (show m0 ≤ 4194304 by omega) (show -4194304 ≤ m1 by omega) (show m1 ≤ 4194304 by omega) (show -4194304 ≤ m2 by omega) (show m2 ≤ 4194304 by omega) (by decide) (by decide) w
  have c1 := fun w => vc_length m3 m4 m5 1 (show -4194304 ≤ m3 by omega) (show m3 ≤ 4194304 by omega) (show -4194304 ≤ m4 by omega) (show m4 ≤ 4194304 by omega) (show -4194304 ≤ m5 by omega) (show m5 ≤ 4194304 by omega) (by decide) (by decide) w
  have c2 := fun w => vc_add m0 m1 m2 m3 m4 m5 (show -4194304 ≤ m0 by omega) (show m0 ≤ 4194304 by omega) (show -4194304 ≤ m1 by omega) (show m1 ≤ 4194304 by omega) (show -4194304 ≤ m2 by omega) (show m2 ≤ 4194304 by omega) (show -4194304 ≤ m3 by omega) (show m3 ≤ 4194304 by omega) (show -4194304 ≤ m4 by omega) (show m4 ≤ 4194304 by omega) (show -4194304 ≤ m5 by omega) (show m5 ≤ 4194304 by omega) w
  have c3 := fun w => vc_length (m0 + m3) (m1 + m4) (m2 + m5) 0 (show -4194304 ≤ m0 + m3 by omega) (show m0 + m3 ≤ 4194304 by omega) (show -4194304 ≤ m1 + m4 by omega) (show m1 + m4 ≤ 4194304 by omega) (show -4194304 ≤ m2 + m5 by omega) (show m2 + m5 ≤ 4194304 by omega) (by decide) (by decide) w
  have n0 := sq_nonneg m0
  obtain ⟨_, u0⟩ := mul_bd (L := 2097152) (by decide) m01 m02 m01 m02
  have n1 := sq_nonneg m1
  obtain ⟨_, u1⟩ := mul_bd (L := 2097152) (by decide) m11 m12 m11 m12
  have n2 := sq_nonneg m2
  obtain ⟨_, u2⟩ := mul_bd (L := 2097152) (by decide) m21 m22 m21 m22
  have n3 := sq_nonneg m3
  obtain ⟨_, u3⟩ := mul_bd (L := 2097152) (by decide) m31 m32 m31 m32
  have n4 := sq_nonneg m4
  obtain ⟨_, u4⟩ := mul_bd (L := 2097152) (by decide) m41 m42 m41 m42
  have n5 := sq_nonneg m5
  obtain ⟨_, u5⟩ := mul_bd (L := 2097152) (by decide) m51 m52 m51 m52
  have n6 := sq_nonneg (m0 + m3)
  obtain ⟨_, u6⟩ := mul_bd (a := m0 + m3) (b := m0 + m3) (L := 4194304) (by decide) (by omega) (by omega) (by omega) (by omega)
  have n7 := sq_nonneg (m1 + m4)
  obtain ⟨_, u7⟩ := mul_bd (a := m1 + m4) (b := m1 + m4) (L := 4194304) (by decide) (by omega) (by omega) (by omega) (by omega)
  have n8 := sq_nonneg (m2 + m5)
  obtain ⟨_, u8⟩ := mul_bd (a := m2 + m5) (b := m2 + m5) (L := 4194304) (by decide) (by omega) (by omega) (by omega) (by omega)
  obtain ⟨m, em, om, mm0, mm1, mm2, mm3⟩ := up_spec (m0 * m0 + m1 * m1 + m2 * m2) (by omega) (by omega)
  obtain ⟨n, en, on, nn0, nn1, nn2, _⟩ := up_spec (m3 * m3 + m4 * m4 + m5 * m5) (by omega) (by omega)
  obtain ⟨k, ek, ok, kk0, kk1, kk2, _⟩ := down_spec ((m0 + m3) * (m0 + m3) + (m1 + m4) * (m1 + m4) + (m2 + m5) * (m2 + m5)) (by omega) (by omega)
  have t1 : k ≤ m + n := tri_sum mm0 nn0 mm2 nn2 kk2
  have t2 : m ≤ max m0 (-m0) + max m1 (-m1) + max m2 (-m2) := mm3 _ (by omega) (tri_up (by omega) (by omega) (by omega) (by omega) (by omega) (by omega))
  obtain ⟨⟨v1, v2⟩, ⟨v3, v4⟩, v5, v6⟩ := tri_low mm0 mm2
  obtain ⟨M, hM, rM⟩ := run_max6 Try.prog #[3, 3, 3, 3, 3, 3] 3 v1 v2 v3 v4 v5 v6
  have t3 : decide (M ≤ m) = true := decide_eq_true hM
  rw [em, om] at c0
  rw [en, on] at c1
  rw [ek, ok] at c3
  clear em en ek om on ok mm2 mm3 nn2 kk2 n0 u0 n1 u1 n2 u2 n3 u3 n4 u4 n5 u5 n6 u6 n7 u7 n8 u8
  have aw := fun w => awakeV w
  have K0 := Lib.hid k0
  have K1 := Lib.hid k1
  have C0 := Lib.hid c0
  have C1 := Lib.hid c1
  have C2 := Lib.hid c2
  have C3 := Lib.hid c3
  have AW := Lib.hid aw
  clear k0 k1 c0 c1 c2 c3 aw
  go_enter Try.func11, Try.ntmps11
  go_upto_region 1 with fail
  refine code_of (fun w' => Bx w' w.heap.size #[.int .i64 x, .int .i64 y, .int .i64 z] 23 ∧ Bx w' (w.heap.size + 1) #[.int .i64 a, .int .i64 b, .int .i64 c] 23 ∧ Qw w w') ⟨((Bx.new _ _ _).alloc _), (by have := (Bx.new (World.alloc w (.cells #[.int .i64 x, .int .i64 y, .int .i64 z] 23)) #[.int .i64 a, .int .i64 b, .int .i64 c] 23); simpa using this), (((Below.refl _ _).alloc (by simp) _).alloc (by simp) _)⟩ ?_
  rintro w1 ⟨X, Y, p⟩
  have x_0 := X.kcell 0 (.int .i64 x) rfl
  have x_1 := X.kcell 1 (.int .i64 y) rfl
  have x_2 := X.kcell 2 (.int .i64 z) rfl
  have y_0 := Y.kcell 0 (.int .i64 a) rfl
  have y_1 := Y.kcell 1 (.int .i64 b) rfl
  have y_2 := Y.kcell 2 (.int .i64 c) rfl
  refine region_kept_tail 4 (by kernel_rfl) (by kernel_rfl) ?_
  simp only [List.take_succ_cons, List.take_zero, List.drop_succ_cons, List.drop_zero]
  repeat (go_big_quiet_step (first | (go_at_call 38; with_reducible exact Kept.call (K0.out _)) | (go_at_call 38; with_reducible exact Kept.call (K1.out _))))
  refine wpQuiet_nil ?_
  intro w2 q
  clear x_0 x_1 x_2 y_0 y_1 y_2
  replace X := X.kept q
  replace Y := Y.kept q
  replace p := p.trans q
  clear q
  have x_0 := X.cell' 0 (.int .i64 x) rfl
  have x_f0 := X.free 0
  have x_1 := X.cell' 1 (.int .i64 y) rfl
  have x_f1 := X.free 1
  have x_2 := X.cell' 2 (.int .i64 z) rfl
  have x_f2 := X.free 2
  have y_0 := Y.cell' 0 (.int .i64 a) rfl
  have y_f0 := Y.free 0
  have y_1 := Y.cell' 1 (.int .i64 b) rfl
  have y_f1 := Y.free 1
  have y_2 := Y.cell' 2 (.int .i64 c) rfl
  have y_f2 := Y.free 2
  go_upto_region 2 with fail
  clear x_0 x_f0 x_1 x_f1 x_2 x_f2 y_0 y_f0 y_1 y_f1 y_2 y_f2
  refine code_of (fun w' => Bx w' w.heap.size #[.int .i64 m0, .int .i64 m1, .int .i64 m2] 23 ∧ Bx w' (w.heap.size + 1) #[.int .i64 m3, .int .i64 m4, .int .i64 m5] 23 ∧ Qw w w') ⟨((((((X.set 0 _).set 1 _).set 2 _).other (by first | (simp; done) | (simp; omega)) _).other (by first | (simp; done) | (simp; omega)) _).other (by first | (simp; done) | (simp; omega)) _), ((((((Y.other (by first | (simp; done) | (simp; omega)) _).other (by first | (simp; done) | (simp; omega)) _).other (by first | (simp; done) | (simp; omega)) _).set 0 _).set 1 _).set 2 _), ((((((p.setCell (by first | (simp; done) | (simp; omega)) _).setCell (by first | (simp; done) | (simp; omega)) _).setCell (by first | (simp; done) | (simp; omega)) _).setCell (by first | (simp; done) | (simp; omega)) _).setCell (by first | (simp; done) | (simp; omega)) _).setCell (by first | (simp; done) | (simp; omega)) _)⟩ ?_
  clear X Y p
  rintro w3 ⟨X, Y, p⟩
  have x_0 := X.cell' 0 (.int .i64 m0) rfl
  have x_1 := X.cell' 1 (.int .i64 m1) rfl
  have x_2 := X.cell' 2 (.int .i64 m2) rfl
  have y_0 := Y.cell' 0 (.int .i64 m3) rfl
  have y_1 := Y.cell' 1 (.int .i64 m4) rfl
  have y_2 := Y.cell' 2 (.int .i64 m5) rfl
  go_wp2_with fail
  refine (C0.out _).mono ?_
  rintro e w4 ⟨rfl, q⟩
  clear x_0 x_1 x_2 y_0 y_1 y_2
  replace X := X.kept q
  replace Y := Y.kept q
  replace p := p.trans q
  clear q
  have x_0 := X.cell' 0 (.int .i64 m0) rfl
  have x_1 := X.cell' 1 (.int .i64 m1) rfl
  have x_2 := X.cell' 2 (.int .i64 m2) rfl
  have y_0 := Y.cell' 0 (.int .i64 m3) rfl
  have y_1 := Y.cell' 1 (.int .i64 m4) rfl
  have y_2 := Y.cell' 2 (.int .i64 m5) rfl
  go_wp2_with fail
  refine (C1.out _).mono ?_
  rintro e w5 ⟨rfl, q⟩
  clear x_0 x_1 x_2 y_0 y_1 y_2
  replace X := X.kept q
  replace Y := Y.kept q
  replace p := p.trans q
  clear q
  have x_0 := X.cell' 0 (.int .i64 m0) rfl
  have x_1 := X.cell' 1 (.int .i64 m1) rfl
  have x_2 := X.cell' 2 (.int .i64 m2) rfl
  have y_0 := Y.cell' 0 (.int .i64 m3) rfl
  have y_1 := Y.cell' 1 (.int .i64 m4) rfl
  have y_2 := Y.cell' 2 (.int .i64 m5) rfl
  go_wp2_with fail
  refine (C2.out _).mono ?_
  rintro e w6 ⟨rfl, q⟩
  clear x_0 x_1 x_2 y_0 y_1 y_2
  replace X := X.kept q
  replace Y := Y.kept q
  replace p := p.trans q
  clear q
  have x_0 := X.cell' 0 (.int .i64 m0) rfl
  have x_1 := X.cell' 1 (.int .i64 m1) rfl
  have x_2 := X.cell' 2 (.int .i64 m2) rfl
  have y_0 := Y.cell' 0 (.int .i64 m3) rfl
  have y_1 := Y.cell' 1 (.int .i64 m4) rfl
  have y_2 := Y.cell' 2 (.int .i64 m5) rfl
  go_wp2_with fail
  refine (C3.out _).mono ?_
  rintro e w7 ⟨rfl, q⟩
  clear x_0 x_1 x_2 y_0 y_1 y_2
  replace X := X.kept q
  replace Y := Y.kept q
  replace p := p.trans q
  clear q
  go_wp2_with fail
  refine (AW.out _).mono ?_
  rintro e w8 ⟨rfl, q⟩
  replace X := X.kept q
  replace Y := Y.kept q
  replace p := p.trans q
  clear q
  have x_0 := X.cell' 0 (.int .i64 m0) rfl
  have x_1 := X.cell' 1 (.int .i64 m1) rfl
  have x_2 := X.cell' 2 (.int .i64 m2) rfl
  have y_0 := Y.cell' 0 (.int .i64 m3) rfl
  have y_1 := Y.cell' 1 (.int .i64 m4) rfl
  have y_2 := Y.cell' 2 (.int .i64 m5) rfl
  go_wp2
  go_ret
  exact ⟨rfl, p⟩

/-! ### the row -/
theorem own_vecTriangle : ownKnob Try.prog.godebug = none := by kernel_rfl
set_option maxRecDepth 100000 in
theorem lifted_vecTriangle (os : Os) (started : os.Started) (H : Type) (enc : TypeId × Value → H) :
    ReturnsInHanded {} Try.checked os 11 .any (Rows.vecTriangleSpec.pre6 enc Try.prog Try.f11 Rows.vecTriangleRow.domain false) (Rows.vecTriangleSpec.post enc Try.prog Try.f11 false true false false) := by
  refine returnsInHanded_of_change (C := Try.checked) own_vecTriangle started (by kernel_rfl) Try.func11
    (ChangeSpec.witness6 (enc := enc) (C := Try.checked) false ⟨#[], #[.agg #[.int .i64 0, .int .i64 0, .int .i64 0], .agg #[.int .i64 0, .int .i64 0, .int .i64 0]], []⟩ 8 (by kernel_rfl) (by kernel_rfl) (by kernel_rfl) (by kernel_rfl)) ?_
  intro W base args ds gs before hval0 hW hcnd _
  have hval : ∀ (j : Nat) t v, Try.f11.params[j]? = some t → args[j]? = some v → Value.okWide Try.prog W .any base t v := hval0
  have hW' := hW
  obtain ⟨p, q, hA0, hV, rfl, hfz, hnd⟩ := hW
  have hA : DataW.TrodAll enc Try.prog W 0 (fun _ => true) true Try.f11.params.toList args.toList ds p := hA0
  rw [Try.params11] at hA hval
  obtain ⟨v0, vs0, d0, ds0, p0, q0, hargs, rfl, rfl, h0, r0⟩ := trodAll_cons hA
  obtain ⟨v1, vs1, d1, ds1, p1, q1, rfl, rfl, rfl, h1, r1⟩ := trodAll_cons r0
  obtain ⟨rfl, rfl, rfl⟩ := trodAll_nil r1
  obtain rfl : args = #[v0, v1] := by cases args; simp_all
  obtain ⟨rfl, rfl⟩ := trodVars_none hV
  obtain ⟨a0_0, a0_1, a0_2, rfl, rfl, rfl, w0_0, w0_1, w0_2⟩ := open_vec (hval 0 23 v0 rfl rfl) h0
  obtain ⟨x0_0, y0_0⟩ := i64_of_wf w0_0
  obtain ⟨x0_1, y0_1⟩ := i64_of_wf w0_1
  obtain ⟨x0_2, y0_2⟩ := i64_of_wf w0_2
  obtain ⟨a1_0, a1_1, a1_2, rfl, rfl, rfl, w1_0, w1_1, w1_2⟩ := open_vec (hval 1 23 v1 rfl rfl) h1
  obtain ⟨x1_0, y1_0⟩ := i64_of_wf w1_0
  obtain ⟨x1_1, y1_1⟩ := i64_of_wf w1_1
  obtain ⟨x1_2, y1_2⟩ := i64_of_wf w1_2
  clear hA0 hval0
  simp only [List.append_nil] at hW'
  refine (walk_vecTriangle a0_0 x0_0 y0_0 a0_1 x0_1 y0_1 a0_2 x0_2 y0_2 a1_0 x1_0 y1_0 a1_1 x1_1 y1_1 a1_2 x1_2 y1_2 W).mono fun e W' ⟨he, bel⟩ => ?_
  subst he
  exact ⟨_, rfl, _, _, _, [], _, [], hW', trodAll_mk1 (shut_bool Try.underlying4 _), (trodAll_cons_mk (shut_vec w0_0 w0_1 w0_2) (trodAll_cons_mk (shut_vec w1_0 w1_1 w1_2) trodAll_mk0)), rfl, Below.frame bel _, fun h => by cases h⟩

/-- The statement. -/
theorem vecTriangle_holds : Rows.VecTriangleSaid :=
  OpenClaim.holds_of_wide 11 Try.f11 rfl rfl rfl rfl rfl rfl rfl ⟨rfl, rfl, rfl, rfl, rfl⟩ rfl rfl rfl rfl rfl (by kernel_rfl) Try.func11 (by kernel_rfl)
    (of_decide_eq_true (by kernel_rfl)) (by unfold Func.isWrapper; first | (rw [if_pos (by decide +kernel)]; kernel_rfl) | (rw [if_neg (by decide +kernel)]; exact ⟨rfl, rfl⟩))
    (fun os started H enc _ => lifted_vecTriangle os started H enc)

end Go.Proofs.Ytlfkgnpbpmejkaa
