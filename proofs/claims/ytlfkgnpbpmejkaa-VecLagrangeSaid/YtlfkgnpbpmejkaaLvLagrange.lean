
/- VecLagrange: the squares of the cross and the inner product add up to the product of the squares of the lengths.
   Conditions: none; every input. -/
import Derived.Test.YtlfkgnpbpmejkaaFrameV
import Derived.Test.YtlfkgnpbpmejkaaVmB
import Derived.Test.YtlfkgnpbpmejkaaVrB
import Derived.Test.YtlfkgnpbpmejkaaVmC
set_option linter.unusedVariables false
set_option linter.unusedSimpArgs false
namespace Go.Proofs.Ytlfkgnpbpmejkaa
open Go.ChangeShapes Go.WideShapes Go.ChangeAt Go.RowKit

set_option maxRecDepth 100000 in
set_option maxHeartbeats 1000000 in
theorem walk_vecLagrange (u : Int) (u1 : -9223372036854775808 ≤ u) (u2 : u ≤ 9223372036854775807) (v : Int) (v1 : -9223372036854775808 ≤ v) (v2 : v ≤ 9223372036854775807) (s : Int) (s1 : -9223372036854775808 ≤ s) (s2 : s ≤ 9223372036854775807) (t : Int) (t1 : -9223372036854775808 ≤ t) (t2 : t ≤ 9223372036854775807) (w : World) : Calls Try.prog 10 #[.agg #[.int .i64 u, .int .i64 v], .agg #[.int .i64 s, .int .i64 t]] w fun e w' => e = .returned (.bool true) ∧ Below w.heap.size w w' := by
  have k0 := fun w => betweenW u (-20000) 20000 u1 u2 (by decide) (by decide) (by decide) (by decide) w
  obtain ⟨m01, m02⟩ := btw_bd u (-20000) 20000 (by decide)
  generalize -20000 + u % (20000 - -20000 + 1) = m0 at *
  have k1 := fun w => betweenW v (-20000) 20000 v1 v2 (by decide) (by decide) (by decide) (by decide) w
  obtain ⟨m11, m12⟩ := btw_bd v (-20000) 20000 (by decide)
  generalize -20000 + v % (20000 - -20000 + 1) = m1 at *
  have k2 := fun w => betweenW s (-20000) 20000 s1 s2 (by decide) (by decide) (by decide) (by decide) w
  obtain ⟨m21, m22⟩ := btw_bd s (-20000) 20000 (by decide)
  generalize -20000 + s % (20000 - -20000 + 1) = m2 at *
  have k3 := fun w => betweenW t (-20000) 20000 t1 t2 (by decide) (by decide) (by decide) (by decide) w
  obtain ⟨m31, m32⟩ := btw_bd t (-20000) 20000 (by decide)
  generalize -20000 + t % (20000 - -20000 + 1) = m3 at *
  have c0 := fun w => vc_cross m0 m1 m2 m3 (show -4194304 ≤ m0 by omega) (show m0 ≤ 4194304 by omega) (show -4194304 ≤ m1 by omega) (show m1 ≤ 4194304 by omega) (show -4194304 ≤ m2 by omega) (show m2 ≤ 4194304 by omega) (show -4194304 ≤ m3 by omega) (show m3 ≤ 4194304 by omega) w
  have c1 := fun w => vc_inner m0 m1 m2 m3 (show -4194304 ≤ m0 by omega) (show m0 ≤ 4194304 by omega) (show -4194304 ≤ m1 by omega) (show m1 ≤ 4194304 by omega) (show -4194304 ≤ m2 by omega) (show m2 ≤ 4194304 by omega) (show -4194304 ≤ m3 by omega) (show m3 ≤ 4194304 by omega) w
  have c2 := fun w => vc_cross m2 m3 m0 m1 (show -4194304 ≤ m2 by omega) (show m2 ≤ 4194304 by omega) (show -4194304 ≤ m3 by omega) (show m3 ≤ 4194304 by omega) (show -4194304 ≤ m0 by omega) (show m0 ≤ 4194304 by omega) (show -4194304 ≤ m1 by omega) (show m1 ≤ 4194304 by omega) w
  have c3 := fun w => vc_inner m2 m3 m0 m1 (show -4194304 ≤ m2 by omega) (show m2 ≤ 4194304 by omega) (show -4194304 ≤ m3 by omega) (show m3 ≤ 4194304 by omega) (show -4194304 ≤ m0 by omega) (show m0 ≤ 4194304 by omega) (show -4194304 ≤ m1 by omega) (show m1 ≤ 4194304 by omega) w
  have c4 := fun w => vc_cross m0 m1 m0 m1 (show -4194304 ≤ m0 by omega) (show m0 ≤ 4194304 by omega) (show -4194304 ≤ m1 by omega) (show m1 ≤ 4194304 by omega) (show -4194304 ≤ m0 by omega) (show m0 ≤ 4194304 by omega) (show -4194304 ≤ m1 by omega) (show m1 ≤ 4194304 by omega) w
  rw [show m2 * m1 - m3 * m0 = -(m0 * m3 - m1 * m2) by rw [Int.mul_comm m2 m1, Int.mul_comm m3 m0]; omega] at c2
  rw [show m2 * m0 + m3 * m1 = m0 * m2 + m1 * m3 by rw [Int.mul_comm m2 m0, Int.mul_comm m3 m1]] at c3
  rw [show m0 * m1 - m1 * m0 = 0 by rw [Int.mul_comm m1 m0]; omega] at c4
  obtain ⟨a1, a2⟩ := mul_bd (L := 20000) (by decide) m01 m02 m31 m32
  obtain ⟨b1, b2⟩ := mul_bd (L := 20000) (by decide) m11 m12 m21 m22
  obtain ⟨c1, c2⟩ := mul_bd (L := 20000) (by decide) m01 m02 m21 m22
  obtain ⟨d1, d2⟩ := mul_bd (L := 20000) (by decide) m11 m12 m31 m32
  have lg := lagrange m0 m1 m2 m3
  have X1 : -800000000 ≤ m0 * m3 - m1 * m2 := by omega
  have X2 : m0 * m3 - m1 * m2 ≤ 800000000 := by omega
  have I1 : -800000000 ≤ m0 * m2 + m1 * m3 := by omega
  have I2 : m0 * m2 + m1 * m3 ≤ 800000000 := by omega
  clear a1 a2 b1 b2 d1 d2
  generalize m0 * m3 - m1 * m2 = X at *
  generalize m0 * m2 + m1 * m3 = I at *
  obtain ⟨_, P02⟩ := mul_bd (L := 20000) (by decide) m01 m02 m01 m02
  have P01 := sq_nonneg m0
  obtain ⟨P0, e0⟩ : ∃ k, m0 * m0 = k := ⟨_, rfl⟩
  rw [e0] at lg P01 P02
  obtain ⟨_, P12⟩ := mul_bd (L := 20000) (by decide) m11 m12 m11 m12
  have P11 := sq_nonneg m1
  obtain ⟨P1, e1⟩ : ∃ k, m1 * m1 = k := ⟨_, rfl⟩
  rw [e1] at lg P11 P12
  obtain ⟨_, P22⟩ := mul_bd (L := 20000) (by decide) m21 m22 m21 m22
  have P21 := sq_nonneg m2
  obtain ⟨P2, e2⟩ : ∃ k, m2 * m2 = k := ⟨_, rfl⟩
  rw [e2] at lg P21 P22
  obtain ⟨_, P32⟩ := mul_bd (L := 20000) (by decide) m31 m32 m31 m32
  have P31 := sq_nonneg m3
  obtain ⟨P3, e3⟩ : ∃ k, m3 * m3 = k := ⟨_, rfl⟩
  rw [e3] at lg P31 P32
  obtain ⟨_, XX2⟩ := mul_bd (L := 800000000) (by decide) X1 X2 X1 X2
  have XX1 := sq_nonneg X
  obtain ⟨XX, eX⟩ : ∃ k, X * X = k := ⟨_, rfl⟩
  rw [eX] at lg XX1 XX2
  obtain ⟨_, II2⟩ := mul_bd (L := 800000000) (by decide) I1 I2 I1 I2
  have II1 := sq_nonneg I
  obtain ⟨II, eI⟩ : ∃ k, I * I = k := ⟨_, rfl⟩
  rw [eI] at lg II1 II2
  replace lg := lg.symm
  have aw := fun w => awakeV w
  have K0' := Lib.hid k0
  have K1' := Lib.hid k1
  have K2' := Lib.hid k2
  have K3' := Lib.hid k3
  have C0' := Lib.hid c0
  have C1' := Lib.hid c1
  have C2' := Lib.hid c2
  have C3' := Lib.hid c3
  have C4' := Lib.hid c4
  have AW' := Lib.hid aw
  clear k0 k1 k2 k3 c0 c1 c2 c3 c4 aw
  go_enter Try.func10, Try.ntmps10
  go_upto_region 1 with fail
  refine code_of (fun w' => Bx w' w.heap.size #[.int .i64 u, .int .i64 v] 36 ∧ Bx w' (w.heap.size + 1) #[.int .i64 s, .int .i64 t] 36 ∧ Qw w w') ⟨((Bx.new _ _ _).alloc _), (by have := (Bx.new (World.alloc w (.cells #[.int .i64 u, .int .i64 v] 36)) #[.int .i64 s, .int .i64 t] 36); simpa using this), (((Below.refl _ _).alloc (by simp) _).alloc (by simp) _)⟩ ?_
  rintro w1 ⟨A, B, p⟩
  have a_0 := A.kcell 0 (.int .i64 u) rfl
  have a_1 := A.kcell 1 (.int .i64 v) rfl
  have b_0 := B.kcell 0 (.int .i64 s) rfl
  have b_1 := B.kcell 1 (.int .i64 t) rfl
  refine region_kept_tail 7 (by kernel_rfl) (by kernel_rfl) ?_
  simp only [List.take_succ_cons, List.take_zero, List.drop_succ_cons, List.drop_zero]
  repeat (go_big_quiet_step (first | (go_at_call 14; with_reducible exact Kept.same (K0'.out _)) | (go_at_call 14; with_reducible exact Kept.same (K1'.out _))))
  refine wpQuiet_nil ?_
  intro w2 q
  clear a_0 a_1 b_0 b_1
  replace A := A.kept q
  replace B := B.kept q
  replace p := p.trans q
  clear q
  have a_0 := A.cell' 0 (.int .i64 u) rfl
  have a_f0 := A.free 0
  have a_1 := A.cell' 1 (.int .i64 v) rfl
  have a_f1 := A.free 1
  have b_0 := B.cell' 0 (.int .i64 s) rfl
  have b_f0 := B.free 0
  have b_1 := B.cell' 1 (.int .i64 t) rfl
  have b_f1 := B.free 1
  go_upto_region 2 with fail
  clear a_0 a_f0 a_1 a_f1 b_0 b_f0 b_1 b_f1
  refine code_of (fun w' => Bx w' w.heap.size #[.int .i64 m0, .int .i64 m1] 36 ∧ Bx w' (w.heap.size + 1) #[.int .i64 s, .int .i64 t] 36 ∧ Qw w w') ⟨((A.set 0 _).set 1 _), ((B.other (by first | (simp; done) | (simp; omega)) _).other (by first | (simp; done) | (simp; omega)) _), ((p.setCell (by first | (simp; done) | (simp; omega)) _).setCell (by first | (simp; done) | (simp; omega)) _)⟩ ?_
  clear A B p
  rintro w3 ⟨A, B, p⟩
  have a_0 := A.kcell 0 (.int .i64 m0) rfl
  have a_1 := A.kcell 1 (.int .i64 m1) rfl
  have b_0 := B.kcell 0 (.int .i64 s) rfl
  have b_1 := B.kcell 1 (.int .i64 t) rfl
  refine region_kept_tail 7 (by kernel_rfl) (by kernel_rfl) ?_
  simp only [List.take_succ_cons, List.take_zero, List.drop_succ_cons, List.drop_zero]
  repeat (go_big_quiet_step (first | (go_at_call 14; with_reducible exact Kept.same (K2'.out _)) | (go_at_call 14; with_reducible exact Kept.same (K3'.out _))))
  refine wpQuiet_nil ?_
  intro w4 q
  clear a_0 a_1 b_0 b_1
  replace A := A.kept q
  replace B := B.kept q
  replace p := p.trans q
  clear q
  have a_0 := A.cell' 0 (.int .i64 m0) rfl
  have a_f0 := A.free 0
  have a_1 := A.cell' 1 (.int .i64 m1) rfl
  have a_f1 := A.free 1
  have b_0 := B.cell' 0 (.int .i64 s) rfl
  have b_f0 := B.free 0
  have b_1 := B.cell' 1 (.int .i64 t) rfl
  have b_f1 := B.free 1
  go_upto_region 3 with fail
  clear a_0 a_f0 a_1 a_f1 b_0 b_f0 b_1 b_f1
  refine code_of (fun w' => Bx w' w.heap.size #[.int .i64 m0, .int .i64 m1] 36 ∧ Bx w' (w.heap.size + 1) #[.int .i64 m2, .int .i64 m3] 36 ∧ Qw w w') ⟨((A.other (by first | (simp; done) | (simp; omega)) _).other (by first | (simp; done) | (simp; omega)) _), ((B.set 0 _).set 1 _), ((p.setCell (by first | (simp; done) | (simp; omega)) _).setCell (by first | (simp; done) | (simp; omega)) _)⟩ ?_
  clear A B p
  rintro w5 ⟨A, B, p⟩
  have a_0 := A.kcell 0 (.int .i64 m0) rfl
  have a_1 := A.kcell 1 (.int .i64 m1) rfl
  have b_0 := B.kcell 0 (.int .i64 m2) rfl
  have b_1 := B.kcell 1 (.int .i64 m3) rfl
  refine region_kept (by kernel_rfl) (by kernel_rfl) ?_
  repeat (go_big_quiet_step (first | (go_at_call 34; with_reducible exact Kept.call (C0'.out _)) | (go_at_call 36; with_reducible exact Kept.call (C1'.out _))))
  refine wpQuiet_nil ?_
  intro w6 q
  clear a_0 a_1 b_0 b_1
  replace A := A.kept q
  replace B := B.kept q
  replace p := p.trans q
  clear q
  go_wp2_with fail
  refine (AW'.out _).mono ?_
  rintro e w7 ⟨rfl, q⟩
  replace A := A.kept q
  replace B := B.kept q
  replace p := p.trans q
  clear q
  have a_0 := A.cell' 0 (.int .i64 m0) rfl
  have a_1 := A.cell' 1 (.int .i64 m1) rfl
  have b_0 := B.cell' 0 (.int .i64 m2) rfl
  have b_1 := B.cell' 1 (.int .i64 m3) rfl
  go_wp2_with fail
  refine (C2'.out _).mono ?_
  rintro e w8 ⟨rfl, q⟩
  clear a_0 a_1 b_0 b_1
  replace A := A.kept q
  replace B := B.kept q
  replace p := p.trans q
  clear q
  have a_0 := A.cell' 0 (.int .i64 m0) rfl
  have a_1 := A.cell' 1 (.int .i64 m1) rfl
  have b_0 := B.cell' 0 (.int .i64 m2) rfl
  have b_1 := B.cell' 1 (.int .i64 m3) rfl
  go_wp2_with fail
  refine (C3'.out _).mono ?_
  rintro e w9 ⟨rfl, q⟩
  clear a_0 a_1 b_0 b_1
  replace A := A.kept q
  replace B := B.kept q
  replace p := p.trans q
  clear q
  have a_0 := A.cell' 0 (.int .i64 m0) rfl
  have a_1 := A.cell' 1 (.int .i64 m1) rfl
  have b_0 := B.cell' 0 (.int .i64 m2) rfl
  have b_1 := B.cell' 1 (.int .i64 m3) rfl
  go_wp2_with fail
  refine (C4'.out _).mono ?_
  rintro e w10 ⟨rfl, q⟩
  clear a_0 a_1 b_0 b_1
  replace A := A.kept q
  replace B := B.kept q
  replace p := p.trans q
  clear q
  go_wp2
  go_ret
  exact ⟨rfl, p⟩

/-! ### the row -/
theorem own_vecLagrange : ownKnob Try.prog.godebug = none := by kernel_rfl
set_option maxRecDepth 100000 in
theorem lifted_vecLagrange (os : Os) (started : os.Started) (H : Type) (enc : TypeId × Value → H) :
    ReturnsInHanded {} Try.checked os 10 .any (Rows.vecLagrangeSpec.pre6 enc Try.prog Try.f10 Rows.vecLagrangeRow.domain false) (Rows.vecLagrangeSpec.post enc Try.prog Try.f10 false true false false) := by
  refine returnsInHanded_of_change (C := Try.checked) own_vecLagrange started (by kernel_rfl) Try.func10
    (ChangeSpec.witness6 (enc := enc) (C := Try.checked) false ⟨#[], #[.agg #[.int .i64 0, .int .i64 0], .agg #[.int .i64 0, .int .i64 0]], []⟩ 8 (by kernel_rfl) (by kernel_rfl) (by kernel_rfl) (by kernel_rfl)) ?_
  intro W base args ds gs before hval0 hW hcnd _
  have hval : ∀ (j : Nat) t v, Try.f10.params[j]? = some t → args[j]? = some v → Value.okWide Try.prog W .any base t v := hval0
  have hW' := hW
  obtain ⟨p, q, hA0, hV, rfl, hfz, hnd⟩ := hW
  have hA : DataW.TrodAll enc Try.prog W 0 (fun _ => true) true Try.f10.params.toList args.toList ds p := hA0
  rw [Try.params10] at hA hval
  obtain ⟨v0, vs0, d0, ds0, p0, q0, hargs, rfl, rfl, h0, r0⟩ := trodAll_cons hA
  obtain ⟨v1, vs1, d1, ds1, p1, q1, rfl, rfl, rfl, h1, r1⟩ := trodAll_cons r0
  obtain ⟨rfl, rfl, rfl⟩ := trodAll_nil r1
  obtain rfl : args = #[v0, v1] := by cases args; simp_all
  obtain ⟨rfl, rfl⟩ := trodVars_none hV
  obtain ⟨a0_0, a0_1, rfl, rfl, rfl, w0_0, w0_1⟩ := open_pt (hval 0 36 v0 rfl rfl) h0
  obtain ⟨x0_0, y0_0⟩ := i64_of_wf w0_0
  obtain ⟨x0_1, y0_1⟩ := i64_of_wf w0_1
  obtain ⟨a1_0, a1_1, rfl, rfl, rfl, w1_0, w1_1⟩ := open_pt (hval 1 36 v1 rfl rfl) h1
  obtain ⟨x1_0, y1_0⟩ := i64_of_wf w1_0
  obtain ⟨x1_1, y1_1⟩ := i64_of_wf w1_1
  clear hA0 hval0
  simp only [List.append_nil] at hW'
  refine (walk_vecLagrange a0_0 x0_0 y0_0 a0_1 x0_1 y0_1 a1_0 x1_0 y1_0 a1_1 x1_1 y1_1 W).mono fun e W' ⟨he, bel⟩ => ?_
  subst he
  exact ⟨_, rfl, _, _, _, [], _, [], hW', trodAll_mk1 (shut_bool Try.underlying4 _), (trodAll_cons_mk (shut_pt w0_0 w0_1) (trodAll_cons_mk (shut_pt w1_0 w1_1) trodAll_mk0)), rfl, Below.frame bel _, fun h => by cases h⟩

/-- The statement. -/
theorem vecLagrange_holds : Rows.VecLagrangeSaid :=
  OpenClaim.holds_of_wide 10 Try.f10 rfl rfl rfl rfl rfl rfl rfl ⟨rfl, rfl, rfl, rfl, rfl⟩ rfl rfl rfl rfl rfl (by kernel_rfl) Try.func10 (by kernel_rfl)
    (of_decide_eq_true (by kernel_rfl)) (by unfold Func.isWrapper; first | (rw [if_pos (by decide +kernel)]; kernel_rfl) | (rw [if_neg (by decide +kernel)]; exact ⟨rfl, rfl⟩))
    (fun os started H enc _ => lifted_vecLagrange os started H enc)

end Go.Proofs.Ytlfkgnpbpmejkaa
