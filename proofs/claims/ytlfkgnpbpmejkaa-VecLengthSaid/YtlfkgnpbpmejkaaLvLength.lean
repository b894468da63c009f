
/- VecLength: Length returns the rounded Euclidean length, or false.
   Conditions: none; every input. -/
import Derived.Test.YtlfkgnpbpmejkaaFrameV
import Derived.Test.YtlfkgnpbpmejkaaVmB
import Derived.Test.YtlfkgnpbpmejkaaVrB
import Derived.Test.YtlfkgnpbpmejkaaVmC
set_option linter.unusedVariables false
set_option linter.unusedSimpArgs false
namespace Go.Proofs.Ytlfkgnpbpmejkaa
open Go.ChangeShapes Go.WideShapes Go.ChangeAt Go.RowKit

set_option maxRecDepth 100000 in
set_option maxHeartbeats 1000000 in
theorem walk_vecLength (x : Int) (x1 : -9223372036854775808 ≤ x) (x2 : x ≤ 9223372036854775807) (y : Int) (y1 : -9223372036854775808 ≤ y) (y2 : y ≤ 9223372036854775807) (z : Int) (z1 : -9223372036854775808 ≤ z) (z2 : z ≤ 9223372036854775807) (d : Int) (d1 : -9223372036854775808 ≤ d) (d2 : d ≤ 9223372036854775807) (w : World) : Calls Try.prog 5 #[.agg #[.int .i64 x, .int .i64 y, .int .i64 z], .int .i64 d] w fun e w' => e = .returned (.bool true) ∧ Below w.heap.size w w' := by
  have k0 := fun w => vectorW x y z x1 x2 y1 y2 z1 z2 w
  obtain ⟨m01, m02⟩ := sm_bd x
  generalize sm x = m0 at *
  obtain ⟨m11, m12⟩ := sm_bd y
  generalize sm y = m1 at *
  obtain ⟨m21, m22⟩ := sm_bd z
  generalize sm z = m2 at *
  have k1 := fun w => modW d 3 d1 d2 (by decide) (by decide) w
  obtain ⟨r1, r2⟩ : 0 ≤ d % 3 ∧ d % 3 < 3 := by omega
  generalize d % 3 = r at *
  have c0 := fun w => vc_length m0 m1 m2 d m01 m02 m11 m12 m21 m22 d1 d2 w
  have e0 := fun w => vr_length m0 m1 m2 d m01 m02 m11 m12 m21 m22 d1 d2 w
  have c1 := fun w => vc_length m0 m1 m2 r m01 m02 m11 m12 m21 m22 (by omega) (by omega) w
  have e1 := fun w => vr_length m0 m1 m2 r m01 m02 m11 m12 m21 m22 (by omega) (by omega) w
  generalize rtv (m0 * m0 + m1 * m1 + m2 * m2) 1 d = R0 at *
  generalize rtok (m0 * m0 + m1 * m1 + m2 * m2) 1 d = K0' at *
  generalize rtv (m0 * m0 + m1 * m1 + m2 * m2) 1 r = R1 at *
  generalize rtok (m0 * m0 + m1 * m1 + m2 * m2) 1 r = K1' at *
  have aw := fun w => awakeV w
  have K0 := Lib.hid k0
  have K1 := Lib.hid k1
  have C0 := Lib.hid c0
  have E0 := Lib.hid e0
  have C1 := Lib.hid c1
  have E1 := Lib.hid e1
  have AW := Lib.hid aw
  clear k0 k1 c0 e0 c1 e1 aw
  go_enter Try.func5, Try.ntmps5
  go_upto_region 1 with fail
  refine code_of (fun w' => Bx w' w.heap.size #[.int .i64 x, .int .i64 y, .int .i64 z] 23 ∧ Qw w w') ⟨(Bx.new _ _ _), ((Below.refl _ _).alloc (by simp) _)⟩ ?_
  rintro w1 ⟨X, p⟩
  have x_0 := X.cell' 0 (.int .i64 x) rfl
  have x_1 := X.cell' 1 (.int .i64 y) rfl
  have x_2 := X.cell' 2 (.int .i64 z) rfl
  go_wp2_with fail
  refine (K0.out _).mono ?_
  rintro e w2 ⟨rfl, q⟩
  clear x_0 x_1 x_2
  replace X := X.kept q
  replace p := p.trans q
  clear q
  have x_0 := X.cell' 0 (.int .i64 x) rfl
  have x_f0 := X.free 0
  have x_1 := X.cell' 1 (.int .i64 y) rfl
  have x_f1 := X.free 1
  have x_2 := X.cell' 2 (.int .i64 z) rfl
  have x_f2 := X.free 2
  go_upto_region 2 with fail
  clear x_0 x_f0 x_1 x_f1 x_2 x_f2
  refine code_of (fun w' => Bx w' w.heap.size #[.int .i64 m0, .int .i64 m1, .int .i64 m2] 23 ∧ Qw w w') ⟨(((X.set 0 _).set 1 _).set 2 _), (((p.setCell (by first | (simp; done) | (simp; omega)) _).setCell (by first | (simp; done) | (simp; omega)) _).setCell (by first | (simp; done) | (simp; omega)) _)⟩ ?_
  clear X p
  rintro w3 ⟨X, p⟩
  have x_0 := X.cell' 0 (.int .i64 m0) rfl
  have x_1 := X.cell' 1 (.int .i64 m1) rfl
  have x_2 := X.cell' 2 (.int .i64 m2) rfl
  go_wp2_with fail
  refine (C0.out _).mono ?_
  rintro e w4 ⟨rfl, q⟩
  clear x_0 x_1 x_2
  replace X := X.kept q
  replace p := p.trans q
  clear q
  have x_0 := X.cell' 0 (.int .i64 m0) rfl
  have x_1 := X.cell' 1 (.int .i64 m1) rfl
  have x_2 := X.cell' 2 (.int .i64 m2) rfl
  go_wp2_with fail
  refine (E0.out _).mono ?_
  rintro e w5 ⟨rfl, q⟩
  clear x_0 x_1 x_2
  replace X := X.kept q
  replace p := p.trans q
  clear q
  go_upto_region 4 with fail
  have x_0 := X.kcell 0 (.int .i64 m0) rfl
  have x_1 := X.kcell 1 (.int .i64 m1) rfl
  have x_2 := X.kcell 2 (.int .i64 m2) rfl
  refine region_kept (by kernel_rfl) (by kernel_rfl) ?_
  repeat (go_big_quiet_step (first | (go_at_call 15; with_reducible exact Kept.same (K1.out _)) | (go_at_call 26; with_reducible exact Kept.call (C1.out _))))
  refine wpQuiet_nil ?_
  intro w6 q
  clear x_0 x_1 x_2
  replace X := X.kept q
  replace p := p.trans q
  clear q
  go_upto_region 5 with fail
  have x_0 := X.kcell 0 (.int .i64 m0) rfl
  have x_1 := X.kcell 1 (.int .i64 m1) rfl
  have x_2 := X.kcell 2 (.int .i64 m2) rfl
  refine region_kept (by kernel_rfl) (by kernel_rfl) ?_
  repeat (go_big_quiet_step (first | (go_at_call 15; with_reducible exact Kept.same (K1.out _)) | (go_at_call 27; with_reducible exact Kept.call (E1.out _))))
  refine wpQuiet_nil ?_
  intro w7 q
  clear x_0 x_1 x_2
  replace X := X.kept q
  replace p := p.trans q
  clear q
  go_wp2_with fail
  refine (AW.out _).mono ?_
  rintro e w8 ⟨rfl, q⟩
  replace X := X.kept q
  replace p := p.trans q
  clear q
  go_wp2
  go_ret
  exact ⟨rfl, p⟩

/-! ### the row -/
theorem own_vecLength : ownKnob Try.prog.godebug = none := by kernel_rfl
set_option maxRecDepth 100000 in
theorem lifted_vecLength (os : Os) (started : os.Started) (H : Type) (enc : TypeId × Value → H) :
    ReturnsInHanded {} Try.checked os 5 .any (Rows.vecLengthSpec.pre6 enc Try.prog Try.f5 Rows.vecLengthRow.domain false) (Rows.vecLengthSpec.post enc Try.prog Try.f5 false true false false) := by
  refine returnsInHanded_of_change (C := Try.checked) own_vecLength started (by kernel_rfl) Try.func5
    (ChangeSpec.witness6 (enc := enc) (C := Try.checked) false ⟨#[], #[.agg #[.int .i64 0, .int .i64 0, .int .i64 0], .int .i64 0], []⟩ 8 (by kernel_rfl) (by kernel_rfl) (by kernel_rfl) (by kernel_rfl)) ?_
  intro W base args ds gs before hval0 hW hcnd _
  have hval : ∀ (j : Nat) t v, Try.f5.params[j]? = some t → args[j]? = some v → Value.okWide Try.prog W .any base t v := hval0
  have hW' := hW
  obtain ⟨p, q, hA0, hV, rfl, hfz, hnd⟩ := hW
  have hA : DataW.TrodAll enc Try.prog W 0 (fun _ => true) true Try.f5.params.toList args.toList ds p := hA0
  rw [Try.params5] at hA hval
  obtain ⟨v0, vs0, d0, ds0, p0, q0, hargs, rfl, rfl, h0, r0⟩ := trodAll_cons hA
  obtain ⟨v1, vs1, d1, ds1, p1, q1, rfl, rfl, rfl, h1, r1⟩ := trodAll_cons r0
  obtain ⟨rfl, rfl, rfl⟩ := trodAll_nil r1
  obtain rfl : args = #[v0, v1] := by cases args; simp_all
  obtain ⟨rfl, rfl⟩ := trodVars_none hV
  obtain ⟨a0_0, a0_1, a0_2, rfl, rfl, rfl, w0_0, w0_1, w0_2⟩ := open_vec (hval 0 23 v0 rfl rfl) h0
  obtain ⟨x0_0, y0_0⟩ := i64_of_wf w0_0
  obtain ⟨x0_1, y0_1⟩ := i64_of_wf w0_1
  obtain ⟨x0_2, y0_2⟩ := i64_of_wf w0_2
  obtain ⟨a1_0, rfl, rfl, rfl, w1_0⟩ := open_int Try.underlying3 (hval 1 3 v1 rfl rfl) h1
  obtain ⟨x1_0, y1_0⟩ := i64_of_wf w1_0
  clear hA0 hval0
  simp only [List.append_nil] at hW'
  refine (walk_vecLength a0_0 x0_0 y0_0 a0_1 x0_1 y0_1 a0_2 x0_2 y0_2 a1_0 x1_0 y1_0 W).mono fun e W' ⟨he, bel⟩ => ?_
  subst he
  exact ⟨_, rfl, _, _, _, [], _, [], hW', trodAll_mk1 (shut_bool Try.underlying4 _), (trodAll_cons_mk (shut_vec w0_0 w0_1 w0_2) (trodAll_cons_mk (shut_int Try.underlying3 w1_0) trodAll_mk0)), rfl, Below.frame bel _, fun h => by cases h⟩

/-- The statement. -/
theorem vecLength_holds : Rows.VecLengthSaid :=
  OpenClaim.holds_of_wide 5 Try.f5 rfl rfl rfl rfl rfl rfl rfl ⟨rfl, rfl, rfl, rfl, rfl⟩ rfl rfl rfl rfl rfl (by kernel_rfl) Try.func5 (by kernel_rfl)
    (of_decide_eq_true (by kernel_rfl)) (by unfold Func.isWrapper; first | (rw [if_pos (by decide +kernel)]; kernel_rfl) | (rw [if_neg (by decide +kernel)]; exact ⟨rfl, rfl⟩))
    (fun os started H enc _ => lifted_vecLength os started H enc)

end Go.Proofs.Ytlfkgnpbpmejkaa
