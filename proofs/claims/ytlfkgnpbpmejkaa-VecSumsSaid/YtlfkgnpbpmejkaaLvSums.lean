
/- VecSums: Add, Sub and Dot return the sum, the difference and the scalar product.
   Conditions: none; every input. -/
import Derived.Test.YtlfkgnpbpmejkaaFrameV
import Derived.Test.YtlfkgnpbpmejkaaVmB
import Derived.Test.YtlfkgnpbpmejkaaVrB
set_option linter.unusedVariables false
set_option linter.unusedSimpArgs false
namespace Go.Proofs.Ytlfkgnpbpmejkaa
open Go.ChangeShapes Go.WideShapes Go.ChangeAt Go.RowKit

set_option maxRecDepth 100000 in
set_option maxHeartbeats 1000000 in
theorem walk_vecSums (x : Int) (x1 : -9223372036854775808 ≤ x) (x2 : x ≤ 9223372036854775807) (y : Int) (y1 : -9223372036854775808 ≤ y) (y2 : y ≤ 9223372036854775807) (z : Int) (z1 : -9223372036854775808 ≤ z) (z2 : z ≤ 9223372036854775807) (a : Int) (a1 : -9223372036854775808 ≤ a) (a2 : a ≤ 9223372036854775807) (b : Int) (b1 : -9223372036854775808 ≤ b) (b2 : b ≤ 9223372036854775807) (c : Int) (c1 : -9223372036854775808 ≤ c) (c2 : c ≤ 9223372036854775807) (w : World) : Calls Try.prog 4 #[.agg #[.int .i64 x, .int .i64 y, .int .i64 z], .agg #[.int .i64 a, .int .i64 b, .int .i64 c]] w fun e w' => e = .returned (.bool true) ∧ Below w.heap.size w w' := by
  have k0 := fun w => vectorW x y z x1 x2 y1 y2 z1 z2 w
  have k1 := fun w => vectorW a b c a1 a2 b1 b2 c1 c2 w
  obtain ⟨m01, m02⟩ := sm_bd x
  generalize sm x = m0 at *
  obtain ⟨m11, m12⟩ := sm_bd y
  generalize sm y = m1 at *
  obtain ⟨m21, m22⟩ := sm_bd z
  generalize sm z = m2 at *
  obtain ⟨m31, m32⟩ := sm_bd a
  generalize sm a = m3 at *
  obtain ⟨m41, m42⟩ := sm_bd b
  generalize sm b = m4 at *
  obtain ⟨m51, m52⟩ := sm_bd c
  generalize sm c = m5 at *
  have c0 := fun w => vc_add m0 m1 m2 m3 m4 m5 m01 m02 m11 m12 m21 m22 m31 m32 m41 m42 m51 m52 w
  have d0 := fun w => vr_add m0 m1 m2 m3 m4 m5 m01 m02 m11 m12 m21 m22 m31 m32 m41 m42 m51 m52 w
  have c1 := fun w => vc_sub m0 m1 m2 m3 m4 m5 m01 m02 m11 m12 m21 m22 m31 m32 m41 m42 m51 m52 w
  have d1 := fun w => vr_sub m0 m1 m2 m3 m4 m5 m01 m02 m11 m12 m21 m22 m31 m32 m41 m42 m51 m52 w
  have c2 := fun w => vc_dot m0 m1 m2 m3 m4 m5 m01 m02 m11 m12 m21 m22 m31 m32 m41 m42 m51 m52 w
  have d2 := fun w => vr_dot m0 m1 m2 m3 m4 m5 m01 m02 m11 m12 m21 m22 m31 m32 m41 m42 m51 m52 w
  have K0 := Lib.hid k0
  have K1 := Lib.hid k1
  have C0 := Lib.hid c0
  have D0 := Lib.hid d0
  have C1 := Lib.hid c1
  have D1 := Lib.hid d1
  have C2 := Lib.hid c2
  have D2 := Lib.hid d2
  clear k0 k1 c0 d0 c1 d1 c2 d2
  go_enter Try.func4, Try.ntmps4
  go_upto_region 1 with fail
  refine code_of (fun w' => Bx w' w.heap.size #[.int .i64 x, .int .i64 y, .int .i64 z] 23 ∧ Bx w' (w.heap.size + 1) #[.int .i64 a, .int .i64 b, .int .i64 c] 23 ∧ Qw w w') ⟨((Bx.new _ _ _).alloc _), (by have := (Bx.new (World.alloc w (.cells #[.int .i64 x, .int .i64 y, .int .i64 z] 23)) #[.int .i64 a, .int .i64 b, .int .i64 c] 23); simpa using this), (((Below.refl _ _).alloc (by simp) _).alloc (by simp) _)⟩ ?_
  rintro w1 ⟨X, Y, p⟩
  have x_0 := X.kcell 0 (.int .i64 x) rfl
  have x_1 := X.kcell 1 (.int .i64 y) rfl
  have x_2 := X.kcell 2 (.int .i64 z) rfl
  have y_0 := Y.kcell 0 (.int .i64 a) rfl
  have y_1 := Y.kcell 1 (.int .i64 b) rfl
  have y_2 := Y.kcell 2 (.int .i64 c) rfl
  refine region_kept_tail 4 (by kernel_rfl) (by kernel_rfl) ?_
  simp only [List.take_succ_cons, List.take_zero, List.drop_succ_cons, List.drop_zero]
  repeat (go_big_quiet_step (first | (go_at_call 19; with_reducible exact Kept.call (K0.out _)) | (go_at_call 19; with_reducible exact Kept.call (K1.out _))))
  refine wpQuiet_nil ?_
  intro w2 q
  clear x_0 x_1 x_2 y_0 y_1 y_2
  replace X := X.kept q
  replace Y := Y.kept q
  replace p := p.trans q
  clear q
  have x_0 := X.cell' 0 (.int .i64 x) rfl
  have x_f0 := X.free 0
  have x_1 := X.cell' 1 (.int .i64 y) rfl
  have x_f1 := X.free 1
  have x_2 := X.cell' 2 (.int .i64 z) rfl
  have x_f2 := X.free 2
  have y_0 := Y.cell' 0 (.int .i64 a) rfl
  have y_f0 := Y.free 0
  have y_1 := Y.cell' 1 (.int .i64 b) rfl
  have y_f1 := Y.free 1
  have y_2 := Y.cell' 2 (.int .i64 c) rfl
  have y_f2 := Y.free 2
  go_upto_region 2 with fail
  clear x_0 x_f0 x_1 x_f1 x_2 x_f2 y_0 y_f0 y_1 y_f1 y_2 y_f2
  refine code_of (fun w' => Bx w' w.heap.size #[.int .i64 m0, .int .i64 m1, .int .i64 m2] 23 ∧ Bx w' (w.heap.size + 1) #[.int .i64 m3, .int .i64 m4, .int .i64 m5] 23 ∧ Qw w w') ⟨((((((X.set 0 _).set 1 _).set 2 _).other (by first | (simp; done) | (simp; omega)) _).other (by first | (simp; done) | (simp; omega)) _).other (by first | (simp; done) | (simp; omega)) _), ((((((Y.other (by first | (simp; done) | (simp; omega)) _).other (by first | (simp; done) | (simp; omega)) _).other (by first | (simp; done) | (simp; omega)) _).set 0 _).set 1 _).set 2 _), ((((((p.setCell (by first | (simp; done) | (simp; omega)) _).setCell (by first | (simp; done) | (simp; omega)) _).setCell (by first | (simp; done) | (simp; omega)) _).setCell (by first | (simp; done) | (simp; omega)) _).setCell (by first | (simp; done) | (simp; omega)) _).setCell (by first | (simp; done) | (simp; omega)) _)⟩ ?_
  clear X Y p
  rintro w3 ⟨X, Y, p⟩
  have x_0 := X.kcell 0 (.int .i64 m0) rfl
  have x_1 := X.kcell 1 (.int .i64 m1) rfl
  have x_2 := X.kcell 2 (.int .i64 m2) rfl
  have y_0 := Y.kcell 0 (.int .i64 m3) rfl
  have y_1 := Y.kcell 1 (.int .i64 m4) rfl
  have y_2 := Y.kcell 2 (.int .i64 m5) rfl
  refine region_kept (by kernel_rfl) (by kernel_rfl) ?_
  repeat (go_big_quiet_step (first | (go_at_call 16; exact Kept.call (awakeV _)) | (go_at_call 20; with_reducible exact Kept.call (C0.out _)) | (go_at_call 21; with_reducible exact Kept.call (D0.out _)) | (go_at_call 22; with_reducible exact Kept.call (C1.out _)) | (go_at_call 23; with_reducible exact Kept.call (D1.out _)) | (go_at_call 24; with_reducible exact Kept.call (C2.out _)) | (go_at_call 25; with_reducible exact Kept.call (D2.out _))))
  refine wpQuiet_nil ?_
  intro w4 q
  clear x_0 x_1 x_2 y_0 y_1 y_2
  replace X := X.kept q
  replace Y := Y.kept q
  replace p := p.trans q
  clear q
  go_wp2
  go_ret
  exact ⟨rfl, p⟩

/-! ### the row -/
theorem own_vecSums : ownKnob Try.prog.godebug = none := by kernel_rfl
set_option maxRecDepth 100000 in
theorem lifted_vecSums (os : Os) (started : os.Started) (H : Type) (enc : TypeId × Value → H) :
    ReturnsInHanded {} Try.checked os 4 .any (Rows.vecSumsSpec.pre6 enc Try.prog Try.f4 Rows.vecSumsRow.domain false) (Rows.vecSumsSpec.post enc Try.prog Try.f4 false true false false) := by
  refine returnsInHanded_of_change (C := Try.checked) own_vecSums started (by kernel_rfl) Try.func4
    (ChangeSpec.witness6 (enc := enc) (C := Try.checked) false ⟨#[], #[.agg #[.int .i64 0, .int .i64 0, .int .i64 0], .agg #[.int .i64 0, .int .i64 0, .int .i64 0]], []⟩ 8 (by kernel_rfl) (by kernel_rfl) (by kernel_rfl) (by kernel_rfl)) ?_
  intro W base args ds gs before hval0 hW hcnd _
  have hval : ∀ (j : Nat) t v, Try.f4.params[j]? = some t → args[j]? = some v → Value.okWide Try.prog W .any base t v := hval0
  have hW' := hW
  obtain ⟨p, q, hA0, hV, rfl, hfz, hnd⟩ := hW
  have hA : DataW.TrodAll enc Try.prog W 0 (fun _ => true) true Try.f4.params.toList args.toList ds p := hA0
  rw [Try.params4] at hA hval
  obtain ⟨v0, vs0, d0, ds0, p0, q0, hargs, rfl, rfl, h0, r0⟩ := trodAll_cons hA
  obtain ⟨v1, vs1, d1, ds1, p1, q1, rfl, rfl, rfl, h1, r1⟩ := trodAll_cons r0
  obtain ⟨rfl, rfl, rfl⟩ := trodAll_nil r1
  obtain rfl : args = #[v0, v1] := by cases args; simp_all
  obtain ⟨rfl, rfl⟩ := trodVars_none hV
  obtain ⟨a0_0, a0_1, a0_2, rfl, rfl, rfl, w0_0, w0_1, w0_2⟩ := open_vec (hval 0 23 v0 rfl rfl) h0
  obtain ⟨x0_0, y0_0⟩ := i64_of_wf w0_0
  obtain ⟨x0_1, y0_1⟩ := i64_of_wf w0_1
  obtain ⟨x0_2, y0_2⟩ := i64_of_wf w0_2
  obtain ⟨a1_0, a1_1, a1_2, rfl, rfl, rfl, w1_0, w1_1, w1_2⟩ := open_vec (hval 1 23 v1 rfl rfl) h1
  obtain ⟨x1_0, y1_0⟩ := i64_of_wf w1_0
  obtain ⟨x1_1, y1_1⟩ := i64_of_wf w1_1
  obtain ⟨x1_2, y1_2⟩ := i64_of_wf w1_2
  clear hA0 hval0
  simp only [List.append_nil] at hW'
  refine (walk_vecSums a0_0 x0_0 y0_0 a0_1 x0_1 y0_1 a0_2 x0_2 y0_2 a1_0 x1_0 y1_0 a1_1 x1_1 y1_1 a1_2 x1_2 y1_2 W).mono fun e W' ⟨he, bel⟩ => ?_
  subst he
  exact ⟨_, rfl, _, _, _, [], _, [], hW', trodAll_mk1 (shut_bool Try.underlying4 _), (trodAll_cons_mk (shut_vec w0_0 w0_1 w0_2) (trodAll_cons_mk (shut_vec w1_0 w1_1 w1_2) trodAll_mk0)), rfl, Below.frame bel _, fun h => by cases h⟩

/-- The statement. -/
theorem vecSums_holds : Rows.VecSumsSaid :=
  OpenClaim.holds_of_wide 4 Try.f4 rfl rfl rfl rfl rfl rfl rfl ⟨rfl, rfl, rfl, rfl, rfl⟩ rfl rfl rfl rfl rfl (by kernel_rfl) Try.func4 (by kernel_rfl)
    (of_decide_eq_true (by kernel_rfl)) (by unfold Func.isWrapper; first | (rw [if_pos (by decide +kernel)]; kernel_rfl) | (rw [if_neg (by decide +kernel)]; exact ⟨rfl, rfl⟩))
    (fun os started H enc _ => lifted_vecSums os started H enc)

end Go.Proofs.Ytlfkgnpbpmejkaa
