
/- VecSquares: the square of the length lies between the squares of the rounded lengths.
   Conditions: none; every input. -/
import Derived.Test.YtlfkgnpbpmejkaaFrameV
import Derived.Test.YtlfkgnpbpmejkaaVmB
import Derived.Test.YtlfkgnpbpmejkaaVrB
import Derived.Test.YtlfkgnpbpmejkaaVmC
set_option linter.unusedVariables false
set_option linter.unusedSimpArgs false
namespace Go.Proofs.Ytlfkgnpbpmejkaa
open Go.ChangeShapes Go.WideShapes Go.ChangeAt Go.RowKit

set_option maxRecDepth 100000 in
set_option maxHeartbeats 1000000 in
theorem walk_vecSquares (x : Int) (x1 : -9223372036854775808 ≤ x) (x2 : x ≤ 9223372036854775807) (y : Int) (y1 : -9223372036854775808 ≤ y) (y2 : y ≤ 9223372036854775807) (z : Int) (z1 : -9223372036854775808 ≤ z) (z2 : z ≤ 9223372036854775807) (w : World) : Calls Try.prog 12 #[.agg #[.int .i64 x, .int .i64 y, .int .i64 z]] w fun e w' => e = .returned (.bool true) ∧ Below w.heap.size w w' := by
  have k0 := fun w => vectorW x y z x1 x2 y1 y2 z1 z2 w
  obtain ⟨m01, m02⟩ := sm_bd x
  generalize sm x = m0 at *
  obtain ⟨m11, m12⟩ := sm_bd y
  generalize sm y = m1 at *
  obtain ⟨m21, m22⟩ := sm_bd z
  generalize sm z = m2 at *
  have s0 := sq_nonneg m0
  have s1 := sq_nonneg m1
  have s2 := sq_nonneg m2
  obtain ⟨_, t0⟩ := sq_bd m01 m02 m01 m02
  obtain ⟨_, t1⟩ := sq_bd m11 m12 m11 m12
  obtain ⟨_, t2⟩ := sq_bd m21 m22 m21 m22
  have c0 := fun w => vc_length m0 m1 m2 0 m01 m02 m11 m12 m21 m22 (by decide) (by decide) w
  have c1 := fun w => vc_length m0 m1 m2 1 m01 m02 m11 m12 m21 m22 (by decide) (by decide) w
  have c2 := fun w => vc_dot m0 m1 m2 m0 m1 m2 m01 m02 m11 m12 m21 m22 m01 m02 m11 m12 m21 m22 w
  have D1 : 0 ≤ m0 * m0 + m1 * m1 + m2 * m2 := by omega
  have D2 : m0 * m0 + m1 * m1 + m2 * m2 ≤ 52776558133248 := by omega
  clear s0 s1 s2 t0 t1 t2
  generalize m0 * m0 + m1 * m1 + m2 * m2 = D at *
  obtain ⟨f, ef, of, f0, f1, f2, f3⟩ := down_spec D D1 (by omega)
  obtain ⟨c, ec, oc, c0', c1', c2', c3⟩ := up_spec D D1 (by omega)
  have hl : f ≤ 7999999 := by
    rcases Int.lt_or_le 7999999 f with h | h
    · have := Int.mul_le_mul h h (by decide) f0
      omega
    · exact h
  have hc : c ≤ f + 1 := c3 (f + 1) (by omega) (by omega)
  have hf : f ≤ c := le_of_sq c0' (by omega)
  have hd : c - f ≤ 1 := by omega
  rw [ef, of] at c0
  rw [ec, oc] at c1
  have c3' := fun w => cmpW f f D 1 (by omega) (by omega) (by omega) (by omega) (by omega) (by omega) (by omega) (by omega) w
  have c4 := fun w => cmpW c c D 1 (by omega) (by omega) (by omega) (by omega) (by omega) (by omega) (by omega) (by omega) w
  have g0 : cmpI (f * f) (D * 1) ≤ 0 := by unfold cmpI; split; omega; split <;> omega
  have g1 : 0 ≤ cmpI (c * c) (D * 1) := by unfold cmpI; split; omega; split <;> omega
  generalize cmpI (f * f) (D * 1) = p0 at *
  generalize cmpI (c * c) (D * 1) = p1 at *
  clear c3 c2' f2 f3 ec ef of oc
  have aw := fun w => awakeV w
  have K0 := Lib.hid k0
  have C0 := Lib.hid c0
  have C1 := Lib.hid c1
  have C2 := Lib.hid c2
  have C3 := Lib.hid c3'
  have C4 := Lib.hid c4
  have AW := Lib.hid aw
  clear k0 c0 c1 c2 c3' c4 aw
  go_enter Try.func12, Try.ntmps12
  go_upto_region 1 with fail
  refine code_of (fun w' => Bx w' w.heap.size #[.int .i64 x, .int .i64 y, .int .i64 z] 23 ∧ Qw w w') ⟨(Bx.new _ _ _), ((Below.refl _ _).alloc (by simp) _)⟩ ?_
  rintro w1 ⟨X, p⟩
  have x_0 := X.cell' 0 (.int .i64 x) rfl
  have x_1 := X.cell' 1 (.int .i64 y) rfl
  have x_2 := X.cell' 2 (.int .i64 z) rfl
  go_wp2_with fail
  refine (K0.out _).mono ?_
  rintro e w2 ⟨rfl, q⟩
  clear x_0 x_1 x_2
  replace X := X.kept q
  replace p := p.trans q
  clear q
  have x_0 := X.cell' 0 (.int .i64 x) rfl
  have x_f0 := X.free 0
  have x_1 := X.cell' 1 (.int .i64 y) rfl
  have x_f1 := X.free 1
  have x_2 := X.cell' 2 (.int .i64 z) rfl
  have x_f2 := X.free 2
  go_upto_region 2 with fail
  clear x_0 x_f0 x_1 x_f1 x_2 x_f2
  refine code_of (fun w' => Bx w' w.heap.size #[.int .i64 m0, .int .i64 m1, .int .i64 m2] 23 ∧ Qw w w') ⟨(((X.set 0 _).set 1 _).set 2 _), (((p.setCell (by first | (simp; done) | (simp; omega)) _).setCell (by first | (simp; done) | (simp; omega)) _).setCell (by first | (simp; done) | (simp; omega)) _)⟩ ?_
  clear X p
  rintro w3 ⟨X, p⟩
  have x_0 := X.cell' 0 (.int .i64 m0) rfl
  have x_1 := X.cell' 1 (.int .i64 m1) rfl
  have x_2 := X.cell' 2 (.int .i64 m2) rfl
  go_wp2_with fail
  refine (C0.out _).mono ?_
  rintro e w4 ⟨rfl, q⟩
  clear x_0 x_1 x_2
  replace X := X.kept q
  replace p := p.trans q
  clear q
  have x_0 := X.cell' 0 (.int .i64 m0) rfl
  have x_1 := X.cell' 1 (.int .i64 m1) rfl
  have x_2 := X.cell' 2 (.int .i64 m2) rfl
  go_wp2_with fail
  refine (C1.out _).mono ?_
  rintro e w5 ⟨rfl, q⟩
  clear x_0 x_1 x_2
  replace X := X.kept q
  replace p := p.trans q
  clear q
  have x_0 := X.cell' 0 (.int .i64 m0) rfl
  have x_1 := X.cell' 1 (.int .i64 m1) rfl
  have x_2 := X.cell' 2 (.int .i64 m2) rfl
  go_wp2_with fail
  refine (C2.out _).mono ?_
  rintro e w6 ⟨rfl, q⟩
  clear x_0 x_1 x_2
  replace X := X.kept q
  replace p := p.trans q
  clear q
  have x_0 := X.cell' 0 (.int .i64 m0) rfl
  have x_1 := X.cell' 1 (.int .i64 m1) rfl
  have x_2 := X.cell' 2 (.int .i64 m2) rfl
  go_wp2_with fail
  refine (AW.out _).mono ?_
  rintro e w7 ⟨rfl, q⟩
  clear x_0 x_1 x_2
  replace X := X.kept q
  replace p := p.trans q
  clear q
  go_wp2_with fail
  refine (C3.out _).mono ?_
  rintro e w8 ⟨rfl, q⟩
  replace X := X.kept q
  replace p := p.trans q
  clear q
  go_wp2_with fail
  refine (C4.out _).mono ?_
  rintro e w9 ⟨rfl, q⟩
  replace X := X.kept q
  replace p := p.trans q
  clear q
  go_wp2
  go_ret
  exact ⟨rfl, p⟩

/-! ### the row -/
theorem own_vecSquares : ownKnob Try.prog.godebug = none := by kernel_rfl
set_option maxRecDepth 100000 in
theorem lifted_vecSquares (os : Os) (started : os.Started) (H : Type) (enc : TypeId × Value → H) :
    ReturnsInHanded {} Try.checked os 12 .any (Rows.vecSquaresSpec.pre6 enc Try.prog Try.f12 Rows.vecSquaresRow.domain false) (Rows.vecSquaresSpec.post enc Try.prog Try.f12 false true false false) := by
  refine returnsInHanded_of_change (C := Try.checked) own_vecSquares started (by kernel_rfl) Try.func12
    (ChangeSpec.witness6 (enc := enc) (C := Try.checked) false ⟨#[], #[.agg #[.int .i64 0, .int .i64 0, .int .i64 0]], []⟩ 8 (by kernel_rfl) (by kernel_rfl) (by kernel_rfl) (by kernel_rfl)) ?_
  intro W base args ds gs before hval0 hW hcnd _
  have hval : ∀ (j : Nat) t v, Try.f12.params[j]? = some t → args[j]? = some v → Value.okWide Try.prog W .any base t v := hval0
  have hW' := hW
  obtain ⟨p, q, hA0, hV, rfl, hfz, hnd⟩ := hW
  have hA : DataW.TrodAll enc Try.prog W 0 (fun _ => true) true Try.f12.params.toList args.toList ds p := hA0
  rw [Try.params12] at hA hval
  obtain ⟨v0, vs0, d0, ds0, p0, q0, hargs, rfl, rfl, h0, r0⟩ := trodAll_cons hA
  obtain ⟨rfl, rfl, rfl⟩ := trodAll_nil r0
  obtain rfl : args = #[v0] := by cases args; simp_all
  obtain ⟨rfl, rfl⟩ := trodVars_none hV
  obtain ⟨a0_0, a0_1, a0_2, rfl, rfl, rfl, w0_0, w0_1, w0_2⟩ := open_vec (hval 0 23 v0 rfl rfl) h0
  obtain ⟨x0_0, y0_0⟩ := i64_of_wf w0_0
  obtain ⟨x0_1, y0_1⟩ := i64_of_wf w0_1
  obtain ⟨x0_2, y0_2⟩ := i64_of_wf w0_2
  clear hA0 hval0
  simp only [List.append_nil] at hW'
  refine (walk_vecSquares a0_0 x0_0 y0_0 a0_1 x0_1 y0_1 a0_2 x0_2 y0_2 W).mono fun e W' ⟨he, bel⟩ => ?_
  subst he
  exact ⟨_, rfl, _, _, _, [], _, [], hW', trodAll_mk1 (shut_bool Try.underlying4 _), (trodAll_cons_mk (shut_vec w0_0 w0_1 w0_2) trodAll_mk0), rfl, Below.frame bel _, fun h => by cases h⟩

/-- The statement. -/
theorem vecSquares_holds : Rows.VecSquaresSaid :=
  OpenClaim.holds_of_wide 12 Try.f12 rfl rfl rfl rfl rfl rfl rfl ⟨rfl, rfl, rfl, rfl, rfl⟩ rfl rfl rfl rfl rfl (by kernel_rfl) Try.func12 (by kernel_rfl)
    (of_decide_eq_true (by kernel_rfl)) (by unfold Func.isWrapper; first | (rw [if_pos (by decide +kernel)]; kernel_rfl) | (rw [if_neg (by decide +kernel)]; exact ⟨rfl, rfl⟩))
    (fun os started H enc _ => lifted_vecSquares os started H enc)

end Go.Proofs.Ytlfkgnpbpmejkaa
