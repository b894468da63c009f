
/- ModalRate: feed rates are those of the specification, for any numbers and units.
   Conditions: none; every input. -/
import Derived.Test.YtijakijjeoaikaaRows
import Derived.Test.YtijakijjeoaikaaFrameM
import Derived.Test.YtijakijjeoaikaaMaA
import Derived.Test.YtijakijjeoaikaaMrD
set_option linter.unusedVariables false
set_option linter.unusedSimpArgs false
namespace Go.Proofs.Ytijakijjeoaikaa
open Go.ChangeShapes Go.WideShapes Go.ChangeAt Go.RowKit

set_option maxRecDepth 100000 in
set_option maxHeartbeats 4000000 in
theorem walk_modalRate (n : Int) (n1 : -9223372036854775808 ≤ n) (n2 : n ≤ 9223372036854775807) (u : Int) (u1 : -9223372036854775808 ≤ u) (u2 : u ≤ 9223372036854775807) (w : World) : Calls Try.prog 6 #[.int .i64 n, .int .i64 u] w fun e w' => e = .returned (.bool true) ∧ Below w.heap.size w w' := by
  have R1 := Lib.hid (fun w => mdRate n u w)
  have R2 := Lib.hid (fun w => mrRate n u w)
  have BT := Lib.hid (fun w => betweenW n (-1000) 70000000000 n1 n2 (by decide) (by decide) (by decide) (by decide) w)
  have MO := Lib.hid (fun w => modW u 2 u1 u2 (by decide) (by decide) w)
  have bm : 0 ≤ u % 2 ∧ u % 2 < 2 := by omega
  generalize -1000 + n % (70000000000 - -1000 + 1) = m at *
  generalize u % 2 = r at *
  obtain ⟨r0, r1⟩ := bm
  have R3 := Lib.hid (fun w => mdRate m (20 + r) w)
  have R4 := Lib.hid (fun w => mrRate m (20 + r) w)
  have q0 : Hid (Qw w w) := Lib.hid (Qw.refl w)
  generalize Md.rev n u = x1 at *
  generalize Md.ree n u = x2 at *
  generalize Md.rev m (20 + r) = x3 at *
  generalize Md.ree m (20 + r) = x4 at *
  go_enter Try.func6, Try.ntmps6
  go_wp2_with (first | (go_at_call 29; (first | ((with_reducible refine (R1.out _).mono ?_); rintro e w' ⟨rfl, q⟩; replace q0 : Hid (Qw w w') := Lib.hid (Qw.trans q0.out q); clear q) | ((with_reducible refine (R3.out _).mono ?_); rintro e w' ⟨rfl, q⟩; replace q0 : Hid (Qw w w') := Lib.hid (Qw.trans q0.out q); clear q))) | (go_at_call 30; (first | ((with_reducible refine (R2.out _).mono ?_); rintro e w' ⟨rfl, q⟩; replace q0 : Hid (Qw w w') := Lib.hid (Qw.trans q0.out q); clear q) | ((with_reducible refine (R4.out _).mono ?_); rintro e w' ⟨rfl, q⟩; replace q0 : Hid (Qw w w') := Lib.hid (Qw.trans q0.out q); clear q))) | (go_at_call 31; ((with_reducible refine (BT.out _).mono ?_); rintro e w' ⟨rfl, rfl⟩)) | (go_at_call 18; ((with_reducible refine (MO.out _).mono ?_); rintro e w' ⟨rfl, rfl⟩)) | (go_at_call 15; ((with_reducible refine (awakeM _).mono ?_); rintro e w' ⟨rfl, q⟩; replace q0 : Hid (Qw w w') := Lib.hid (Qw.trans q0.out q); clear q)))
  go_ret
  exact ⟨rfl, q0.out⟩

/-! ### the row -/
theorem own_modalRate : ownKnob Try.prog.godebug = none := by kernel_rfl
set_option maxRecDepth 100000 in
theorem lifted_modalRate (os : Os) (started : os.Started) (H : Type) (enc : TypeId × Value → H) :
    ReturnsInHanded {} Try.checked os 6 .any (Rows.modalRateSpec.pre6 enc Try.prog Try.f6 Rows.modalRateRow.domain false) (Rows.modalRateSpec.post enc Try.prog Try.f6 false true false false) := by
  refine returnsInHanded_of_change (C := Try.checked) own_modalRate started (by kernel_rfl) Try.func6
    (ChangeSpec.witness6 (enc := enc) (C := Try.checked) false ⟨#[], #[.int .i64 0, .int .i64 0], []⟩ 8 (by kernel_rfl) (by kernel_rfl) (by kernel_rfl) (by kernel_rfl)) ?_
  intro W base args ds gs before hval0 hW hcnd _
  have hval : ∀ (j : Nat) t v, Try.f6.params[j]? = some t → args[j]? = some v → Value.okWide Try.prog W .any base t v := hval0
  have hW' := hW
  obtain ⟨p, q, hA0, hV, rfl, hfz, hnd⟩ := hW
  have hA : DataW.TrodAll enc Try.prog W 0 (fun _ => true) true Try.f6.params.toList args.toList ds p := hA0
  rw [Try.params6] at hA hval
  obtain ⟨v0, vs0, d0, ds0, p0, q0, hargs, rfl, rfl, h0, r0⟩ := trodAll_cons hA
  obtain ⟨v1, vs1, d1, ds1, p1, q1, rfl, rfl, rfl, h1, r1⟩ := trodAll_cons r0
  obtain ⟨rfl, rfl, rfl⟩ := trodAll_nil r1
  obtain rfl : args = #[v0, v1] := by cases args; simp_all
  obtain ⟨rfl, rfl⟩ := trodVars_none hV
  obtain ⟨a0, rfl, rfl, rfl, w0⟩ := open_int Try.underlying3 (hval 0 3 v0 rfl rfl) h0
  obtain ⟨x0, y0⟩ := wfM w0
  obtain ⟨a1, rfl, rfl, rfl, w1⟩ := open_int Try.underlying3 (hval 1 3 v1 rfl rfl) h1
  obtain ⟨x1, y1⟩ := wfM w1
  clear hA0 hval0
  simp only [List.append_nil] at hW'
  refine (walk_modalRate a0 x0 y0 a1 x1 y1 W).mono fun e W' ⟨he, bel⟩ => ?_
  subst he
  exact ⟨_, rfl, _, _, _, [], _, [], hW', trodAll_mk1 (shut_bool Try.underlying4 _), (trodAll_cons_mk (shut_int Try.underlying3 w0) (trodAll_cons_mk (shut_int Try.underlying3 w1) trodAll_mk0)), rfl, Below.frame bel _, fun h => by cases h⟩

/-- The statement. -/
theorem modalRate_holds : Rows.ModalRateSaid :=
  OpenClaim.holds_of_wide 6 Try.f6 rfl rfl rfl rfl rfl rfl rfl ⟨rfl, rfl, rfl, rfl, rfl⟩ rfl rfl rfl rfl rfl (by kernel_rfl) Try.func6 (by kernel_rfl)
    (of_decide_eq_true (by kernel_rfl)) (by unfold Func.isWrapper; first | (rw [if_pos (by decide +kernel)]; kernel_rfl) | (rw [if_neg (by decide +kernel)]; exact ⟨rfl, rfl⟩))
    (fun os started H enc _ => lifted_modalRate os started H enc)

end Go.Proofs.Ytijakijjeoaikaa
