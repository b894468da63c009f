
/- ModalRates: a rate in inches is 25.4 times the one in millimeters, within rounding.
   Conditions: none; every input. -/
import Derived.Test.YtijakijjeoaikaaRows
import Derived.Test.YtijakijjeoaikaaFrameM
import Derived.Test.YtijakijjeoaikaaMaA
set_option linter.unusedVariables false
set_option linter.unusedSimpArgs false
namespace Go.Proofs.Ytijakijjeoaikaa
open Go.ChangeShapes Go.WideShapes Go.ChangeAt Go.RowKit

set_option maxRecDepth 100000 in
set_option maxHeartbeats 4000000 in
theorem walk_modalRates (n : Int) (n1 : -9223372036854775808 ≤ n) (n2 : n ≤ 9223372036854775807) (w : World) : Calls Try.prog 12 #[.int .i64 n] w fun e w' => e = .returned (.bool true) ∧ Below w.heap.size w w' := by
  have BT := Lib.hid (fun w => betweenW n 1000000 2000000000 n1 n2 (by decide) (by decide) (by decide) (by decide) w)
  have bm : 1000000 ≤ 1000000 + n % (2000000000 - 1000000 + 1) ∧ 1000000 + n % (2000000000 - 1000000 + 1) ≤ 2000000000 := by omega
  generalize 1000000 + n % (2000000000 - 1000000 + 1) = m at *
  obtain ⟨m0, m1⟩ := bm
  have R1 := fun w => mdRate m 21 w
  have R2 := fun w => mdRate m 20 w
  have vm : vld m = true := vld_t (by omega) (by omega)
  have a1 : Md.ree m 21 = 0 := by
    have e : Md.ree m 21 = if 1 ≤ ln m 21 ∧ ln m 21 ≤ 60000000 then 0 else 3 := if_pos ⟨vm, .inr rfl⟩
    rw [e, if_pos]
    unfold ln
    rw [if_neg (by decide)]
    omega
  have a2 : Md.ree m 20 = 0 := by
    have e : Md.ree m 20 = if 1 ≤ ln m 20 ∧ ln m 20 ≤ 60000000 then 0 else 3 := if_pos ⟨vm, .inl rfl⟩
    rw [e, if_pos]
    unfold ln
    rw [if_pos rfl]
    omega
  have b1 : Md.rev m 21 = (2 * m + 1000) / 2000 := by
    have e : Md.rev m 21 = ln m 21 := if_pos a1
    rw [e]; unfold ln; rw [if_neg (by decide)]
  have b2 : Md.rev m 20 = (2 * (m * 254) + 10000) / 20000 := by
    have e : Md.rev m 20 = ln m 20 := if_pos a2
    rw [e]; unfold ln; rw [if_pos rfl]
  rw [a1] at R1
  rw [a2] at R2
  generalize Md.rev m 21 = a at *
  generalize Md.rev m 20 = b at *
  have HR1 := Lib.hid R1
  have HR2 := Lib.hid R2
  have f1 : 0 ≤ a ∧ a ≤ 3000000 := by omega
  have f2 : 0 ≤ b ∧ b ≤ 60000000 := by omega
  have f3 : a * 1000 - m ≤ 500 := by omega
  have f4 : m - a * 1000 ≤ 500 := by omega
  have f5 : b * 10000 - m * 254 ≤ 5000 := by omega
  have f6 : m * 254 - b * 10000 ≤ 5000 := by omega
  obtain ⟨f1a, f1b⟩ := f1
  obtain ⟨f2a, f2b⟩ := f2
  have q0 : Hid (Qw w w) := Lib.hid (Qw.refl w)
  clear R1 R2 vm a1 a2 b1 b2
  go_enter Try.func12, Try.ntmps12
  go_wp2_with (first | (go_at_call 29; (first | ((with_reducible refine (HR1.out _).mono ?_); rintro e w' ⟨rfl, q⟩; replace q0 : Hid (Qw w w') := Lib.hid (Qw.trans q0.out q); clear q) | ((with_reducible refine (HR2.out _).mono ?_); rintro e w' ⟨rfl, q⟩; replace q0 : Hid (Qw w w') := Lib.hid (Qw.trans q0.out q); clear q))) | (go_at_call 31; ((with_reducible refine (BT.out _).mono ?_); rintro e w' ⟨rfl, rfl⟩)) | (go_at_call 15; ((with_reducible refine (awakeM _).mono ?_); rintro e w' ⟨rfl, q⟩; replace q0 : Hid (Qw w w') := Lib.hid (Qw.trans q0.out q); clear q)))
  go_ret
  exact ⟨ret_bl (decide_eq_true (by omega)), q0.out⟩

/-! ### the row -/
theorem own_modalRates : ownKnob Try.prog.godebug = none := by kernel_rfl
set_option maxRecDepth 100000 in
theorem lifted_modalRates (os : Os) (started : os.Started) (H : Type) (enc : TypeId × Value → H) :
    ReturnsInHanded {} Try.checked os 12 .any (Rows.modalRatesSpec.pre6 enc Try.prog Try.f12 Rows.modalRatesRow.domain false) (Rows.modalRatesSpec.post enc Try.prog Try.f12 false true false false) := by
  refine returnsInHanded_of_change (C := Try.checked) own_modalRates started (by kernel_rfl) Try.func12
    (ChangeSpec.witness6 (enc := enc) (C := Try.checked) false ⟨#[], #[.int .i64 0], []⟩ 8 (by kernel_rfl) (by kernel_rfl) (by kernel_rfl) (by kernel_rfl)) ?_
  intro W base args ds gs before hval0 hW hcnd _
  have hval : ∀ (j : Nat) t v, Try.f12.params[j]? = some t → args[j]? = some v → Value.okWide Try.prog W .any base t v := hval0
  have hW' := hW
  obtain ⟨p, q, hA0, hV, rfl, hfz, hnd⟩ := hW
  have hA : DataW.TrodAll enc Try.prog W 0 (fun _ => true) true Try.f12.params.toList args.toList ds p := hA0
  rw [Try.params12] at hA hval
  obtain ⟨v0, vs0, d0, ds0, p0, q0, hargs, rfl, rfl, h0, r0⟩ := trodAll_cons hA
  obtain ⟨rfl, rfl, rfl⟩ := trodAll_nil r0
  obtain rfl : args = #[v0] := by cases args; simp_all
  obtain ⟨rfl, rfl⟩ := trodVars_none hV
  obtain ⟨a0, rfl, rfl, rfl, w0⟩ := open_int Try.underlying3 (hval 0 3 v0 rfl rfl) h0
  obtain ⟨x0, y0⟩ := wfM w0
  clear hA0 hval0
  simp only [List.append_nil] at hW'
  refine (walk_modalRates a0 x0 y0 W).mono fun e W' ⟨he, bel⟩ => ?_
  subst he
  exact ⟨_, rfl, _, _, _, [], _, [], hW', trodAll_mk1 (shut_bool Try.underlying4 _), (trodAll_cons_mk (shut_int Try.underlying3 w0) trodAll_mk0), rfl, Below.frame bel _, fun h => by cases h⟩

/-- The statement. -/
theorem modalRates_holds : Rows.ModalRatesSaid :=
  OpenClaim.holds_of_wide 12 Try.f12 rfl rfl rfl rfl rfl rfl rfl ⟨rfl, rfl, rfl, rfl, rfl⟩ rfl rfl rfl rfl rfl (by kernel_rfl) Try.func12 (by kernel_rfl)
    (of_decide_eq_true (by kernel_rfl)) (by unfold Func.isWrapper; first | (rw [if_pos (by decide +kernel)]; kernel_rfl) | (rw [if_neg (by decide +kernel)]; exact ⟨rfl, rfl⟩))
    (fun os started H enc _ => lifted_modalRates os started H enc)

end Go.Proofs.Ytijakijjeoaikaa
