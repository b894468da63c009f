
/- The walk of wide.round. -/
import Derived.Test.YtmfhiabajkdikaaDoorWalkA
set_option linter.unusedVariables false
set_option linter.unusedSimpArgs false
namespace Go.Proofs.YtmfhiabajkdikaaDoor
open Go.RowKit

theorem ret_ib {a b : Int} {p q : Bool} (h : a = b) (g : p = q) : Ending.returned (.tuple #[.int .i64 a, .bool p]) = .returned (.tuple #[.int .i64 b, .bool q]) := by rw [h, g]

theorem rok_true (m : Int) (neg : Bool) (q r v : Int) (hm0 : 0 ≤ m) (hm : m ≤ 2) (h : Mth.rnd m neg q r = v) (h1 : -9223372036854775808 ≤ v) (h2 : v ≤ 9223372036854775807) : Mth.rv m neg q r = v ∧ Mth.rok m neg q r = true := by
  have e : Mth.rok m neg q r = true := by unfold Mth.rok; rw [h, decide_eq_true (by omega), decide_eq_true ⟨h1, h2⟩]; rfl
  exact ⟨by unfold Mth.rv; rw [e]; exact h, e⟩

theorem rok_false (m : Int) (neg : Bool) (q r v : Int) (h : Mth.rnd m neg q r = v) (h1 : v < -9223372036854775808 ∨ 9223372036854775807 < v) : Mth.rv m neg q r = 0 ∧ Mth.rok m neg q r = false := by
  have e : Mth.rok m neg q r = false := by unfold Mth.rok; rw [h, decide_eq_false (p := -9223372036854775808 ≤ v ∧ v ≤ 9223372036854775807) (by omega), Bool.and_false]
  exact ⟨by unfold Mth.rv; rw [e]; rfl, e⟩

end Go.Proofs.YtmfhiabajkdikaaDoor
