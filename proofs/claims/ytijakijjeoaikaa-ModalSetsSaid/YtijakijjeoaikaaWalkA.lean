
/- The walks of the small functions of package wide: size, restOf, rootRest, round. -/
import Derived.Test.YtijakijjeoaikaaRows
import Derived.WalkKit
import Derived.BigQuiet
import Derived.Deep.QuietTactic
import Derived.Lib.Hide
import Derived.Test.YtijakijjeoaikaaMath
set_option linter.unusedVariables false
set_option linter.unusedSimpArgs false
namespace Go.Proofs.Ytijakijjeoaikaa
open Go.RowKit

theorem ret_u64 {a b : Int} (h : a = b) : Ending.returned (.int .u64 a) = .returned (.int .u64 b) := by rw [h]
theorem ret_i64 {a b : Int} (h : a = b) : Ending.returned (.int .i64 a) = .returned (.int .i64 b) := by rw [h]

theorem size_any (x : Int) (h1 : -9223372036854775808 ≤ x) (h2 : x ≤ 9223372036854775807) (w : World) :
    Calls Try.prog 58 #[.int .i64 x] w fun e w' => e = .returned (.int .u64 (Mth.mag x)) ∧ w = w' := by
  unfold Mth.mag
  by_cases h : x < 0
  · rw [if_pos h]
    go_enter Try.func58, Try.ntmps58
    go_wp2
    go_ret
    exact ⟨ret_u64 (by simp only [IntKind.wrap_u64]; omega), rfl⟩
  · rw [if_neg h]
    go_enter Try.func58, Try.ntmps58
    go_wp2
    go_ret
    exact ⟨rfl, rfl⟩

/-- The rest of a division that left something of its divisor. -/
def restQ (l d : Int) : Int := if l = 0 then 0 else if l < d - l then 1 else if l = d - l then 2 else 3

theorem restOf_any (l d : Int) (h0 : 0 ≤ l) (h1 : l ≤ d) (h2 : d < 18446744073709551616) (w : World) :
    Calls Try.prog 62 #[.int .u64 l, .int .u64 d] w fun e w' => e = .returned (.int .i64 (restQ l d)) ∧ w = w' := by
  unfold restQ
  by_cases c1 : l = 0
  · rw [if_pos c1]
    go_enter Try.func62, Try.ntmps62
    go_wp2
    go_ret
    exact ⟨rfl, rfl⟩
  · rw [if_neg c1]
    have b1 : (l == 0) = false := beq_eq_false_iff_ne.2 c1
    by_cases c2 : l < d - l
    · rw [if_pos c2]
      go_enter Try.func62, Try.ntmps62
      go_wp2
      go_ret
      exact ⟨rfl, rfl⟩
    · rw [if_neg c2]
      by_cases c3 : l = d - l
      · rw [if_pos c3]
        have b3 : (l == d - l) = true := beq_iff_eq.2 c3
        clear c3
        go_enter Try.func62, Try.ntmps62
        go_wp2
        go_ret
        exact ⟨rfl, rfl⟩
      · rw [if_neg c3]
        have b3 : (l == d - l) = false := beq_eq_false_iff_ne.2 c3
        go_enter Try.func62, Try.ntmps62
        go_wp2
        go_ret
        exact ⟨rfl, rfl⟩

/-- The rest of a root whose square left over and a quotient's rest. -/
def restR (q o l n : Int) : Int := if o = 0 ∧ l = 0 then 0 else if o < q ∨ o = q ∧ 4 * l < n then 1 else if o = q ∧ 4 * l = n then 2 else 3

end Go.Proofs.Ytijakijjeoaikaa
