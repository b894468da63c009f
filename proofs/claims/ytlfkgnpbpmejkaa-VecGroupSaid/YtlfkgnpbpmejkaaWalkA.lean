
/- The walks of the small functions of package wide: size, restOf, rootRest, round. -/
import Derived.Test.YtlfkgnpbpmejkaaRows
import Derived.WalkKit
import Derived.BigQuiet
import Derived.Deep.QuietTactic
import Derived.Lib.Hide
import Derived.Test.YtlfkgnpbpmejkaaMath
set_option linter.unusedVariables false
set_option linter.unusedSimpArgs false
namespace Go.Proofs.Ytlfkgnpbpmejkaa
open Go.RowKit

theorem ret_u64 {a b : Int} (h : a = b) : Ending.returned (.int .u64 a) = .returned (.int .u64 b) := by rw [h]
theorem ret_i64 {a b : Int} (h : a = b) : Ending.returned (.int .i64 a) = .returned (.int .i64 b) := by rw [h]

theorem size_any (x : Int) (h1 : -9223372036854775808 ≤ x) (h2 : x ≤ 9223372036854775807) (w : World) :
    Calls Try.prog 51 #[.int .i64 x] w fun e w' => e = .returned (.int .u64 (Mth.mag x)) ∧ w = w' := by
  unfold Mth.mag
  by_cases h : x < 0
  · rw [if_pos h]
    go_enter Try.func51, Try.ntmps51
    go_wp2
    go_ret
    exact ⟨ret_u64 (by simp only [IntKind.wrap_u64]; omega), rfl⟩
  · rw [if_neg h]
    go_enter Try.func51, Try.ntmps51
    go_wp2
    go_ret
    exact ⟨rfl, rfl⟩

/-- The rest of a division that left something of its divisor. -/
def restQ (l d : Int) : Int := if l = 0 then 0 else if l < d - l then 1 else if l = d - l then 2 else 3

/-- The rest of a root whose square left over and a quotient's rest. -/
def restR (q o l n : Int) : Int := if o = 0 ∧ l = 0 then 0 else if o < q ∨ o = q ∧ 4 * l < n then 1 else if o = q ∧ 4 * l = n then 2 else 3

theorem rootRest_any (q o l n : Int) (q0 : 0 ≤ q) (o0 : 0 ≤ o) (h0 : 0 ≤ l) (h1 : l < n) (h2 : n ≤ 4611686018427387904) (w : World) :
    Calls Try.prog 63 #[.int .u64 q, .int .u64 o, .int .u64 l, .int .u64 n] w fun e w' => e = .returned (.int .i64 (restR q o l n)) ∧ w = w' := by
  unfold restR
  by_cases c1 : o = 0
  · by_cases c2 : l = 0
    · subst c1; subst c2
      rw [if_pos ⟨rfl, rfl⟩]
      go_enter Try.func63, Try.ntmps63
      go_wp2
      go_ret
      exact ⟨rfl, rfl⟩
    · rw [if_neg (by omega)]
      subst c1
      have b2 : (l == 0) = false := beq_eq_false_iff_ne.2 c2
      by_cases c3 : 0 < q
      · rw [if_pos (by omega)]
        go_enter Try.func63, Try.ntmps63
        go_wp2
        go_ret
        exact ⟨rfl, rfl⟩
      · obtain rfl : q = 0 := by omega
        by_cases c4 : 4 * l < n
        · rw [if_pos (by omega)]
          go_enter Try.func63, Try.ntmps63
          go_wp2
          go_ret
          exact ⟨rfl, rfl⟩
        · rw [if_neg (by omega)]
          by_cases c5 : 4 * l = n
          · rw [if_pos (by omega)]
            have b5 : (4 * l == n) = true := beq_iff_eq.2 c5
            clear c5
            go_enter Try.func63, Try.ntmps63
            go_wp2
            go_ret
            exact ⟨rfl, rfl⟩
          · rw [if_neg (by omega)]
            have b5 : (4 * l == n) = false := beq_eq_false_iff_ne.2 c5
            go_enter Try.func63, Try.ntmps63
            go_wp2
            go_ret
            exact ⟨rfl, rfl⟩
  · rw [if_neg (by omega)]
    have b1 : (o == 0) = false := beq_eq_false_iff_ne.2 c1
    by_cases c3 : o < q
    · rw [if_pos (by omega)]
      go_enter Try.func63, Try.ntmps63
      go_wp2
      go_ret
      exact ⟨rfl, rfl⟩
    · by_cases c4 : o = q
      · subst c4
        by_cases c5 : 4 * l < n
        · rw [if_pos (by omega)]
          go_enter Try.func63, Try.ntmps63
          go_wp2
          go_ret
          exact ⟨rfl, rfl⟩
        · rw [if_neg (by omega)]
          by_cases c6 : 4 * l = n
          · rw [if_pos (by omega)]
            have b6 : (4 * l == n) = true := beq_iff_eq.2 c6
            clear c6
            go_enter Try.func63, Try.ntmps63
            go_wp2
            go_ret
            exact ⟨rfl, rfl⟩
          · rw [if_neg (by omega)]
            have b6 : (4 * l == n) = false := beq_eq_false_iff_ne.2 c6
            go_enter Try.func63, Try.ntmps63
            go_wp2
            go_ret
            exact ⟨rfl, rfl⟩
      · rw [if_neg (by omega), if_neg (by omega)]
        have b4 : (o == q) = false := beq_eq_false_iff_ne.2 c4
        go_enter Try.func63, Try.ntmps63
        go_wp2
        go_ret
        exact ⟨rfl, rfl⟩

end Go.Proofs.Ytlfkgnpbpmejkaa
