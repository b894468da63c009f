
/- The walks of the small functions of the specification of layer 1: mag, right, sign, rounded. -/
import Derived.Test.YtijakijjeoaikaaCore
set_option linter.unusedVariables false
set_option linter.unusedSimpArgs false
namespace Go.Proofs.Ytijakijjeoaikaa
open Go.RowKit

theorem refMag (x : Int) (h1 : -9223372036854775808 ≤ x) (h2 : x ≤ 9223372036854775807) (w : World) :
    Calls Try.prog 66 #[.int .i64 x] w fun e w' => e = .returned (.int .u64 (Mth.mag x)) ∧ w = w' := by
  unfold Mth.mag
  by_cases h : x < 0
  · rw [if_pos h]
    go_enter Try.func66, Try.ntmps66
    go_wp2
    go_ret
    exact ⟨ret_u64 (by try simp only [IntKind.wrap_u64, wrap64]
                       omega), rfl⟩
  · rw [if_neg h]
    go_enter Try.func66, Try.ntmps66
    go_wp2
    go_ret
    exact ⟨rfl, rfl⟩

/-- Whether there is such a mode. -/
def okm (m : Int) : Bool := decide (m = 0 ∨ m = 1 ∨ m = 2)

theorem refRight (m : Int) (w : World) :
    Calls Try.prog 63 #[.int .i64 m] w fun e w' => e = .returned (.bool (okm m)) ∧ w = w' := by
  have c : m = 0 ∨ m = 1 ∨ m = 2 ∨ (m ≠ 0 ∧ m ≠ 1 ∧ m ≠ 2) := by omega
  rcases c with rfl | rfl | rfl | ⟨h0, h1, h2⟩
  · go_enter Try.func63, Try.ntmps63
    go_wp2
    go_ret
    exact ⟨rfl, rfl⟩
  · go_enter Try.func63, Try.ntmps63
    go_wp2
    go_ret
    exact ⟨rfl, rfl⟩
  · go_enter Try.func63, Try.ntmps63
    go_wp2
    go_ret
    exact ⟨rfl, rfl⟩
  · have e : okm m = false := decide_eq_false (by omega)
    rw [e]
    have b0 : (m == 0) = false := beq_eq_false_iff_ne.2 h0
    have b1 : (m == 1) = false := beq_eq_false_iff_ne.2 h1
    have b2 : (m == 2) = false := beq_eq_false_iff_ne.2 h2
    go_enter Try.func63, Try.ntmps63
    go_wp2
    go_ret
    exact ⟨rfl, rfl⟩

/-- The sign of a product. -/
def sgnI (a b : Int) : Int := if a = 0 ∨ b = 0 then 0 else if decide (a < 0) = decide (b < 0) then 1 else -1

theorem refSign (a b : Int) (w : World) :
    Calls Try.prog 71 #[.int .i64 a, .int .i64 b] w fun e w' => e = .returned (.int .i64 (sgnI a b)) ∧ w = w' := by
  unfold sgnI
  by_cases ha : a = 0
  · rw [if_pos (.inl ha)]
    have ba : (a == 0) = true := beq_iff_eq.2 ha
    clear ha
    go_enter Try.func71, Try.ntmps71
    go_wp2
    go_ret
    exact ⟨rfl, rfl⟩
  have ba : (a == 0) = false := beq_eq_false_iff_ne.2 ha
  by_cases hb : b = 0
  · rw [if_pos (.inr hb)]
    have bb : (b == 0) = true := beq_iff_eq.2 hb
    clear hb
    go_enter Try.func71, Try.ntmps71
    go_wp2
    go_ret
    exact ⟨rfl, rfl⟩
  have bb : (b == 0) = false := beq_eq_false_iff_ne.2 hb
  rw [if_neg (by omega)]
  by_cases hc : decide (a < 0) = decide (b < 0)
  · rw [if_pos hc]
    have bc : (decide (a < 0) == decide (b < 0)) = true := by rw [hc]; simp
    clear hc
    go_enter Try.func71, Try.ntmps71
    go_wp2
    go_ret
    exact ⟨rfl, rfl⟩
  · rw [if_neg hc]
    have bc : (decide (a < 0) == decide (b < 0)) = false := by simpa using hc
    clear hc
    go_enter Try.func71, Try.ntmps71
    go_wp2
    go_ret
    exact ⟨rfl, rfl⟩

/-- What 'exact' and 'half' say of a rest. -/
def RR (exact : Bool) (half r : Int) : Prop := exact = true ∧ half < 0 ∧ r = 0 ∨ exact = false ∧ (half < 0 ∧ r = 1 ∨ half = 0 ∧ r = 2 ∨ 0 < half ∧ r = 3)

set_option maxHeartbeats 4000000 in
theorem refRounded (neg : Bool) (q : Int) (exact : Bool) (half m r : Int) (h0 : 0 ≤ q) (h1 : q < 18446744073709551616) (hr : RR exact half r) (hm0 : 0 ≤ m) (hm : m ≤ 2) (w : World) :
    Calls Try.prog 70 #[.bool neg, .int .u64 q, .bool exact, .int .i64 half, .int .i64 m] w fun e w' =>
      e = .returned (.tuple #[.int .i64 (Mth.rv m neg q r), .bool (Mth.rok m neg q r)]) ∧ w = w' := by
  have cm : m = 0 ∨ m = 1 ∨ m = 2 := by omega
  have cq : q < 9223372036854775807 ∨ q = 9223372036854775807 ∨ q = 9223372036854775808 ∨ 9223372036854775808 < q := by omega
  have fin : ∀ v b, Mth.rv m neg q r = v ∧ Mth.rok m neg q r = b → Calls Try.prog 70 #[.bool neg, .int .u64 q, .bool exact, .int .i64 half, .int .i64 m] w (fun e w' => e = .returned (.tuple #[.int .i64 v, .bool b]) ∧ w = w') → Calls Try.prog 70 #[.bool neg, .int .u64 q, .bool exact, .int .i64 half, .int .i64 m] w (fun e w' =>
      e = .returned (.tuple #[.int .i64 (Mth.rv m neg q r), .bool (Mth.rok m neg q r)]) ∧ w = w') := by
    rintro v b ⟨rfl, rfl⟩ h; exact h
  clear hm0 hm
  rcases hr with ⟨rfl, hh, rfl⟩ | ⟨rfl, ⟨hh, rfl⟩ | ⟨hh, rfl⟩ | ⟨hh, rfl⟩⟩ <;> rcases cm with rfl | rfl | rfl <;> cases neg <;> rcases cq with c | rfl | rfl | c
  all_goals
    first
    | (refine fin _ _ (rok_true _ _ _ _ _ (by omega) (by omega) (by simp only [Mth.rnd, Mth.away]; simp; first | rfl | done) (by omega) (by omega)) ?_; clear fin)
    | (refine fin _ _ (rok_false _ _ _ _ _ (by simp only [Mth.rnd, Mth.away]; simp; first | rfl | done) (by omega)) ?_; clear fin)
  all_goals
    first
    | (obtain rfl : half = 0 := hh)
    | (have d0 : decide (0 < half) = true := decide_eq_true hh
       have d3 : decide (0 ≤ half) = true := decide_eq_true (by omega))
    | (have d0 : decide (0 < half) = false := decide_eq_false (by omega)
       have d3 : decide (0 ≤ half) = false := decide_eq_false (by omega))
  all_goals
    first
    | (have d1 : decide (9223372036854775808 < q) = false := decide_eq_false (by omega)
       have d2 : decide (9223372036854775807 < q) = false := decide_eq_false (by omega)
       by_cases hz : q = 0
       · subst hz
         go_enter Try.func70, Try.ntmps70
         go_wp2
         go_ret2
         exact ⟨rfl, rfl⟩
       · have e0 : (q == 0) = false := beq_eq_false_iff_ne.2 hz
         have e1 : (q + 1 == 0) = false := beq_eq_false_iff_ne.2 (by omega)
         have hp : 1 ≤ q := by omega
         clear hz
         go_enter Try.func70, Try.ntmps70
         go_wp2
         go_ret2
         refine ⟨ret_ib ?_ rfl, rfl⟩
         try simp only [IntKind.wrap_u64, wrap64]
         all_goals (first | rfl | omega))
    | (go_enter Try.func70, Try.ntmps70
       go_wp2
       go_ret2
       refine ⟨ret_ib ?_ rfl, rfl⟩
       try simp only [IntKind.wrap_u64, wrap64]
       all_goals (first | rfl | omega))

end Go.Proofs.Ytijakijjeoaikaa
