
/- The walk of wide.round. -/
import Derived.Test.YtijakijjeoaikaaWalkA
set_option linter.unusedVariables false
set_option linter.unusedSimpArgs false
namespace Go.Proofs.Ytijakijjeoaikaa
open Go.RowKit

theorem ret_ib {a b : Int} {p q : Bool} (h : a = b) (g : p = q) : Ending.returned (.tuple #[.int .i64 a, .bool p]) = .returned (.tuple #[.int .i64 b, .bool q]) := by rw [h, g]

theorem round_none (q r m : Int) (neg : Bool) (hm : m < 0 ∨ 2 < m) (w : World) :
    Calls Try.prog 61 #[.int .u64 q, .int .i64 r, .bool neg, .int .i64 m] w fun e w' =>
      e = .returned (.tuple #[.int .i64 (Mth.rv m neg q r), .bool (Mth.rok m neg q r)]) ∧ w = w' := by
  have e1 : Mth.rok m neg q r = false := by unfold Mth.rok; rw [decide_eq_false (by omega)]; rfl
  have e2 : Mth.rv m neg q r = 0 := by unfold Mth.rv; rw [e1]; rfl
  rw [e1, e2]
  have b0 : (m == 0) = false := beq_eq_false_iff_ne.2 (by omega)
  have b1 : (m == 1) = false := beq_eq_false_iff_ne.2 (by omega)
  have b2 : (m == 2) = false := beq_eq_false_iff_ne.2 (by omega)
  clear e1 e2 hm
  go_enter Try.func61, Try.ntmps61
  go_wp2
  go_ret2
  exact ⟨rfl, rfl⟩

theorem rok_true (m : Int) (neg : Bool) (q r v : Int) (hm0 : 0 ≤ m) (hm : m ≤ 2) (h : Mth.rnd m neg q r = v) (h1 : -9223372036854775808 ≤ v) (h2 : v ≤ 9223372036854775807) : Mth.rv m neg q r = v ∧ Mth.rok m neg q r = true := by
  have e : Mth.rok m neg q r = true := by unfold Mth.rok; rw [h, decide_eq_true (by omega), decide_eq_true ⟨h1, h2⟩]; rfl
  exact ⟨by unfold Mth.rv; rw [e]; exact h, e⟩

theorem rok_false (m : Int) (neg : Bool) (q r v : Int) (h : Mth.rnd m neg q r = v) (h1 : v < -9223372036854775808 ∨ 9223372036854775807 < v) : Mth.rv m neg q r = 0 ∧ Mth.rok m neg q r = false := by
  have e : Mth.rok m neg q r = false := by unfold Mth.rok; rw [h, decide_eq_false (p := -9223372036854775808 ≤ v ∧ v ≤ 9223372036854775807) (by omega), Bool.and_false]
  exact ⟨by unfold Mth.rv; rw [e]; rfl, e⟩

set_option maxHeartbeats 4000000 in
theorem round_some (q r m : Int) (neg : Bool) (h0 : 0 ≤ q) (h1 : q < 18446744073709551616) (r0 : 0 ≤ r) (r3 : r ≤ 3) (hm0 : 0 ≤ m) (hm : m ≤ 2) (w : World) :
    Calls Try.prog 61 #[.int .u64 q, .int .i64 r, .bool neg, .int .i64 m] w fun e w' =>
      e = .returned (.tuple #[.int .i64 (Mth.rv m neg q r), .bool (Mth.rok m neg q r)]) ∧ w = w' := by
  have cm : m = 0 ∨ m = 1 ∨ m = 2 := by omega
  have cr : r = 0 ∨ r = 1 ∨ r = 2 ∨ r = 3 := by omega
  have cq : q < 9223372036854775807 ∨ q = 9223372036854775807 ∨ q = 9223372036854775808 ∨ 9223372036854775808 < q := by omega
  have fin : ∀ v b, Mth.rv m neg q r = v ∧ Mth.rok m neg q r = b → Calls Try.prog 61 #[.int .u64 q, .int .i64 r, .bool neg, .int .i64 m] w (fun e w' => e = .returned (.tuple #[.int .i64 v, .bool b]) ∧ w = w') → Calls Try.prog 61 #[.int .u64 q, .int .i64 r, .bool neg, .int .i64 m] w (fun e w' =>
      e = .returned (.tuple #[.int .i64 (Mth.rv m neg q r), .bool (Mth.rok m neg q r)]) ∧ w = w') := by
    rintro v b ⟨rfl, rfl⟩ h; exact h
  clear r0 r3 hm0 hm
  rcases cm with rfl | rfl | rfl <;> rcases cr with rfl | rfl | rfl | rfl <;> cases neg <;> rcases cq with c | rfl | rfl | c
  all_goals
    first
    | (refine fin _ _ (rok_true _ _ _ _ _ (by omega) (by omega) (by simp only [Mth.rnd, Mth.away]; simp; first | rfl | done) (by omega) (by omega)) ?_; clear fin)
    | (refine fin _ _ (rok_false _ _ _ _ _ (by simp only [Mth.rnd, Mth.away]; simp; first | rfl | done) (by omega)) ?_; clear fin)
  all_goals
    first
    | (have d1 : decide (9223372036854775807 < q) = false := decide_eq_false (by omega)
       have d2 : decide (9223372036854775808 < q) = false := decide_eq_false (by omega)
       have e1 : (q == 9223372036854775807) = false := beq_eq_false_iff_ne.2 (by omega)
       have e2 : (q == 9223372036854775808) = false := beq_eq_false_iff_ne.2 (by omega))
    | (have d1 : decide (9223372036854775807 < q) = true := decide_eq_true (by omega)
       have d2 : decide (9223372036854775808 < q) = true := decide_eq_true (by omega))
    | skip
  all_goals
    go_enter Try.func61, Try.ntmps61
    go_wp2
    go_ret2
    refine ⟨ret_ib ?_ rfl, rfl⟩
    try simp only [IntKind.wrap_u64, wrap64]
    all_goals (first | rfl | omega)
end Go.Proofs.Ytijakijjeoaikaa
