
/- The walk of MulDiv of the specification of layer 1. -/
import Derived.Test.YtlinfdgmebogbaaDoorRefF
set_option linter.unusedVariables false
set_option linter.unusedSimpArgs false
namespace Go.Proofs.YtlinfdgmebogbaaDoor
open Go.RowKit

/-! ### a number is found bit by bit -/

/-- The bits of R from bit k on are those of q. -/
def BitK (R : Int) (k : Nat) (q : Int) : Prop := 0 ≤ q ∧ q ≤ R ∧ R < q + 2 ^ k ∧ ∃ m : Nat, q = 2 ^ k * (m : Int)

theorem bit_start (R : Int) (k : Nat) (h0 : 0 ≤ R) (h1 : R < 2 ^ k) : BitK R k 0 := ⟨Int.le_refl _, h0, by omega, 0, by simp⟩
theorem bit_end {R q : Int} (h : BitK R 0 q) : q = R := by
  obtain ⟨_, h1, h2, _⟩ := h
  simp at h2
  omega
theorem bit_yes {R q : Int} {j : Nat} (h : BitK R (j + 1) q) (c : q + 2 ^ j ≤ R) : BitK R j (q + 2 ^ j) := by
  obtain ⟨h0, h1, h2, m, h3⟩ := h
  have p : (0 : Int) < 2 ^ j := Int.pow_pos (by decide)
  have e : (2 : Int) ^ (j + 1) = 2 ^ j * 2 := Int.pow_succ _ _
  rw [e] at h2 h3
  refine ⟨by omega, c, by omega, 2 * m + 1, ?_⟩
  rw [h3, Int.mul_assoc, show ((2 * m + 1 : Nat) : Int) = 2 * (m : Int) + 1 from by omega, Int.mul_add, Int.mul_one]
theorem bit_no {R q : Int} {j : Nat} (h : BitK R (j + 1) q) (c : ¬ q + 2 ^ j ≤ R) : BitK R j q := by
  obtain ⟨h0, h1, h2, m, h3⟩ := h
  have e : (2 : Int) ^ (j + 1) = 2 ^ j * 2 := Int.pow_succ _ _
  rw [e] at h2 h3
  refine ⟨h0, h1, by omega, 2 * m, ?_⟩
  rw [h3, Int.mul_assoc, show ((2 * m : Nat) : Int) = 2 * (m : Int) from by omega]
theorem bit_or {R q : Int} {j : Nat} (h : BitK R (j + 1) q) (hj : j < 64) (hb : q + 2 ^ j < 18446744073709551616) : bits .or .u64 q (2 ^ j) = q + 2 ^ j := by
  obtain ⟨h0, h1, h2, m, h3⟩ := h
  have p : (0 : Int) < 2 ^ j := Int.pow_pos (by decide)
  have ep : ((2 : Int) ^ j) = ((2 ^ j : Nat) : Int) := (Int.natCast_pow 2 _).symm
  have eq : q = ((2 ^ (j + 1) * m : Nat) : Int) := by rw [h3, Int.natCast_mul, Int.natCast_pow]; rfl
  have lt : 2 ^ j < 2 ^ (j + 1) := Nat.pow_lt_pow_right (by decide) (by omega)
  have t := Nat.two_pow_add_eq_or_of_lt lt m
  rw [ep] at hb p ⊢
  rw [eq] at hb ⊢
  have o := bits_or_u64_nat (2 ^ (j + 1) * m) (2 ^ j) (by omega) (by omega)
  rw [o, ← t]
  omega
theorem bit_room {R q : Int} {j : Nat} (h : BitK R (j + 1) q) (n : Nat) (hn : j < n) (hR : R < 2 ^ n) : q + 2 ^ j < 2 ^ n := by
  obtain ⟨h0, h1, h2, m, h3⟩ := h
  obtain ⟨d, rfl⟩ : ∃ d, n = j + 1 + d := ⟨n - (j + 1), by omega⟩
  have e : (2 : Int) ^ (j + 1 + d) = 2 ^ (j + 1) * 2 ^ d := Int.pow_add _ _ _
  have p : (0 : Int) < 2 ^ (j + 1) := Int.pow_pos (by decide)
  have pj : (0 : Int) < 2 ^ j := Int.pow_pos (by decide)
  have e2 : (2 : Int) ^ (j + 1) = 2 ^ j * 2 := Int.pow_succ _ _
  have lt : (m : Int) < 2 ^ d := by
    have : 2 ^ (j + 1) * (m : Int) < 2 ^ (j + 1) * 2 ^ d := by rw [← h3, ← e]; omega
    exact Int.lt_of_mul_lt_mul_left this (Int.le_of_lt p)
  have le : 2 ^ (j + 1) * ((m : Int) + 1) ≤ 2 ^ (j + 1) * 2 ^ d := Int.mul_le_mul_of_nonneg_left (by omega) (Int.le_of_lt p)
  rw [Int.mul_add, Int.mul_one, ← h3, ← e] at le
  omega

/-! ### MulDiv -/

theorem cmpI_le (x y : Int) : cmpI x y ≤ 0 ↔ x ≤ y := by unfold cmpI; split <;> (try split) <;> omega
theorem cmpI_gt (x y : Int) : 0 < cmpI x y ↔ y < x := by unfold cmpI; split <;> (try split) <;> omega
theorem cmpI_lt (x y : Int) : cmpI x y < 0 ↔ x < y := by unfold cmpI; split <;> (try split) <;> omega

/-- The bounded quotient. -/
def qb (X D : Int) : Int := if X / D < 18446744073709551616 then X / D else 18446744073709551615

theorem qb_range (X D : Int) (hX : 0 ≤ X) (hD : 0 < D) : 0 ≤ qb X D ∧ qb X D < 18446744073709551616 := by
  have := Int.ediv_nonneg hX (Int.le_of_lt hD)
  unfold qb; split <;> omega
theorem qb_test (X D q : Int) (hD : 0 < D) (hq : q < 18446744073709551616) : cmpI (q * D) X ≤ 0 ↔ q ≤ qb X D := by
  rw [cmpI_le, ← Int.le_ediv_iff_mul_le hD]
  unfold qb; split <;> omega

theorem sgn_lt (a b : Int) : decide (sgnI a b < 0) = decide (a * b < 0) := by
  rw [sgn_cmp]
  by_cases h : a * b < 0
  · rw [decide_eq_true h, decide_eq_true ((cmpI_lt _ _).2 h)]
  · rw [decide_eq_false h, decide_eq_false (fun k => h ((cmpI_lt _ _).1 k))]

/-- The sign of a quotient, told by the sign of the product. -/
theorem rnd_sign (m a b c : Int) (hc : c ≠ 0) : Mth.rnd m (decide (a * b < 0) != decide (c < 0)) (mq a b c) (mr a b c) = Mth.rnd m (ng a b c) (mq a b c) (mr a b c) := by
  by_cases z : a * b = 0
  · have e : Mth.mag a * Mth.mag b = 0 := by rw [mag_mul, z]; rfl
    have q : mq a b c = 0 := by unfold mq; rw [e]; exact Int.zero_ediv _
    have r : mr a b c = 0 := by rw [mr_zero, e]; exact Int.zero_emod _
    rw [q, r, rnd_exact, rnd_exact]; simp
  · have e : decide (a * b < 0) = (decide (a < 0) != decide (b < 0)) := by
      have ha : a ≠ 0 := fun h => z (by rw [h]; simp)
      have hb : b ≠ 0 := fun h => z (by rw [h]; simp)
      rcases Int.lt_or_le a 0 with pa | pa <;> rcases Int.lt_or_le b 0 with pb | pb
      · have := Int.mul_pos_of_neg_of_neg pa pb
        rw [decide_eq_true pa, decide_eq_true pb, decide_eq_false (by omega)]; rfl
      · have := Int.mul_neg_of_neg_of_pos pa (show 0 < b by omega)
        rw [decide_eq_true pa, decide_eq_false (show ¬ b < 0 by omega), decide_eq_true (by omega)]; rfl
      · have := Int.mul_neg_of_pos_of_neg (show 0 < a by omega) pb
        rw [decide_eq_false (show ¬ a < 0 by omega), decide_eq_true pb, decide_eq_true (by omega)]; rfl
      · have := Int.mul_pos (show 0 < a by omega) (show 0 < b by omega)
        rw [decide_eq_false (show ¬ a < 0 by omega), decide_eq_false (show ¬ b < 0 by omega), decide_eq_false (by omega)]; rfl
    unfold ng; rw [e]

theorem rok_sign (m a b c : Int) (hc : c ≠ 0) : Mth.rok m (decide (a * b < 0) != decide (c < 0)) (mq a b c) (mr a b c) = Mth.rok m (ng a b c) (mq a b c) (mr a b c) := by
  unfold Mth.rok; rw [rnd_sign m a b c hc]
theorem rv_sign (m a b c : Int) (hc : c ≠ 0) : Mth.rv m (decide (a * b < 0) != decide (c < 0)) (mq a b c) (mr a b c) = Mth.rv m (ng a b c) (mq a b c) (mr a b c) := by
  unfold Mth.rv; rw [rok_sign m a b c hc, rnd_sign m a b c hc]

/-- The rest of a quotient, as the specification tells it. -/
theorem rest_told (a b c : Int) (hc : c ≠ 0) (hs : Mth.mag a * Mth.mag b / Mth.mag c < 18446744073709551616) :
    RR (decide (cmpI (Mth.mag a * Mth.mag b) (qb (Mth.mag a * Mth.mag b) (Mth.mag c) * Mth.mag c) = 0))
      (cmpI (Mth.mag a * Mth.mag b + Mth.mag a * Mth.mag b) (qb (Mth.mag a * Mth.mag b) (Mth.mag c) * Mth.mag c + qb (Mth.mag a * Mth.mag b) (Mth.mag c) * Mth.mag c + Mth.mag c)) (mr a b c) := by
  have pc := mag_pos hc
  have e : qb (Mth.mag a * Mth.mag b) (Mth.mag c) = Mth.mag a * Mth.mag b / Mth.mag c := if_pos hs
  rw [e]
  have d := Int.emod_add_mul_ediv (Mth.mag a * Mth.mag b) (Mth.mag c)
  have m0 := Int.emod_nonneg (Mth.mag a * Mth.mag b) (show Mth.mag c ≠ 0 by omega)
  have m1 := Int.emod_lt_of_pos (Mth.mag a * Mth.mag b) pc
  have k := Int.mul_comm (Mth.mag c) (Mth.mag a * Mth.mag b / Mth.mag c)
  unfold mr
  generalize Mth.mag a * Mth.mag b / Mth.mag c * Mth.mag c = Y at *
  generalize Mth.mag a * Mth.mag b % Mth.mag c = r at *
  generalize Mth.mag a * Mth.mag b = X at *
  generalize Mth.mag c = D at *
  have c1 := cmpI_zero X Y
  have c2 := cmpI_lt (X + X) (Y + Y + D)
  have c3 := cmpI_gt (X + X) (Y + Y + D)
  have c4 := cmpI_zero (X + X) (Y + Y + D)
  unfold RR restQ
  by_cases z : r = 0
  · left; exact ⟨decide_eq_true (c1.2 (by omega)), c2.2 (by omega), if_pos z⟩
  · right
    refine ⟨decide_eq_false (fun h => z (by have := c1.1 h; omega)), ?_⟩
    rw [if_neg z]
    by_cases l : r < D - r
    · left; exact ⟨c2.2 (by omega), if_pos l⟩
    · rw [if_neg l]
      by_cases e : r = D - r
      · right; left; exact ⟨c4.2 (by omega), if_pos e⟩
      · right; right; exact ⟨c3.2 (by omega), if_neg e⟩

theorem rest_big (X D : Int) (hD : 0 < D) (hX : 0 ≤ X) (hs : ¬ X / D < 18446744073709551616) :
    RR (decide (cmpI X (qb X D * D) = 0)) (cmpI (X + X) (qb X D * D + qb X D * D + D)) 3 := by
  have e : qb X D = 18446744073709551615 := if_neg hs
  rw [e]
  have g : 18446744073709551616 * D ≤ X := (Int.le_ediv_iff_mul_le hD).1 (by omega)
  right
  refine ⟨decide_eq_false (fun h => ?_), .inr (.inr ⟨(cmpI_gt _ _).2 (by omega), rfl⟩)⟩
  have := (cmpI_zero _ _).1 h
  omega

theorem rv_huge (m : Int) (neg : Bool) : Mth.rv m neg 18446744073709551615 3 = 0 ∧ Mth.rok m neg 18446744073709551615 3 = false := by
  refine rok_false m neg _ _ _ rfl ?_
  unfold Mth.rnd
  cases neg
  · right; simp only [Bool.false_eq_true, if_false]; split <;> omega
  · left; simp only [if_true]; split <;> omega

end Go.Proofs.YtlinfdgmebogbaaDoor
