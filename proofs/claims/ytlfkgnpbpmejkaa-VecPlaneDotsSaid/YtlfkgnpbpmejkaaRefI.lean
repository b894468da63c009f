
/- The walk of Over of the specification of layer 1. -/
import Derived.Test.YtlfkgnpbpmejkaaRefH
set_option linter.unusedVariables false
set_option linter.unusedSimpArgs false
namespace Go.Proofs.Ytlfkgnpbpmejkaa
open Go.RowKit

theorem rq_test (N n q : Int) (hN : 0 ≤ N) (hn : 0 < n) (hq : 0 ≤ q) : cmpI (q * q * n) N ≤ 0 ↔ q ≤ rq N n := by
  have h0 := Int.ediv_nonneg hN (Int.le_of_lt hn)
  have t := rt_test (N / n) q h0 hq
  unfold rq
  rw [← t, cmpI_le, cmpI_le, Int.le_ediv_iff_mul_le hn]

theorem rest_over (N n : Int) (hN : 0 ≤ N) (hn : 0 < n) :
    RR (decide (cmpI (rq N n * rq N n * n) N = 0)) (cmpI (4 * N) ((2 * rq N n + 1) * (2 * rq N n + 1) * n)) (rr N n) := by
  have h0 := Int.ediv_nonneg hN (Int.le_of_lt hn)
  have s := Mth.rt_spec (N / n) h0
  have r0 := Mth.rt_nonneg (N / n)
  have d := Int.emod_add_mul_ediv N n
  have l0 := Int.emod_nonneg N (show n ≠ 0 by omega)
  have l1 := Int.emod_lt_of_pos N hn
  unfold rr
  change RR (decide (cmpI (Mth.rt (N / n) * Mth.rt (N / n) * n) N = 0)) (cmpI (4 * N) ((2 * Mth.rt (N / n) + 1) * (2 * Mth.rt (N / n) + 1) * n)) _
  generalize N / n = Q at *
  generalize N % n = l at *
  generalize Mth.rt Q = q at *
  have e1 : (2 * q + 1) * (2 * q + 1) * n = 4 * (q * q * n) + 4 * (q * n) + n := by
    have : (2 * q + 1) * (2 * q + 1) = 4 * (q * q) + 4 * q + 1 := by
      simp only [Int.add_mul, Int.mul_add, Int.mul_one, Int.one_mul]
      have : 2 * q * (2 * q) = 4 * (q * q) := by rw [Int.mul_assoc, Int.mul_left_comm q 2 q]; omega
      omega
    rw [this, Int.add_mul, Int.add_mul, Int.mul_assoc 4, Int.mul_assoc 4]; omega
  obtain ⟨O, eO⟩ : ∃ O, Q - q * q = O := ⟨_, rfl⟩
  have eQ : n * Q = q * q * n + O * n := by
    rw [← eO, Int.sub_mul, Int.mul_comm n Q]; omega
  rw [e1, eO]
  have o0 : 0 ≤ O := by omega
  have c1 := cmpI_zero (q * q * n) N
  have c2 := cmpI_lt (4 * N) (4 * (q * q * n) + 4 * (q * n) + n)
  have c3 := cmpI_zero (4 * N) (4 * (q * q * n) + 4 * (q * n) + n)
  have c4 := cmpI_gt (4 * N) (4 * (q * q * n) + 4 * (q * n) + n)
  -- O against q, times n
  have lt : O < q → O * n + n ≤ q * n := fun h => by
    have := Int.mul_le_mul_of_nonneg_right (show O + 1 ≤ q by omega) (Int.le_of_lt hn)
    rw [Int.add_mul, Int.one_mul] at this; exact this
  have gt : q < O → q * n + n ≤ O * n := fun h => by
    have := Int.mul_le_mul_of_nonneg_right (show q + 1 ≤ O by omega) (Int.le_of_lt hn)
    rw [Int.add_mul, Int.one_mul] at this; exact this
  have eqn : O = q → O * n = q * n := fun h => by rw [h]
  have on0 : 0 ≤ O * n := Int.mul_nonneg o0 (Int.le_of_lt hn)
  have qn0 : 0 ≤ q * n := Int.mul_nonneg r0 (Int.le_of_lt hn)
  have oz : O = 0 → O * n = 0 := fun h => by rw [h]; exact Int.zero_mul _
  have onz : O ≠ 0 → n ≤ O * n := fun h => by
    have := Int.mul_le_mul_of_nonneg_right (show 1 ≤ O by omega) (Int.le_of_lt hn)
    rw [Int.one_mul] at this; exact this
  generalize q * q * n = A at *
  generalize q * n = B at *
  generalize O * n = C at *
  unfold RR restR
  by_cases z : O = 0 ∧ l = 0
  · left
    have := oz z.1
    exact ⟨decide_eq_true (c1.2 (by omega)), c2.2 (by omega), if_pos z⟩
  · right
    rw [if_neg z]
    refine ⟨decide_eq_false (fun h => z ?_), ?_⟩
    · have := c1.1 h
      by_cases o : O = 0
      · have := oz o; exact ⟨o, by omega⟩
      · have := onz o; omega
    · by_cases b : O < q ∨ O = q ∧ 4 * l < n
      · left
        refine ⟨c2.2 ?_, if_pos b⟩
        rcases b with b | ⟨b, b2⟩
        · have := lt b; omega
        · have := eqn b; omega
      · rw [if_neg b]
        by_cases h : O = q ∧ 4 * l = n
        · right; left
          have := eqn h.1
          exact ⟨c3.2 (by omega), if_pos h⟩
        · right; right
          refine ⟨c4.2 ?_, if_neg h⟩
          by_cases g : O = q
          · have := eqn g; omega
          · have := gt (by omega); omega

theorem over_sign (m a b n : Int) : Mth.rnd m (decide (a * b < 0)) (rq (psq a b) n) (rr (psq a b) n) = Mth.rnd m (sg a b) (rq (psq a b) n) (rr (psq a b) n) := by
  by_cases z : a * b = 0
  · have e : psq a b = 0 := by unfold psq; rw [mag_mul, z]; rfl
    have q : rq 0 n = 0 := by unfold rq; rw [Int.zero_ediv]; rfl
    have r : rr 0 n = 0 := by unfold rr; rw [Int.zero_ediv, Int.zero_emod]; rfl
    rw [e, q, r, rnd_exact, rnd_exact]; simp
  · have e : decide (a * b < 0) = sg a b := by
      unfold sg
      have ha : a ≠ 0 := fun h => z (by rw [h]; simp)
      have hb : b ≠ 0 := fun h => z (by rw [h]; simp)
      rcases Int.lt_or_le a 0 with pa | pa <;> rcases Int.lt_or_le b 0 with pb | pb
      · have := Int.mul_pos_of_neg_of_neg pa pb
        rw [decide_eq_true pa, decide_eq_true pb, decide_eq_false (by omega)]; rfl
      · have := Int.mul_neg_of_neg_of_pos pa (show 0 < b by omega)
        rw [decide_eq_true pa, decide_eq_false (show ¬ b < 0 by omega), decide_eq_true (by omega)]; rfl
      · have := Int.mul_neg_of_pos_of_neg (show 0 < a by omega) pb
        rw [decide_eq_false (show ¬ a < 0 by omega), decide_eq_true pb, decide_eq_true (by omega)]; rfl
      · have := Int.mul_pos (show 0 < a by omega) (show 0 < b by omega)
        rw [decide_eq_false (show ¬ a < 0 by omega), decide_eq_false (show ¬ b < 0 by omega), decide_eq_false (by omega)]; rfl
    rw [e]

theorem over_rok (m a b n : Int) : Mth.rok m (decide (a * b < 0)) (rq (psq a b) n) (rr (psq a b) n) = Mth.rok m (sg a b) (rq (psq a b) n) (rr (psq a b) n) := by
  unfold Mth.rok; rw [over_sign]
theorem over_rv (m a b n : Int) : Mth.rv m (decide (a * b < 0)) (rq (psq a b) n) (rr (psq a b) n) = Mth.rv m (sg a b) (rq (psq a b) n) (rr (psq a b) n) := by
  unfold Mth.rv; rw [over_rok, over_sign]

end Go.Proofs.Ytlfkgnpbpmejkaa
