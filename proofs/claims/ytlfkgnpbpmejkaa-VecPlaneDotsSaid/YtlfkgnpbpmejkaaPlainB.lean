
/- Plain facts on Over: a square under the root, and the range of its results. -/
import Derived.Test.YtlfkgnpbpmejkaaRefI
set_option linter.unusedVariables false
set_option linter.unusedSimpArgs false
namespace Go.Proofs.Ytlfkgnpbpmejkaa
open Go.RowKit

theorem rr_uniq {ex : Bool} {h k r s : Int} (h1 : RR ex h r) (h2 : RR ex k s) (e : h = k) : r = s := by
  subst e
  rcases h1 with ⟨a, b, c⟩ | ⟨a, b⟩ <;> rcases h2 with ⟨a', b', c'⟩ | ⟨a', b'⟩
  · omega
  · rw [a] at a'; contradiction
  · rw [a] at a'; contradiction
  · omega

theorem cmp_sq (x y : Int) (hx : 0 ≤ x) (hy : 0 ≤ y) : cmpI (x * x) (y * y) = cmpI x y := by
  unfold cmpI
  rcases Int.lt_trichotomy x y with h | h | h
  · have : x * x < y * y := by
      have m1 := Int.mul_le_mul_of_nonneg_left (show x ≤ y by omega) hx
      have m2 := Int.mul_lt_mul_of_pos_right h (show 0 < y by omega)
      omega
    rw [if_pos this, if_pos h]
  · subst h; rw [if_neg (by omega), if_pos rfl, if_neg (by omega), if_pos rfl]
  · have : y * y < x * x := by
      have m1 := Int.mul_le_mul_of_nonneg_left (show y ≤ x by omega) hy
      have m2 := Int.mul_lt_mul_of_pos_right h (show 0 < x by omega)
      omega
    rw [if_neg (by omega), if_neg (by omega), if_neg (by omega), if_neg (by omega)]

theorem rnd_bound (m : Int) (neg : Bool) (q r : Int) (h : 0 ≤ q) : -(q + 1) ≤ Mth.rnd m neg q r ∧ Mth.rnd m neg q r ≤ q + 1 := by
  unfold Mth.rnd
  cases neg <;> simp <;> split <;> omega

theorem mag_31 {a : Int} (h1 : -2147483648 ≤ a) (h2 : a ≤ 2147483648) : Mth.mag a ≤ 2147483648 := by unfold Mth.mag; split <;> omega

theorem ov_ok (a b n m : Int) (a1 : -2147483648 ≤ a) (a2 : a ≤ 2147483648) (b1 : -2147483648 ≤ b) (b2 : b ≤ 2147483648) (n1 : 1 ≤ n) (n2 : n ≤ 4611686018427387904) (m0 : 0 ≤ m) (m2 : m ≤ 2) :
    ovok a b n m = true ∧ ovv a b n m = Mth.rnd m (sg a b) (rq (psq a b) n) (rr (psq a b) n) := by
  have ma := mag_31 a1 a2
  have mb := mag_31 b1 b2
  have na := Mth.mag_nonneg a
  have nb := Mth.mag_nonneg b
  have nbad : ¬ OvBad a b n := by unfold OvBad; omega
  have f0 : 0 ≤ Mth.mag a * Mth.mag b := Int.mul_nonneg na nb
  have f1 : Mth.mag a * Mth.mag b ≤ 2147483648 * 2147483648 := Int.mul_le_mul ma mb nb (by omega)
  have p0 : 0 ≤ psq a b := Int.mul_nonneg f0 f0
  have p1 : psq a b ≤ 2147483648 * 2147483648 * (2147483648 * 2147483648) := Int.mul_le_mul f1 f1 f0 (by omega)
  have q0 : 0 ≤ rq (psq a b) n := Mth.rt_nonneg _
  have q1 : rq (psq a b) n ≤ 4611686018427387904 := by
    have h0 := Int.ediv_nonneg p0 (show 0 ≤ n by omega)
    have h1 : psq a b / n ≤ psq a b := by
      have d := Int.emod_add_mul_ediv (psq a b) n
      have := Int.emod_nonneg (psq a b) (show n ≠ 0 by omega)
      have := Int.mul_le_mul_of_nonneg_right (show 1 ≤ n by omega) h0
      omega
    have s := Mth.rt_spec (psq a b / n) h0
    exact Mth.isq_le_of (r := Mth.rt (psq a b / n)) (Mth.rt_nonneg _) (by omega) (by omega)
  have bd := rnd_bound m (sg a b) (rq (psq a b) n) (rr (psq a b) n) q0
  have rk := rok_true m (sg a b) (rq (psq a b) n) (rr (psq a b) n) _ m0 m2 rfl (by omega) (by omega)
  unfold ovok ovv
  rw [if_neg nbad, if_neg nbad, rk.1, rk.2]
  exact ⟨rfl, rfl⟩

theorem squares_plain (a b k m : Int) (a1 : -2147483648 ≤ a) (a2 : a ≤ 2147483648) (b1 : -2147483648 ≤ b) (b2 : b ≤ 2147483648) (k1 : 1 ≤ k) (k2 : k ≤ 2147483648) (m0 : 0 ≤ m) (m2 : m ≤ 2) :
    ovok a b (k * k) m = true ∧ mdok a b k m = true ∧ ovv a b (k * k) m = mdv a b k m := by
  have ma := mag_31 a1 a2
  have mb := mag_31 b1 b2
  have na := Mth.mag_nonneg a
  have nb := Mth.mag_nonneg b
  have gk : Mth.mag k = k := if_neg (by omega)
  have kk1 : 1 * 1 ≤ k * k := Int.mul_le_mul k1 k1 (by omega) (by omega)
  have kk2 : k * k ≤ 2147483648 * 2147483648 := Int.mul_le_mul k2 k2 (by omega) (by omega)
  obtain ⟨o1, o2⟩ := ov_ok a b (k * k) m a1 a2 b1 b2 (by omega) (by omega) m0 m2
  have f0 : 0 ≤ Mth.mag a * Mth.mag b := Int.mul_nonneg na nb
  have f1 : Mth.mag a * Mth.mag b ≤ 2147483648 * 2147483648 := Int.mul_le_mul ma mb nb (by omega)
  have hc : k ≠ 0 := by omega
  have ps : psq a b = Mth.mag a * Mth.mag b * (Mth.mag a * Mth.mag b) := rfl
  have mqd : mq a b k = Mth.mag a * Mth.mag b / k := by unfold mq; rw [gk]
  have q0 : 0 ≤ Mth.mag a * Mth.mag b / k := Int.ediv_nonneg f0 (by omega)
  have qs : Mth.mag a * Mth.mag b / k ≤ 4611686018427387904 := by
    have d := Int.emod_add_mul_ediv (Mth.mag a * Mth.mag b) k
    have := Int.emod_nonneg (Mth.mag a * Mth.mag b) (show k ≠ 0 by omega)
    have := Int.mul_le_mul_of_nonneg_right (show 1 ≤ k by omega) q0
    omega
  have tl := rest_told a b k hc (by rw [gk]; omega)
  have qbe : qb (Mth.mag a * Mth.mag b) k = Mth.mag a * Mth.mag b / k := if_pos (by omega)
  rw [gk, qbe] at tl
  have sgn : ng a b k = sg a b := by unfold ng sg; rw [decide_eq_false (show ¬ k < 0 by omega)]; simp
  have p0 : 0 ≤ psq a b := by rw [ps]; exact Int.mul_nonneg f0 f0
  have ro := rest_over (psq a b) (k * k) p0 (by omega)
  have d := Int.emod_add_mul_ediv (Mth.mag a * Mth.mag b) k
  have s0 := Int.emod_nonneg (Mth.mag a * Mth.mag b) (show k ≠ 0 by omega)
  have s1 := Int.emod_lt_of_pos (Mth.mag a * Mth.mag b) (show 0 < k by omega)
  rw [ps] at ro o2
  generalize Mth.mag a * Mth.mag b = P at *
  -- the roots are the same
  have le1 : P / k * k ≤ P := by rw [Int.mul_comm]; omega
  have lt1 : P < (P / k + 1) * k := by rw [Int.add_mul, Int.one_mul, Int.mul_comm]; omega
  have qk0 : 0 ≤ P / k * k := Int.mul_nonneg q0 (by omega)
  have rqe : rq (P * P) (k * k) = P / k := by
    unfold rq
    refine Mth.rt_uniq _ _ q0 ?_ ?_
    · rw [Int.le_ediv_iff_mul_le (by omega)]
      have e : P / k * (P / k) * (k * k) = P / k * k * (P / k * k) := by
        rw [Int.mul_assoc, Int.mul_left_comm (P / k) k k, ← Int.mul_assoc]
      rw [e]
      exact Int.mul_le_mul le1 le1 qk0 f0
    · rw [Int.ediv_lt_iff_lt_mul (by omega)]
      have e : (P / k + 1) * (P / k + 1) * (k * k) = (P / k + 1) * k * ((P / k + 1) * k) := by
        rw [Int.mul_assoc, Int.mul_left_comm (P / k + 1) k k, ← Int.mul_assoc]
      rw [e]
      have m1 := Int.mul_le_mul_of_nonneg_left (show P ≤ (P / k + 1) * k by omega) f0
      have m2 := Int.mul_lt_mul_of_pos_right lt1 (show 0 < (P / k + 1) * k by omega)
      omega
  have rre : rr (P * P) (k * k) = mr a b k := by
    rw [rqe] at ro
    have e1 : P / k * (P / k) * (k * k) = P / k * k * (P / k * k) := by
      rw [Int.mul_assoc, Int.mul_left_comm (P / k) k k, ← Int.mul_assoc]
    have e2 : 4 * (P * P) = (P + P) * (P + P) := by simp only [Int.add_mul, Int.mul_add]; omega
    have e3 : (2 * (P / k) + 1) * (2 * (P / k) + 1) * (k * k) = (P / k * k + P / k * k + k) * (P / k * k + P / k * k + k) := by
      have : P / k * k + P / k * k + k = (2 * (P / k) + 1) * k := by rw [Int.add_mul, Int.one_mul, Int.mul_assoc]; omega
      rw [this, Int.mul_assoc, Int.mul_left_comm (2 * (P / k) + 1) k k, ← Int.mul_assoc]
    rw [e1, e2, e3, cmp_sq _ _ qk0 f0, cmp_sq _ _ (by omega) (by omega)] at ro
    have c : decide (cmpI (P / k * k) P = 0) = decide (cmpI P (P / k * k) = 0) := by
      rw [decide_eq_decide, cmpI_zero, cmpI_zero]; exact eq_comm
    rw [c] at ro
    exact rr_uniq ro tl rfl
  rw [rqe, rre] at o2
  have bd := rnd_bound m (sg a b) (P / k) (mr a b k) q0
  have rk := rok_true m (ng a b k) (mq a b k) (mr a b k) _ m0 m2 rfl (by rw [mqd, sgn]; omega) (by rw [mqd, sgn]; omega)
  refine ⟨o1, ?_, ?_⟩
  · unfold mdok; rw [if_neg hc]; exact rk.2
  · rw [o2]; unfold mdv; rw [if_neg hc, rk.1, mqd, sgn]

end Go.Proofs.Ytlfkgnpbpmejkaa
