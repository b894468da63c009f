
/- Plain facts on rounded quotients and roots. -/
import Derived.Test.YtijakijjeoaikaaCore
set_option linter.unusedVariables false
set_option linter.unusedSimpArgs false
namespace Go.Proofs.Ytijakijjeoaikaa
open Go.RowKit

theorem rok_bad (m : Int) (neg : Bool) (q r : Int) (h : m < 0 ∨ 2 < m) : Mth.rv m neg q r = 0 ∧ Mth.rok m neg q r = false := by
  have e1 : Mth.rok m neg q r = false := by unfold Mth.rok; rw [decide_eq_false (by omega)]; rfl
  exact ⟨by unfold Mth.rv; rw [e1]; rfl, e1⟩

theorem md_bad (a b c m : Int) (h : m < 0 ∨ 2 < m) : mdv a b c m = 0 ∧ mdok a b c m = false := by
  obtain ⟨h1, h2⟩ := rok_bad m (ng a b c) (mq a b c) (mr a b c) h
  unfold mdv mdok; rw [h1, h2]; simp
theorem rt_bad (a b m : Int) (h : m < 0 ∨ 2 < m) : rtv a b m = 0 ∧ rtok a b m = false := by
  obtain ⟨h1, h2⟩ := rok_bad m false (rq (a * b) 1) (rr (a * b) 1) h
  unfold rtv rtok; rw [h1, h2]; simp
theorem ov_bad (a b n m : Int) (h : m < 0 ∨ 2 < m) : ovv a b n m = 0 ∧ ovok a b n m = false := by
  obtain ⟨h1, h2⟩ := rok_bad m (sg a b) (rq (psq a b) n) (rr (psq a b) n) h
  unfold ovv ovok; rw [h1, h2]; simp
theorem md_zero (a b m : Int) : mdv a b 0 m = 0 ∧ mdok a b 0 m = false := ⟨if_pos rfl, if_pos rfl⟩
theorem ov_big (a b n m : Int) (h : 2147483648 < Mth.mag a) : ovv a b n m = 0 ∧ ovok a b n m = false := ⟨if_pos (.inl h), if_pos (.inl h)⟩

/-! ### a rounded number and its neighbours -/

theorem rv_ok {m : Int} {neg : Bool} {q r : Int} (h : Mth.rok m neg q r = true) : Mth.rv m neg q r = Mth.rnd m neg q r := by unfold Mth.rv; rw [h]; rfl

theorem rnd_exact (m : Int) (neg : Bool) (q : Int) : Mth.rnd m neg q 0 = if neg then -q else q := by
  unfold Mth.rnd Mth.away
  cases neg <;> simp <;> split <;> simp

theorem rnd_pair (neg : Bool) (q r : Int) : (r = 0 → Mth.rnd 0 neg q r = Mth.rnd 1 neg q r ∧ Mth.rnd 2 neg q r = Mth.rnd 0 neg q r) ∧
    (r ≠ 0 → Mth.rnd 1 neg q r = Mth.rnd 0 neg q r + 1 ∧ (Mth.rnd 2 neg q r = Mth.rnd 0 neg q r ∨ Mth.rnd 2 neg q r = Mth.rnd 1 neg q r)) := by
  refine ⟨?_, ?_⟩
  · rintro rfl; rw [rnd_exact, rnd_exact, rnd_exact]; exact ⟨rfl, rfl⟩
  · intro h
    unfold Mth.rnd Mth.away
    cases neg
    · refine ⟨by simp [h], ?_⟩
      by_cases c : r = 3 ∨ r = 2
      · right; rcases c with c | c <;> simp [c]
      · left; simp only [not_or] at c; simp [c.1, c.2]
    · refine ⟨by simp [h]; omega, ?_⟩
      by_cases c : r = 3
      · left; simp [c]
      · right; simp [c, h]

/-! ### quotients -/

theorem mag_sign (x : Int) : Mth.mag x = x ∧ 0 ≤ x ∨ Mth.mag x = -x ∧ x < 0 := by
  unfold Mth.mag; split
  · right; exact ⟨rfl, by assumption⟩
  · left; exact ⟨rfl, by omega⟩

theorem mag_pos {c : Int} (h : c ≠ 0) : 0 < Mth.mag c := by unfold Mth.mag; split <;> omega

theorem mr_zero (a b c : Int) : mr a b c = 0 ↔ Mth.mag a * Mth.mag b % Mth.mag c = 0 := by
  unfold mr restQ
  split
  · simp [*]
  · constructor
    · intro h; split at h <;> (try split at h) <;> omega
    · intro h; contradiction

/-- A quotient with its sign and size gives back the product. -/
theorem quo_back (a b c : Int) (hc : c ≠ 0) (h : Mth.mag a * Mth.mag b = mq a b c * Mth.mag c) : (if ng a b c then -(mq a b c) else mq a b c) * c = a * b := by
  have q0 : 0 ≤ mq a b c := Int.ediv_nonneg (Int.mul_nonneg (Mth.mag_nonneg a) (Mth.mag_nonneg b)) (Mth.mag_nonneg c)
  generalize mq a b c = q at *
  unfold ng
  unfold Mth.mag at h
  by_cases ca : a < 0 <;> by_cases cb : b < 0 <;> by_cases cc : c < 0 <;> simp [ca, cb, cc] at h ⊢ <;> (try simp only [Int.neg_mul, Int.mul_neg] at h) <;> (try simp only [Int.neg_mul, Int.mul_neg]) <;> omega

theorem md_ok {a b c m : Int} (h : mdok a b c m = true) : c ≠ 0 ∧ mdv a b c m = Mth.rnd m (ng a b c) (mq a b c) (mr a b c) := by
  by_cases hc : c = 0
  · unfold mdok at h; rw [if_pos hc] at h; contradiction
  · unfold mdok at h; rw [if_neg hc] at h
    exact ⟨hc, by unfold mdv; rw [if_neg hc, rv_ok h]⟩

theorem cmpI_zero (x y : Int) : cmpI x y = 0 ↔ x = y := by unfold cmpI; split <;> (try split) <;> omega
theorem cmpI_swap (x y : Int) : cmpI y x = -cmpI x y := by unfold cmpI; split <;> split <;> (try split) <;> (try split) <;> omega
theorem cmpI_range (x y : Int) : -1 ≤ cmpI x y ∧ cmpI x y ≤ 1 := by unfold cmpI; split <;> (try split) <;> omega

/-- The exact quotient, told by a product. -/
theorem exact_iff (a b c : Int) (hc : c ≠ 0) : Mth.rnd 0 (ng a b c) (mq a b c) (mr a b c) * c = a * b ↔ mr a b c = 0 := by
  have d := Int.emod_add_mul_ediv (Mth.mag a * Mth.mag b) (Mth.mag c)
  have pc := mag_pos hc
  constructor
  · intro h
    rw [mr_zero]
    have h2 : Mth.mag (Mth.rnd 0 (ng a b c) (mq a b c) (mr a b c)) * Mth.mag c = Mth.mag a * Mth.mag b := by rw [mag_mul, h, ← mag_mul]
    rw [← h2]
    exact Int.mul_emod_left _ _
  · intro h
    rw [h, rnd_exact]
    rw [mr_zero] at h
    refine quo_back a b c hc ?_
    unfold mq
    have e := Int.mul_comm (Mth.mag c) (Mth.mag a * Mth.mag b / Mth.mag c)
    omega

theorem modes_plain (a b c : Int) (k0 : mdok a b c 0 = true) (k1 : mdok a b c 1 = true) (k2 : mdok a b c 2 = true) :
    (mdv a b c 1 = mdv a b c 0 ∧ mdv a b c 2 = mdv a b c 0 ∧ cmpI (mdv a b c 0 * c) (a * b) = 0) ∨
    (mdv a b c 1 = mdv a b c 0 + 1 ∧ (mdv a b c 2 = mdv a b c 0 ∨ mdv a b c 2 = mdv a b c 0 + 1) ∧ cmpI (mdv a b c 0 * c) (a * b) ≠ 0) := by
  obtain ⟨hc, e0⟩ := md_ok k0
  obtain ⟨_, e1⟩ := md_ok k1
  obtain ⟨_, e2⟩ := md_ok k2
  have x := exact_iff a b c hc
  obtain ⟨p1, p2⟩ := rnd_pair (ng a b c) (mq a b c) (mr a b c)
  rw [e0, e1, e2, Ne, cmpI_zero]
  by_cases h : mr a b c = 0
  · left; obtain ⟨u, v⟩ := p1 h; exact ⟨u.symm, v, x.2 h⟩
  · right
    obtain ⟨u, v⟩ := p2 h
    exact ⟨u, by omega, fun k => h (x.1 k)⟩

theorem md_range {a b c m : Int} (h : mdok a b c m = true) : -9223372036854775808 ≤ mdv a b c m ∧ mdv a b c m ≤ 9223372036854775807 := by
  obtain ⟨hc, e⟩ := md_ok h
  unfold mdok at h; rw [if_neg hc] at h
  unfold Mth.rok at h
  rw [e]
  simp only [Bool.and_eq_true, decide_eq_true_eq] at h
  exact h.2

/-! ### the negated numerator -/

theorem ng_neg (a b c : Int) (ha : a ≠ 0) : ng (-a) b c = !ng a b c := by
  unfold ng
  have : decide (-a < 0) = !decide (a < 0) := by
    by_cases h : a < 0
    · rw [decide_eq_true h, decide_eq_false (by omega)]; rfl
    · rw [decide_eq_false h, decide_eq_true (by omega)]; rfl
  rw [this]
  cases decide (a < 0) <;> cases decide (b < 0) <;> cases decide (c < 0) <;> rfl

theorem mag_neg (a : Int) : Mth.mag (-a) = Mth.mag a := by unfold Mth.mag; split <;> split <;> omega

theorem neg_plain (a b c : Int) (k0 : mdok (-a) b c 0 = true) (k1 : mdok a b c 1 = true) : mdv a b c 1 = -mdv (-a) b c 0 := by
  obtain ⟨hc, e0⟩ := md_ok k0
  obtain ⟨_, e1⟩ := md_ok k1
  have f1 : mq (-a) b c = mq a b c := by unfold mq; rw [mag_neg]
  have f2 : mr (-a) b c = mr a b c := by unfold mr; rw [mag_neg]
  rw [e0, e1, f1, f2]
  by_cases ha : a = 0
  · subst ha
    have z : mq 0 b c = 0 := by unfold mq; simp [Mth.mag]
    have y : mr 0 b c = 0 := by rw [mr_zero]; simp [Mth.mag]
    rw [z, y, rnd_exact, rnd_exact]; simp
  · rw [ng_neg a b c ha]
    unfold Mth.rnd Mth.away
    cases ng a b c <;> simp <;> split <;> omega

/-! ### a factor that cancels -/

theorem cancel_plain (a b m : Int) (hb : b ≠ 0) (a1 : -9223372036854775808 ≤ a) (a2 : a ≤ 9223372036854775807) (m0 : 0 ≤ m) (m1 : m ≤ 2) : mdv a b b m = a ∧ mdok a b b m = true := by
  have pb := mag_pos hb
  have q : mq a b b = Mth.mag a := by unfold mq; exact Int.mul_ediv_cancel _ (by omega)
  have r : mr a b b = 0 := by rw [mr_zero]; exact Int.mul_emod_left _ _
  have s : ng a b b = decide (a < 0) := by unfold ng; cases decide (a < 0) <;> cases decide (b < 0) <;> rfl
  have v : Mth.rnd m (ng a b b) (mq a b b) (mr a b b) = a := by
    rw [q, r, s, rnd_exact]; unfold Mth.mag; by_cases h : a < 0 <;> simp [h]
  obtain ⟨x, y⟩ := rok_true m (ng a b b) (mq a b b) (mr a b b) a m0 m1 v a1 a2
  unfold mdv mdok
  rw [if_neg hb, if_neg hb, x, y]
  exact ⟨rfl, rfl⟩

/-! ### roots -/

theorem rq_one (N : Int) : rq N 1 = Mth.rt N := by unfold rq; rw [Int.ediv_one]
theorem rr_one (N : Int) (h : 0 ≤ N) : rr N 1 = if N = Mth.rt N * Mth.rt N then 0 else if N ≤ Mth.rt N * Mth.rt N + Mth.rt N then 1 else 3 := by
  have s := Mth.rt_spec N h
  unfold rr restR
  rw [Int.ediv_one, Int.emod_one]
  generalize Mth.rt N * Mth.rt N = S at *
  generalize Mth.rt N = r at *
  by_cases c : N = S
  · rw [if_pos (by omega), if_pos c]
  · rw [if_neg (by omega), if_neg c]
    by_cases d : N ≤ S + r
    · rw [if_pos (by omega), if_pos d]
    · rw [if_neg (by omega), if_neg d, if_neg (by omega)]

theorem rt_small (n : Int) (h0 : 0 ≤ n) (h1 : n ≤ 9223372036854775807) : Mth.rt n ≤ 3037000499 := by
  have s := Mth.rt_spec n h0
  exact Mth.isq_le_of (Mth.rt_nonneg n) (by omega) (by omega)

theorem sqrt_plain (n m : Int) (h0 : 0 ≤ n) (h1 : n ≤ 9223372036854775807) (m0 : 0 ≤ m) (m2 : m ≤ 2) :
    rtok n 1 m = true ∧ rtv n 1 m = Mth.rnd m false (Mth.rt n) (rr n 1) := by
  have e : ¬ (n < 0 ∨ (1 : Int) < 0) := by omega
  have q := rt_small n h0 h1
  have q0 := Mth.rt_nonneg n
  have b : 0 ≤ Mth.rnd m false (Mth.rt n) (rr n 1) ∧ Mth.rnd m false (Mth.rt n) (rr n 1) ≤ 3037000500 := by
    unfold Mth.rnd; simp only [Bool.false_eq_true, if_false]; split <;> omega
  have rk := rok_true m false (Mth.rt n) (rr n 1) _ m0 m2 rfl (by omega) (by omega)
  unfold rtok rtv
  rw [if_neg e, if_neg e, Int.mul_one, rq_one, rk.1, rk.2]
  exact ⟨rfl, rfl⟩

theorem rt_square (a : Int) (h : 0 ≤ a) : Mth.rt (a * a) = a :=
  Mth.rt_uniq _ _ h (Int.le_refl _) (by simp only [Int.add_mul, Int.mul_add]; omega)

theorem root_square (a m : Int) (h : 0 ≤ a) (h1 : a ≤ 9223372036854775807) (m0 : 0 ≤ m) (m2 : m ≤ 2) : rtok a a m = true ∧ rtv a a m = a := by
  have e : ¬ (a < 0 ∨ a < 0) := by omega
  have r : rr (a * a) 1 = 0 := by rw [rr_one _ (Int.mul_nonneg h h), rt_square a h, if_pos rfl]
  have v : Mth.rnd m false (Mth.rt (a * a)) (rr (a * a) 1) = a := by rw [r, rnd_exact, rt_square a h]; rfl
  have rk := rok_true m false (Mth.rt (a * a)) (rr (a * a) 1) a m0 m2 v (by omega) h1
  unfold rtok rtv
  rw [if_neg e, if_neg e, rq_one, rk.1, rk.2]
  exact ⟨rfl, rfl⟩

theorem brackets_plain (n : Int) (h0 : 0 ≤ n) (h1 : n ≤ 9223372036854775807) : ∃ r : Int, 0 ≤ r ∧ r ≤ 3037000499 ∧ rtv n 1 0 = r ∧ cmpI (r * r) (n * 1) ≤ 0 ∧ 0 < cmpI ((r + 1) * (r + 1)) (n * 1) ∧
    (rtv n 1 1 = r ∧ rtv n 1 2 = r ∧ 0 ≤ cmpI (r * r) (n * 1) ∨ rtv n 1 1 = r + 1 ∧ (rtv n 1 2 = r ∨ rtv n 1 2 = r + 1)) := by
  have s := Mth.rt_spec n h0
  have z := rr_one n h0
  obtain ⟨p1, p2⟩ := rnd_pair false (Mth.rt n) (rr n 1)
  have e0 := (sqrt_plain n 0 h0 h1 (by omega) (by omega)).2
  have e1 := (sqrt_plain n 1 h0 h1 (by omega) (by omega)).2
  have e2 := (sqrt_plain n 2 h0 h1 (by omega) (by omega)).2
  have v0 : Mth.rnd 0 false (Mth.rt n) (rr n 1) = Mth.rt n := by unfold Mth.rnd Mth.away; simp
  refine ⟨Mth.rt n, Mth.rt_nonneg n, rt_small n h0 h1, by rw [e0, v0], ?_, ?_, ?_⟩
  · unfold cmpI; split <;> (try split) <;> omega
  · unfold cmpI; split <;> (try split) <;> omega
  · rw [e1, e2]
    rw [v0] at p1 p2
    by_cases c : rr n 1 = 0
    · left
      obtain ⟨u, v⟩ := p1 c
      refine ⟨u.symm, v, ?_⟩
      rw [c] at z
      have : n = Mth.rt n * Mth.rt n := by
        by_cases d : n = Mth.rt n * Mth.rt n
        · exact d
        · rw [if_neg d] at z; split at z <;> omega
      unfold cmpI; split <;> (try split) <;> omega
    · right
      obtain ⟨u, v⟩ := p2 c
      exact ⟨u, by omega⟩

/-! ### equal factors -/

theorem order_plain (a b c : Int) : (a = 0 ∨ b = c → cmpI (a * b) (a * c) = 0) ∧ (a ≠ 0 → b ≠ c → (decide (0 < a) = decide (c < b)) → cmpI (a * b) (a * c) = 1) ∧ (a ≠ 0 → b ≠ c → (decide (0 < a) ≠ decide (c < b)) → cmpI (a * b) (a * c) = -1) := by
  refine ⟨?_, ?_, ?_⟩
  · rintro (rfl | rfl)
    · simp [cmpI_zero]
    · rw [cmpI_zero]
  · intro ha hb h
    have : a * c < a * b := by
      rcases Int.lt_or_le 0 a with p | p
      · rw [decide_eq_true p] at h
        exact Int.mul_lt_mul_of_pos_left (of_decide_eq_true h.symm) p
      · rw [decide_eq_false (by omega)] at h
        have hbc : ¬ c < b := of_decide_eq_false h.symm
        have := Int.mul_lt_mul_of_neg_left (show b < c by omega) (show a < 0 by omega)
        omega
    unfold cmpI; rw [if_neg (by omega), if_neg (by omega)]
  · intro ha hb h
    have : a * b < a * c := by
      rcases Int.lt_or_le 0 a with p | p
      · rw [decide_eq_true p] at h
        have hbc : ¬ c < b := fun k => h (decide_eq_true k).symm
        exact Int.mul_lt_mul_of_pos_left (show b < c by omega) p
      · rw [decide_eq_false (by omega)] at h
        have hbc : c < b := by
          by_cases k : c < b
          · exact k
          · exact absurd (decide_eq_false k).symm h
        exact Int.mul_lt_mul_of_neg_left hbc (by omega)
    unfold cmpI; rw [if_pos this]

end Go.Proofs.Ytijakijjeoaikaa
