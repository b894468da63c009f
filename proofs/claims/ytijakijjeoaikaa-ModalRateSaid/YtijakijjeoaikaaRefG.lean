
/- The walk of MulDiv of the specification of layer 1. -/
import Derived.Test.YtijakijjeoaikaaRefF
set_option linter.unusedVariables false
set_option linter.unusedSimpArgs false
namespace Go.Proofs.Ytijakijjeoaikaa
open Go.RowKit

/-! ### a number is found bit by bit -/

/-- The bits of R from bit k on are those of q. -/
def BitK (R : Int) (k : Nat) (q : Int) : Prop := 0 ≤ q ∧ q ≤ R ∧ R < q + 2 ^ k ∧ ∃ m : Nat, q = 2 ^ k * (m : Int)

theorem bit_start (R : Int) (k : Nat) (h0 : 0 ≤ R) (h1 : R < 2 ^ k) : BitK R k 0 := ⟨Int.le_refl _, h0, by omega, 0, by simp⟩
theorem bit_end {R q : Int} (h : BitK R 0 q) : q = R := by
  obtain ⟨_, h1, h2, _⟩ := h
  simp at h2
  omega
theorem bit_yes {R q : Int} {j : Nat} (h : BitK R (j + 1) q) (c : q + 2 ^ j ≤ R) : BitK R j (q + 2 ^ j) := by
  obtain ⟨h0, h1, h2, m, h3⟩ := h
  have p : (0 : Int) < 2 ^ j := Int.pow_pos (by decide)
  have e : (2 : Int) ^ (j + 1) = 2 ^ j * 2 := Int.pow_succ _ _
  rw [e] at h2 h3
  refine ⟨by omega, c, by omega, 2 * m + 1, ?_⟩
  rw [h3, Int.mul_assoc, show ((2 * m + 1 : Nat) : Int) = 2 * (m : Int) + 1 from by omega, Int.mul_add, Int.mul_one]
theorem bit_no {R q : Int} {j : Nat} (h : BitK R (j + 1) q) (c : ¬ q + 2 ^ j ≤ R) : BitK R j q := by
  obtain ⟨h0, h1, h2, m, h3⟩ := h
  have e : (2 : Int) ^ (j + 1) = 2 ^ j * 2 := Int.pow_succ _ _
  rw [e] at h2 h3
  refine ⟨h0, h1, by omega, 2 * m, ?_⟩
  rw [h3, Int.mul_assoc, show ((2 * m : Nat) : Int) = 2 * (m : Int) from by omega]
theorem bit_or {R q : Int} {j : Nat} (h : BitK R (j + 1) q) (hj : j < 64) (hb : q + 2 ^ j < 18446744073709551616) : bits .or .u64 q (2 ^ j) = q + 2 ^ j := by
  obtain ⟨h0, h1, h2, m, h3⟩ := h
  have p : (0 : Int) < 2 ^ j := Int.pow_pos (by decide)
  have ep : ((2 : Int) ^ j) = ((2 ^ j : Nat) : Int) := (Int.natCast_pow 2 _).symm
  have eq : q = ((2 ^ (j + 1) * m : Nat) : Int) := by rw [h3, Int.natCast_mul, Int.natCast_pow]; rfl
  have lt : 2 ^ j < 2 ^ (j + 1) := Nat.pow_lt_pow_right (by decide) (by omega)
  have t := Nat.two_pow_add_eq_or_of_lt lt m
  rw [ep] at hb p ⊢
  rw [eq] at hb ⊢
  have o := bits_or_u64_nat (2 ^ (j + 1) * m) (2 ^ j) (by omega) (by omega)
  rw [o, ← t]
  omega
theorem bit_room {R q : Int} {j : Nat} (h : BitK R (j + 1) q) (n : Nat) (hn : j < n) (hR : R < 2 ^ n) : q + 2 ^ j < 2 ^ n := by
  obtain ⟨h0, h1, h2, m, h3⟩ := h
  obtain ⟨d, rfl⟩ : ∃ d, n = j + 1 + d := ⟨n - (j + 1), by omega⟩
  have e : (2 : Int) ^ (j + 1 + d) = 2 ^ (j + 1) * 2 ^ d := Int.pow_add _ _ _
  have p : (0 : Int) < 2 ^ (j + 1) := Int.pow_pos (by decide)
  have pj : (0 : Int) < 2 ^ j := Int.pow_pos (by decide)
  have e2 : (2 : Int) ^ (j + 1) = 2 ^ j * 2 := Int.pow_succ _ _
  have lt : (m : Int) < 2 ^ d := by
    have : 2 ^ (j + 1) * (m : Int) < 2 ^ (j + 1) * 2 ^ d := by rw [← h3, ← e]; omega
    exact Int.lt_of_mul_lt_mul_left this (Int.le_of_lt p)
  have le : 2 ^ (j + 1) * ((m : Int) + 1) ≤ 2 ^ (j + 1) * 2 ^ d := Int.mul_le_mul_of_nonneg_left (by omega) (Int.le_of_lt p)
  rw [Int.mul_add, Int.mul_one, ← h3, ← e] at le
  omega

/-! ### MulDiv -/

theorem cmpI_le (x y : Int) : cmpI x y ≤ 0 ↔ x ≤ y := by unfold cmpI; split <;> (try split) <;> omega
theorem cmpI_gt (x y : Int) : 0 < cmpI x y ↔ y < x := by unfold cmpI; split <;> (try split) <;> omega
theorem cmpI_lt (x y : Int) : cmpI x y < 0 ↔ x < y := by unfold cmpI; split <;> (try split) <;> omega

/-- The bounded quotient. -/
def qb (X D : Int) : Int := if X / D < 18446744073709551616 then X / D else 18446744073709551615

theorem qb_range (X D : Int) (hX : 0 ≤ X) (hD : 0 < D) : 0 ≤ qb X D ∧ qb X D < 18446744073709551616 := by
  have := Int.ediv_nonneg hX (Int.le_of_lt hD)
  unfold qb; split <;> omega
theorem qb_test (X D q : Int) (hD : 0 < D) (hq : q < 18446744073709551616) : cmpI (q * D) X ≤ 0 ↔ q ≤ qb X D := by
  rw [cmpI_le, ← Int.le_ediv_iff_mul_le hD]
  unfold qb; split <;> omega

theorem sgn_lt (a b : Int) : decide (sgnI a b < 0) = decide (a * b < 0) := by
  rw [sgn_cmp]
  by_cases h : a * b < 0
  · rw [decide_eq_true h, decide_eq_true ((cmpI_lt _ _).2 h)]
  · rw [decide_eq_false h, decide_eq_false (fun k => h ((cmpI_lt _ _).1 k))]

/-- The sign of a quotient, told by the sign of the product. -/
theorem rnd_sign (m a b c : Int) (hc : c ≠ 0) : Mth.rnd m (decide (a * b < 0) != decide (c < 0)) (mq a b c) (mr a b c) = Mth.rnd m (ng a b c) (mq a b c) (mr a b c) := by
  by_cases z : a * b = 0
  · have e : Mth.mag a * Mth.mag b = 0 := by rw [mag_mul, z]; rfl
    have q : mq a b c = 0 := by unfold mq; rw [e]; exact Int.zero_ediv _
    have r : mr a b c = 0 := by rw [mr_zero, e]; exact Int.zero_emod _
    rw [q, r, rnd_exact, rnd_exact]; simp
  · have e : decide (a * b < 0) = (decide (a < 0) != decide (b < 0)) := by
      have ha : a ≠ 0 := fun h => z (by rw [h]; simp)
      have hb : b ≠ 0 := fun h => z (by rw [h]; simp)
      rcases Int.lt_or_le a 0 with pa | pa <;> rcases Int.lt_or_le b 0 with pb | pb
      · have := Int.mul_pos_of_neg_of_neg pa pb
        rw [decide_eq_true pa, decide_eq_true pb, decide_eq_false (by omega)]; rfl
      · have := Int.mul_neg_of_neg_of_pos pa (show 0 < b by omega)
        rw [decide_eq_true pa, decide_eq_false (show ¬ b < 0 by omega), decide_eq_true (by omega)]; rfl
      · have := Int.mul_neg_of_pos_of_neg (show 0 < a by omega) pb
        rw [decide_eq_false (show ¬ a < 0 by omega), decide_eq_true pb, decide_eq_true (by omega)]; rfl
      · have := Int.mul_pos (show 0 < a by omega) (show 0 < b by omega)
        rw [decide_eq_false (show ¬ a < 0 by omega), decide_eq_false (show ¬ b < 0 by omega), decide_eq_false (by omega)]; rfl
    unfold ng; rw [e]

theorem rok_sign (m a b c : Int) (hc : c ≠ 0) : Mth.rok m (decide (a * b < 0) != decide (c < 0)) (mq a b c) (mr a b c) = Mth.rok m (ng a b c) (mq a b c) (mr a b c) := by
  unfold Mth.rok; rw [rnd_sign m a b c hc]
theorem rv_sign (m a b c : Int) (hc : c ≠ 0) : Mth.rv m (decide (a * b < 0) != decide (c < 0)) (mq a b c) (mr a b c) = Mth.rv m (ng a b c) (mq a b c) (mr a b c) := by
  unfold Mth.rv; rw [rok_sign m a b c hc, rnd_sign m a b c hc]

/-- The rest of a quotient, as the specification tells it. -/
theorem rest_told (a b c : Int) (hc : c ≠ 0) (hs : Mth.mag a * Mth.mag b / Mth.mag c < 18446744073709551616) :
    RR (decide (cmpI (Mth.mag a * Mth.mag b) (qb (Mth.mag a * Mth.mag b) (Mth.mag c) * Mth.mag c) = 0))
      (cmpI (Mth.mag a * Mth.mag b + Mth.mag a * Mth.mag b) (qb (Mth.mag a * Mth.mag b) (Mth.mag c) * Mth.mag c + qb (Mth.mag a * Mth.mag b) (Mth.mag c) * Mth.mag c + Mth.mag c)) (mr a b c) := by
  have pc := mag_pos hc
  have e : qb (Mth.mag a * Mth.mag b) (Mth.mag c) = Mth.mag a * Mth.mag b / Mth.mag c := if_pos hs
  rw [e]
  have d := Int.emod_add_mul_ediv (Mth.mag a * Mth.mag b) (Mth.mag c)
  have m0 := Int.emod_nonneg (Mth.mag a * Mth.mag b) (show Mth.mag c ≠ 0 by omega)
  have m1 := Int.emod_lt_of_pos (Mth.mag a * Mth.mag b) pc
  have k := Int.mul_comm (Mth.mag c) (Mth.mag a * Mth.mag b / Mth.mag c)
  unfold mr
  generalize Mth.mag a * Mth.mag b / Mth.mag c * Mth.mag c = Y at *
  generalize Mth.mag a * Mth.mag b % Mth.mag c = r at *
  generalize Mth.mag a * Mth.mag b = X at *
  generalize Mth.mag c = D at *
  have c1 := cmpI_zero X Y
  have c2 := cmpI_lt (X + X) (Y + Y + D)
  have c3 := cmpI_gt (X + X) (Y + Y + D)
  have c4 := cmpI_zero (X + X) (Y + Y + D)
  unfold RR restQ
  by_cases z : r = 0
  · left; exact ⟨decide_eq_true (c1.2 (by omega)), c2.2 (by omega), if_pos z⟩
  · right
    refine ⟨decide_eq_false (fun h => z (by have := c1.1 h; omega)), ?_⟩
    rw [if_neg z]
    by_cases l : r < D - r
    · left; exact ⟨c2.2 (by omega), if_pos l⟩
    · rw [if_neg l]
      by_cases e : r = D - r
      · right; left; exact ⟨c4.2 (by omega), if_pos e⟩
      · right; right; exact ⟨c3.2 (by omega), if_neg e⟩

theorem rest_big (X D : Int) (hD : 0 < D) (hX : 0 ≤ X) (hs : ¬ X / D < 18446744073709551616) :
    RR (decide (cmpI X (qb X D * D) = 0)) (cmpI (X + X) (qb X D * D + qb X D * D + D)) 3 := by
  have e : qb X D = 18446744073709551615 := if_neg hs
  rw [e]
  have g : 18446744073709551616 * D ≤ X := (Int.le_ediv_iff_mul_le hD).1 (by omega)
  right
  refine ⟨decide_eq_false (fun h => ?_), .inr (.inr ⟨(cmpI_gt _ _).2 (by omega), rfl⟩)⟩
  have := (cmpI_zero _ _).1 h
  omega

theorem rv_huge (m : Int) (neg : Bool) : Mth.rv m neg 18446744073709551615 3 = 0 ∧ Mth.rok m neg 18446744073709551615 3 = false := by
  refine rok_false m neg _ _ _ rfl ?_
  unfold Mth.rnd
  cases neg
  · right; simp only [Bool.false_eq_true, if_false]; split <;> omega
  · left; simp only [if_true]; split <;> omega

/-- What the specification's last call gives. -/
theorem told (a b c m : Int) (hc : c ≠ 0) (hm0 : 0 ≤ m) (hm : m ≤ 2) (w : World) :
    Calls Try.prog 70 #[.bool (decide (a * b < 0) != decide (c < 0)), .int .u64 (qb (Mth.mag a * Mth.mag b) (Mth.mag c)), .bool (decide (cmpI (Mth.mag a * Mth.mag b) (qb (Mth.mag a * Mth.mag b) (Mth.mag c) * Mth.mag c) = 0)),
      .int .i64 (cmpI (Mth.mag a * Mth.mag b + Mth.mag a * Mth.mag b) (qb (Mth.mag a * Mth.mag b) (Mth.mag c) * Mth.mag c + qb (Mth.mag a * Mth.mag b) (Mth.mag c) * Mth.mag c + Mth.mag c)), .int .i64 m] w fun e w' =>
      e = .returned (.tuple #[.int .i64 (mdv a b c m), .bool (mdok a b c m)]) ∧ w = w' := by
  have pc := mag_pos hc
  have X0 : 0 ≤ Mth.mag a * Mth.mag b := Int.mul_nonneg (Mth.mag_nonneg a) (Mth.mag_nonneg b)
  obtain ⟨q0, q1⟩ := qb_range (Mth.mag a * Mth.mag b) (Mth.mag c) X0 pc
  unfold mdv mdok
  rw [if_neg hc, if_neg hc]
  by_cases hs : Mth.mag a * Mth.mag b / Mth.mag c < 18446744073709551616
  · have t := rest_told a b c hc hs
    have r := refRounded (decide (a * b < 0) != decide (c < 0)) _ _ _ m _ q0 q1 t hm0 hm w
    have e : qb (Mth.mag a * Mth.mag b) (Mth.mag c) = mq a b c := if_pos hs
    rw [e] at r ⊢
    rw [rv_sign m a b c hc, rok_sign m a b c hc] at r
    exact r
  · have t := rest_big (Mth.mag a * Mth.mag b) (Mth.mag c) pc X0 hs
    have r := refRounded (decide (a * b < 0) != decide (c < 0)) _ _ _ m _ q0 q1 t hm0 hm w
    have e : qb (Mth.mag a * Mth.mag b) (Mth.mag c) = 18446744073709551615 := if_neg hs
    rw [e] at r ⊢
    have h := rv_huge m (decide (a * b < 0) != decide (c < 0))
    have g := rok_big m (ng a b c) (mq a b c) (mr a b c) (by unfold mq; omega)
    rw [h.1, h.2] at r
    rw [g.1, g.2]
    exact r

set_option maxHeartbeats 2000000 in
theorem refMulDivW (a b c m : Int) (a1 : -9223372036854775808 ≤ a) (a2 : a ≤ 9223372036854775807) (b1 : -9223372036854775808 ≤ b) (b2 : b ≤ 9223372036854775807)
    (c1 : -9223372036854775808 ≤ c) (c2 : c ≤ 9223372036854775807) (w : World) :
    Calls Try.prog 48 #[.int .i64 a, .int .i64 b, .int .i64 c, .int .i64 m] w fun e w' => e = .returned (.tuple #[.int .i64 (mdv a b c m), .bool (mdok a b c m)]) ∧ Qw w w' := by
  by_cases hc : c = 0
  · subst hc
    rw [(md_zero a b m).1, (md_zero a b m).2]
    go_enter Try.func48, Try.ntmps48
    go_wp2_with fail
    go_ret2
    exact ⟨rfl, Qw.refl _⟩
  have bc : (c == 0) = false := beq_eq_false_iff_ne.2 hc
  by_cases hm : m < 0 ∨ 2 < m
  · rw [(md_bad a b c m hm).1, (md_bad a b c m hm).2]
    have ok : okm m = false := decide_eq_false (by omega)
    clear hm hc
    go_enter Try.func48, Try.ntmps48
    go_wp2_with (go_at_call 63; refine (refRight _ _).mono ?_; rintro e w' ⟨rfl, rfl⟩)
    go_ret2
    exact ⟨rfl, Qw.refl _⟩
  have ok : okm m = true := decide_eq_true (by omega)
  have pc := mag_pos hc
  have tl := fun w => told a b c m hc (by omega) (by omega) w
  have sg' := sgn_lt a b
  have na := Mth.mag_nonneg a
  have nb := Mth.mag_nonneg b
  have mm := mag_mul_le a b a1 a2 b1 b2
  have mn := Int.mul_nonneg na nb
  have mc := Mth.mag_le c c1 c2
  have prod := fun w => refProduct a b a1 a2 b1 b2 w
  generalize mdv a b c m = rv at *
  generalize mdok a b c m = rk at *
  generalize Mth.mag a * Mth.mag b = X at *
  have lc := fun w => refMag c c1 c2 w
  obtain ⟨D, eD⟩ : ∃ D, Mth.mag c = D := ⟨_, rfl⟩
  rw [eD] at pc mc tl lc
  clear eD na nb hc hm
  obtain ⟨q0, q1⟩ := qb_range X D mn pc
  have qt := fun q => qb_test X D q pc
  obtain ⟨T, eT⟩ : ∃ T, qb X D = T := ⟨_, rfl⟩
  rw [eT] at q0 q1 qt tl
  have TD0 : 0 ≤ T * D := Int.mul_nonneg q0 (by omega)
  have TD1 : T * D ≤ 18446744073709551615 * 9223372036854775808 := Int.mul_le_mul (by omega) mc (by omega) (by omega)
  have Tl := Lib.hid tl; have Qt := Lib.hid qt; have Lc := Lib.hid lc; have Pr := Lib.hid prod
  clear tl qt lc prod eT
  go_enter Try.func48, Try.ntmps48
  go_wp2_with (go_at_call 63; refine (refRight _ _).mono ?_; rintro e w' ⟨rfl, rfl⟩)
  refine (Pr.out _).mono ?_
  rintro e w1 ⟨vx, rfl, hx1, hq1⟩
  go_wp2_with fail
  refine (Lc.out _).mono ?_
  rintro e w1 ⟨rfl, rfl⟩
  go_wp2_with fail
  refine (refLimbs D (by omega) (by omega) _).mono ?_
  rintro e w2 ⟨vd, rfl, hd2, hq2⟩
  have hx2 := num_kept hx1 hq2
  have hqb := hq1.trans hq2
  clear hx1 hq1 hq2
  go_wp2_with fail
  go_loopw [12, 13] (fun qq ii wr => ∃ (q i : Int), qq = .int .u64 q ∧ ii = .int .i64 i ∧ -1 ≤ i ∧ i ≤ 63 ∧ BitK T (i + 1).toNat q ∧ Qw w2 wr) (fun _ ii _ => (intOf ii + 1).toNat)
  case atStart => exact ⟨0, 63, rfl, rfl, by decide, by decide, bit_start T 64 q0 (by omega), Qw.refl _⟩
  case round =>
    obtain ⟨q, i, rfl, rfl, i0, i1, hB, hq⟩ := hrel
    have hx3 := num_kept hx2 hq
    have hd3 := num_kept hd2 hq
    by_cases hi : i = -1
    · subst hi
      have eq : q = T := bit_end hB
      subst eq
      clear hB
      go_wp2_with fail
      refine (refLimbs q q0 q1 _).mono ?_
      rintro e w4 ⟨vq, rfl, hn4, hq4⟩
      go_wp2_with fail
      refine (mulN _ _ _ _ _ hn4 (num_kept hd3 hq4) (big_word q1) (big_word (by omega))).mono ?_
      rintro e w5 ⟨vy, rfl, hy5, hq5⟩
      have hx5 := num_kept hx3 (hq4.trans hq5)
      have hd5 := num_kept hd3 (hq4.trans hq5)
      have hqc := (hqb.trans hq).trans (hq4.trans hq5)
      clear hx2 hd2 hx3 hd3 hn4 hq hq4 hq5 hqb
      go_wp2_with fail
      refine (addN _ _ _ _ _ hx5 hx5 (big_two (by omega)) (big_two (by omega))).mono ?_
      rintro e w6 ⟨v6, rfl, h6, hq6⟩
      go_wp2_with fail
      refine (addN _ _ _ _ _ (num_kept hy5 hq6) (num_kept hy5 hq6) (big_two (by omega)) (big_two (by omega))).mono ?_
      rintro e w7 ⟨v7, rfl, h7, hq7⟩
      go_wp2_with fail
      refine (addN _ _ _ _ _ h7 (num_kept hd5 (hq6.trans hq7)) (big_two (by omega)) (big_two (by omega))).mono ?_
      rintro e w8 ⟨v8, rfl, h8, hq8⟩
      go_wp2_with fail
      refine (refCmp _ _ _ _ _ (num_kept h6 (hq7.trans hq8)) h8).mono ?_
      rintro e w9 ⟨rfl, hq9⟩
      have hqd := (hq6.trans hq7).trans (hq8.trans hq9)
      have hx9 := num_kept hx5 hqd
      have hy9 := num_kept hy5 hqd
      have hqe := hqc.trans hqd
      clear hx5 hd5 hy5 h6 h7 h8 hq6 hq7 hq8 hq9 hqc hqd
      go_wp2_with (go_at_call 71; refine (refSign _ _ _).mono ?_; rintro e w' ⟨rfl, rfl⟩)
      refine (refCmp _ _ _ _ _ hx9 hy9).mono ?_
      rintro e w10 ⟨rfl, hq10⟩
      have hqf := hqe.trans hq10
      clear hx9 hy9 hqe hq10
      have fin := Tl.out w10
      rw [show (decide (a * b < 0) != decide (c < 0)) = (!(decide (a * b < 0) == decide (c < 0))) from rfl, show decide (cmpI X (q * D) = 0) = (cmpI X (q * D) == 0) from rfl] at fin
      have Fin := Lib.hid fin
      clear fin
      go_wp2_with fail
      refine Fin.out.mono ?_
      rintro e w11 ⟨rfl, rfl⟩
      go_wp2_with fail
      go_ret2
      exact ⟨rfl, hqf⟩
    · obtain ⟨j, rfl⟩ := Int.eq_ofNat_of_zero_le (show 0 ≤ i by omega)
      have hB' : BitK T (j + 1) q := by rw [show ((j : Int) + 1).toNat = j + 1 from by omega] at hB; exact hB
      have jb : j < 64 := by omega
      have rm := bit_room hB' 64 jb (by omega)
      rw [show (2 : Int) ^ 64 = 18446744073709551616 from by decide] at rm
      have eO := bit_or hB' jb rm
      have yes := bit_yes hB'
      have no := bit_no hB'
      have q00 := hB'.1
      have p0 : (0 : Int) < 2 ^ j := Int.pow_pos (by decide)
      have p1 : 1 ≤ (2 : Int) ^ j := p0
      clear p0
      obtain ⟨P, eP⟩ : ∃ P, (2 : Int) ^ j = P := ⟨_, rfl⟩
      rw [eP] at eO rm yes no p1
      have p2 : P < 18446744073709551616 := by omega
      obtain ⟨N, eN⟩ : ∃ N, q + P = N := ⟨_, rfl⟩
      rw [eN] at eO rm yes no
      have N0 : 0 ≤ N := by omega
      have tst := Qt.out N rm
      have ND0 : 0 ≤ N * D := Int.mul_nonneg N0 (by omega)
      have ND1 : N * D ≤ 18446744073709551615 * 9223372036854775808 := Int.mul_le_mul (by omega) mc (by omega) (by omega)
      have Tst := Lib.hid tst; have Yes := Lib.hid yes; have No := Lib.hid no; have EN := Lib.hid eN
      clear tst yes no eN hB hB' hi
      obtain ⟨K, eK⟩ : ∃ K, cmpI (N * D) X = K := ⟨_, rfl⟩
      rw [eK] at Tst
      have EK := Lib.hid eK
      clear eK
      go_wp2_with fail
      refine (refLimbs N N0 rm _).mono ?_
      rintro e w4 ⟨vq, rfl, hn4, hq4⟩
      go_wp2_with fail
      refine (mulN _ _ _ _ _ hn4 (num_kept hd3 hq4) (big_word rm) (big_word (by omega))).mono ?_
      rintro e w5 ⟨vy, rfl, hy5, hq5⟩
      have hx5 := num_kept hx3 (hq4.trans hq5)
      go_wp2_with fail
      refine (refCmp _ _ _ _ _ hy5 hx5).mono ?_
      rintro e w6 ⟨rfl, hq6⟩
      rw [EK.out]
      have hqr := hq.trans ((hq4.trans hq5).trans hq6)
      clear hx3 hd3 hn4 hy5 hx5 hq hq4 hq5 hq6
      by_cases hk : K ≤ 0
      · have dk : decide (K ≤ 0) = true := decide_eq_true hk
        have hB := Yes.out (Tst.out.1 hk)
        have HB := Lib.hid hB
        clear hB hk
        go_wp2_with fail
        go_roundw
        case rel => exact ⟨N, _, rfl, rfl, by omega, by omega, by rw [show ((j : Int) - 1 + 1).toNat = j from by omega]; exact HB.out, hqr⟩
        case measure => simp [intOf]
      · have dk : decide (K ≤ 0) = false := decide_eq_false hk
        have hB := No.out (by have := Tst.out; omega)
        have HB := Lib.hid hB
        clear hB hk
        go_wp2_with fail
        go_roundw
        case rel => exact ⟨q, _, rfl, rfl, by omega, by omega, by rw [show ((j : Int) - 1 + 1).toNat = j from by omega]; exact HB.out, hqr⟩
        case measure => simp [intOf]

end Go.Proofs.Ytijakijjeoaikaa
