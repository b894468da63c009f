
/- The walks of bits.Mul64 over Int, wide.product, cmp.Compare, cmp.Or and wide.Cmp. -/
import Derived.Test.YtlfkgnpbpmejkaaWalkA
import Derived.Test.YtlfkgnpbpmejkaaLaid
import Derived.Below
set_option linter.unusedVariables false
set_option linter.unusedSimpArgs false
namespace Go.Proofs.Ytlfkgnpbpmejkaa
open Go.RowKit

def mulH (x y : Int) : Int := x * y / 18446744073709551616
def mulL (x y : Int) : Int := x * y % 18446744073709551616

theorem mul64_any (x y : Int) (h0 : 0 ≤ x) (h1 : x < 18446744073709551616) (g0 : 0 ≤ y) (g1 : y < 18446744073709551616) (w : World) :
    Calls Try.prog 50 #[.int .u64 x, .int .u64 y] w fun e w' => e = .returned (.tuple #[.int .u64 (mulH x y), .int .u64 (mulL x y)]) ∧ w = w' := by
  obtain ⟨m, rfl⟩ := Int.eq_ofNat_of_zero_le h0
  obtain ⟨n, rfl⟩ := Int.eq_ofNat_of_zero_le g0
  refine (Try.bits_Mul64 m n (by omega) (by omega) w).mono fun e w' ⟨he, hw⟩ => ⟨?_, hw.symm⟩
  rw [he]
  unfold mulH mulL
  rw [← Int.natCast_mul]
  rfl

theorem mul_split (x y : Int) : x * y = mulH x y * 18446744073709551616 + mulL x y ∧ 0 ≤ mulL x y ∧ mulL x y < 18446744073709551616 := by
  unfold mulH mulL
  generalize x * y = m
  omega

theorem mag_mul (a b : Int) : Mth.mag a * Mth.mag b = Mth.mag (a * b) := by
  unfold Mth.mag
  rcases Int.lt_or_le a 0 with ha | ha <;> rcases Int.lt_or_le b 0 with hb | hb
  · have := Int.mul_pos_of_neg_of_neg ha hb
    rw [if_pos ha, if_pos hb, if_neg (by omega), Int.neg_mul_neg]
  · rw [if_pos ha, if_neg (by omega)]
    rcases Int.lt_or_le 0 b with c | c
    · have := Int.mul_neg_of_neg_of_pos ha c
      rw [if_pos this, Int.neg_mul]
    · obtain rfl : b = 0 := by omega
      simp
  · rw [if_neg (by omega), if_pos hb]
    rcases Int.lt_or_le 0 a with c | c
    · have := Int.mul_neg_of_pos_of_neg c hb
      rw [if_pos this, Int.mul_neg]
    · obtain rfl : a = 0 := by omega
      simp
  · have := Int.mul_nonneg ha hb
    rw [if_neg (by omega), if_neg (by omega), if_neg (by omega)]

theorem mag_mul_le (a b : Int) (h1 : -9223372036854775808 ≤ a) (h2 : a ≤ 9223372036854775807) (g1 : -9223372036854775808 ≤ b) (g2 : b ≤ 9223372036854775807) :
    Mth.mag a * Mth.mag b ≤ 85070591730234615865843651857942052864 := by
  have := Int.mul_le_mul (Mth.mag_le a h1 h2) (Mth.mag_le b g1 g2) (Mth.mag_nonneg b) (by omega)
  omega

/-- The upper word of a product, with its sign. -/
def prH (a b : Int) : Int := a * b / 18446744073709551616
def prL (a b : Int) : Int := a * b % 18446744073709551616

theorem ret_iu {a b c d : Int} (h : a = b) (g : c = d) : Ending.returned (.tuple #[.int .i64 a, .int .u64 c]) = .returned (.tuple #[.int .i64 b, .int .u64 d]) := by rw [h, g]

/-- '^x' of a word. -/
theorem not_u64 (x : Int) (h0 : 0 ≤ x) (h1 : x < 18446744073709551616) : bits .xor .u64 IntKind.u64.max x = 18446744073709551615 - x := by
  obtain ⟨a, rfl⟩ := Int.eq_ofNat_of_zero_le h0
  show IntKind.u64.wrap ((BitVec.ofInt 64 (18446744073709551615) ^^^ BitVec.ofInt 64 (a : Int)).toNat : Int) = _
  have h1 : BitVec.ofInt 64 (18446744073709551615) = BitVec.allOnes 64 := by decide
  have h2 : (BitVec.ofInt 64 (a : Int)).toNat = a := by
    rw [BitVec.ofInt_natCast, BitVec.toNat_ofNat]; exact Nat.mod_eq_of_lt (by omega)
  rw [h1, BitVec.allOnes_xor, BitVec.toNat_not, h2, IntKind.wrap_u64]
  omega

theorem not_words (H L : Int) (h0 : 0 ≤ H) (h1 : H < 18446744073709551616) (l0 : 0 ≤ L) (l1 : L < 18446744073709551616) :
    ∃ X Z : Int, bits .xor .u64 IntKind.u64.max L = X ∧ bits .xor .u64 IntKind.u64.max H = Z ∧ 0 ≤ X ∧ X < 18446744073709551616 ∧ 0 ≤ Z ∧ Z < 18446744073709551616 ∧ Hid (X = 18446744073709551615 - L ∧ Z = 18446744073709551615 - H) :=
  ⟨_, _, not_u64 L l0 l1, not_u64 H h0 h1, by omega, by omega, by omega, by omega, rfl, rfl⟩

theorem neg_word (M H L : Int) (e : M = H * 18446744073709551616 + L) (l0 : 0 ≤ L) (l1 : L < 18446744073709551616) (hM : M ≤ 85070591730234615865843651857942052864) (h0 : 0 ≤ M) :
    0 ≤ H ∧ H < 9223372036854775807 := by omega

set_option maxRecDepth 100000 in
theorem product_any (a b : Int) (h1 : -9223372036854775808 ≤ a) (h2 : a ≤ 9223372036854775807) (g1 : -9223372036854775808 ≤ b) (g2 : b ≤ 9223372036854775807) (w : World) :
    Calls Try.prog 44 #[.int .i64 a, .int .i64 b] w fun e w' => e = .returned (.tuple #[.int .i64 (prH a b), .int .u64 (prL a b)]) ∧ w = w' := by
  have ma := Mth.mag_le a h1 h2
  have mb := Mth.mag_le b g1 g2
  have na := Mth.mag_nonneg a
  have nb := Mth.mag_nonneg b
  have mm := mag_mul_le a b h1 h2 g1 g2
  have mn := Int.mul_nonneg na nb
  obtain ⟨e, l0, l1⟩ := mul_split (Mth.mag a) (Mth.mag b)
  obtain ⟨k0, k1⟩ := neg_word _ _ _ e l0 l1 mm mn
  rw [mag_mul] at e mm mn
  obtain ⟨H, eH⟩ : ∃ H, mulH (Mth.mag a) (Mth.mag b) = H := ⟨_, rfl⟩
  obtain ⟨L, eL⟩ : ∃ L, mulL (Mth.mag a) (Mth.mag b) = L := ⟨_, rfl⟩
  rw [eH, eL] at e
  rw [eL] at l0 l1
  rw [eH] at k0 k1
  by_cases ca : a < 0 <;> by_cases cb : b < 0
  · have sg : Mth.mag (a * b) = a * b := by have := Int.mul_pos_of_neg_of_neg ca cb; unfold Mth.mag; rw [if_neg (by omega)]
    rw [sg] at e
    have He := Lib.hid e
    clear e sg mm mn
    have da : decide (a < 0) = true := decide_eq_true (by omega)
    have db : decide (b < 0) = true := decide_eq_true (by omega)
    go_enter Try.func44, Try.ntmps44
    go_wp2_with (first | (go_at_call 51; refine (size_any _ (by omega) (by omega) _).mono ?_; rintro e w' ⟨rfl, rfl⟩) | (go_at_call 50; refine (mul64_any _ _ (by omega) (by omega) (by omega) (by omega) _).mono ?_; rintro e w' ⟨rfl, rfl⟩))
    go_ret2
    exact ⟨ret_iu (by have := He.out; unfold prH; omega) (by have := He.out; unfold prL; omega), rfl⟩
  · have sg : Mth.mag (a * b) = -(a * b) := by
      have := Int.mul_nonneg (show 0 ≤ -a by omega) (show 0 ≤ b by omega)
      rw [Int.neg_mul] at this
      unfold Mth.mag; split <;> omega
    rw [sg] at e
    have He := Lib.hid e
    clear e sg mm mn
    have da : decide (a < 0) = true := decide_eq_true (by omega)
    have db : decide (b < 0) = false := decide_eq_false (by omega)
    obtain ⟨X, Z, eX, eZ, X0, X1, Z0, Z1, HXZ⟩ := not_words H L k0 (by omega) l0 l1
    have c0 : 0 ≤ (X + 1) / 18446744073709551616 := by omega
    have c1 : (X + 1) / 18446744073709551616 ≤ 1 := by omega
    go_enter Try.func44, Try.ntmps44
    go_wp2_with (first | (go_at_call 51; refine (size_any _ (by omega) (by omega) _).mono ?_; rintro e w' ⟨rfl, rfl⟩) | (go_at_call 50; refine (mul64_any _ _ (by omega) (by omega) (by omega) (by omega) _).mono ?_; rintro e w' ⟨rfl, rfl⟩) | simp only [Try.bits_Add64_0 X 1 X0 (by omega)] | simp only [Try.bits_Add64_y0 Z _ Z0 c0 c1])
    go_ret2
    exact ⟨ret_iu (by have := He.out; have := HXZ.out; unfold prH wrap64; omega) (by have := He.out; have := HXZ.out; unfold prL; omega), rfl⟩
  · have sg : Mth.mag (a * b) = -(a * b) := by
      have := Int.mul_nonneg (show 0 ≤ a by omega) (show 0 ≤ -b by omega)
      rw [Int.mul_neg] at this
      unfold Mth.mag; split <;> omega
    rw [sg] at e
    have He := Lib.hid e
    clear e sg mm mn
    have da : decide (a < 0) = false := decide_eq_false (by omega)
    have db : decide (b < 0) = true := decide_eq_true (by omega)
    obtain ⟨X, Z, eX, eZ, X0, X1, Z0, Z1, HXZ⟩ := not_words H L k0 (by omega) l0 l1
    have c0 : 0 ≤ (X + 1) / 18446744073709551616 := by omega
    have c1 : (X + 1) / 18446744073709551616 ≤ 1 := by omega
    go_enter Try.func44, Try.ntmps44
    go_wp2_with (first | (go_at_call 51; refine (size_any _ (by omega) (by omega) _).mono ?_; rintro e w' ⟨rfl, rfl⟩) | (go_at_call 50; refine (mul64_any _ _ (by omega) (by omega) (by omega) (by omega) _).mono ?_; rintro e w' ⟨rfl, rfl⟩) | simp only [Try.bits_Add64_0 X 1 X0 (by omega)] | simp only [Try.bits_Add64_y0 Z _ Z0 c0 c1])
    go_ret2
    exact ⟨ret_iu (by have := He.out; have := HXZ.out; unfold prH wrap64; omega) (by have := He.out; have := HXZ.out; unfold prL; omega), rfl⟩
  · have sg : Mth.mag (a * b) = a * b := by have := Int.mul_nonneg (show 0 ≤ a by omega) (show 0 ≤ b by omega); unfold Mth.mag; rw [if_neg (by omega)]
    rw [sg] at e
    have He := Lib.hid e
    clear e sg mm mn
    have da : decide (a < 0) = false := decide_eq_false (by omega)
    have db : decide (b < 0) = false := decide_eq_false (by omega)
    go_enter Try.func44, Try.ntmps44
    go_wp2_with (first | (go_at_call 51; refine (size_any _ (by omega) (by omega) _).mono ?_; rintro e w' ⟨rfl, rfl⟩) | (go_at_call 50; refine (mul64_any _ _ (by omega) (by omega) (by omega) (by omega) _).mono ?_; rintro e w' ⟨rfl, rfl⟩))
    go_ret2
    exact ⟨ret_iu (by have := He.out; unfold prH; omega) (by have := He.out; unfold prL; omega), rfl⟩

/-- How two integers compare. -/
def cmpI (x y : Int) : Int := if x < y then -1 else if x = y then 0 else 1

theorem compare_i64 (x y : Int) (w : World) :
    Calls Try.prog 46 #[.int .i64 x, .int .i64 y] w fun e w' => e = .returned (.int .i64 (cmpI x y)) ∧ w = w' := by
  unfold cmpI
  have ex : (x != x) = false := by simp
  have ey : (y != y) = false := by simp
  by_cases c1 : x < y
  · rw [if_pos c1]
    go_enter Try.func46, Try.ntmps46
    go_wp2
    go_ret
    exact ⟨rfl, rfl⟩
  · rw [if_neg c1]
    by_cases c2 : x = y
    · rw [if_pos c2]
      have c3 : ¬ y < x := by omega
      clear c2
      go_enter Try.func46, Try.ntmps46
      go_wp2
      go_ret
      exact ⟨rfl, rfl⟩
    · rw [if_neg c2]
      have c3 : y < x := by omega
      clear c2
      go_enter Try.func46, Try.ntmps46
      go_wp2
      go_ret
      exact ⟨rfl, rfl⟩

theorem compare_u64 (x y : Int) (w : World) :
    Calls Try.prog 47 #[.int .u64 x, .int .u64 y] w fun e w' => e = .returned (.int .i64 (cmpI x y)) ∧ w = w' := by
  unfold cmpI
  have ex : (x != x) = false := by simp
  have ey : (y != y) = false := by simp
  by_cases c1 : x < y
  · rw [if_pos c1]
    go_enter Try.func47, Try.ntmps47
    go_wp2
    go_ret
    exact ⟨rfl, rfl⟩
  · rw [if_neg c1]
    by_cases c2 : x = y
    · rw [if_pos c2]
      have c3 : ¬ y < x := by omega
      clear c2
      go_enter Try.func47, Try.ntmps47
      go_wp2
      go_ret
      exact ⟨rfl, rfl⟩
    · rw [if_neg c2]
      have c3 : y < x := by omega
      clear c2
      go_enter Try.func47, Try.ntmps47
      go_wp2
      go_ret
      exact ⟨rfl, rfl⟩

/-- The first number that is not nought. -/
def orI (x y : Int) : Int := if x = 0 then y else x
theorem orI_yes (x y : Int) (h : x ≠ 0) : orI x y = x := if_neg h
theorem orI_no (y : Int) : orI 0 y = y := if_pos rfl

/-- What is known at the head of the loop's round k. -/
def OrK (x y k : Int) : Prop := k = 0 ∨ k = 1 ∧ x = 0 ∨ k = 2 ∧ x = 0 ∧ y = 0

theorem or_any (x y : Int) (b : Nat) (w : World) (h0 : w.cell? ⟨b, 0, none⟩ = some (.int .i64 x)) (h1 : w.cell? ⟨b, 1, none⟩ = some (.int .i64 y)) :
    Calls Try.prog 45 #[.slice (some ⟨b, 0, none⟩) 2 2] w fun e w' => e = .returned (.int .i64 (orI x y)) ∧ w = w' := by
  have f1 : w.cell? ⟨b, 0 + 1, none⟩ = some (.int .i64 y) := h1
  go_enter Try.func45, Try.ntmps45
  go_wp2
  go_loop [8] (fun i => ∃ k : Int, i = .int .i64 k ∧ OrK x y k) (fun i => (2 - intOf i).toNat)
  case atStart => exact ⟨0, rfl, .inl rfl⟩
  case round =>
    obtain ⟨k, rfl, hk⟩ := hrel
    rcases hk with rfl | ⟨rfl, rfl⟩ | ⟨rfl, rfl, rfl⟩
    · by_cases c : x = 0
      · subst c
        go_wp2
        go_round
        case rel => exact ⟨1, rfl, .inr (.inl ⟨rfl, rfl⟩)⟩
        case measure => simp [intOf]
      · have cb : (x != 0) = true := by simp [c]
        have Hc := Lib.hid (orI_yes x y c)
        clear c
        go_wp2
        go_ret
        exact ⟨ret_i64 Hc.out.symm, rfl⟩
    · by_cases c : y = 0
      · subst c
        go_wp2
        go_round
        case rel => exact ⟨2, rfl, .inr (.inr ⟨rfl, rfl, rfl⟩)⟩
        case measure => simp [intOf]
      · have cb : (y != 0) = true := by simp [c]
        clear c
        go_wp2
        go_ret
        exact ⟨ret_i64 (orI_no y).symm, rfl⟩
    · go_wp2
      go_ret
      exact ⟨ret_i64 (orI_no 0).symm, rfl⟩

theorem cmp_words (a b c d : Int) : orI (cmpI (prH a b) (prH c d)) (cmpI (prL a b) (prL c d)) = cmpI (a * b) (c * d) := by
  unfold orI cmpI prH prL
  generalize a * b = m
  generalize c * d = n
  split <;> split <;> split <;> (try split) <;> (try split) <;> omega

theorem cmp_any (a b c d : Int) (a1 : -9223372036854775808 ≤ a) (a2 : a ≤ 9223372036854775807) (b1 : -9223372036854775808 ≤ b) (b2 : b ≤ 9223372036854775807)
    (c1 : -9223372036854775808 ≤ c) (c2 : c ≤ 9223372036854775807) (d1 : -9223372036854775808 ≤ d) (d2 : d ≤ 9223372036854775807) (w : World) :
    Calls Try.prog 39 #[.int .i64 a, .int .i64 b, .int .i64 c, .int .i64 d] w fun e w' => e = .returned (.int .i64 (cmpI (a * b) (c * d))) ∧ Below w.heap.size w w' := by
  rw [← cmp_words]
  go_enter Try.func39, Try.ntmps39
  go_wp2_with (first | (go_at_call 44; refine (product_any _ _ (by omega) (by omega) (by omega) (by omega) _).mono ?_; rintro e w' ⟨rfl, rfl⟩) | (go_at_call 46; refine (compare_i64 _ _ _).mono ?_; rintro e w' ⟨rfl, rfl⟩) | (go_at_call 47; refine (compare_u64 _ _ _).mono ?_; rintro e w' ⟨rfl, rfl⟩) | (go_at_call 45; go_loud (refine (or_any (cmpI (prH a b) (prH c d)) (cmpI (prL a b) (prL c d)) w.heap.size _ (by simp [go_sem]) (by simp [go_sem])).mono ?_); rintro e w' ⟨rfl, rfl⟩))
  go_ret
  exact ⟨rfl, (Below.refl _ _).alloc (Nat.le_refl _) _⟩

end Go.Proofs.Ytlfkgnpbpmejkaa
