
/- The walks of bits.Mul64 over Int, wide.product, cmp.Compare, cmp.Or and wide.Cmp. -/
import Derived.Test.YtijakijjeoaikaaWalkA
import Derived.Test.YtijakijjeoaikaaLaid
import Derived.Below
set_option linter.unusedVariables false
set_option linter.unusedSimpArgs false
namespace Go.Proofs.Ytijakijjeoaikaa
open Go.RowKit

def mulH (x y : Int) : Int := x * y / 18446744073709551616
def mulL (x y : Int) : Int := x * y % 18446744073709551616

theorem mul64_any (x y : Int) (h0 : 0 ≤ x) (h1 : x < 18446744073709551616) (g0 : 0 ≤ y) (g1 : y < 18446744073709551616) (w : World) :
    Calls Try.prog 59 #[.int .u64 x, .int .u64 y] w fun e w' => e = .returned (.tuple #[.int .u64 (mulH x y), .int .u64 (mulL x y)]) ∧ w = w' := by
  obtain ⟨m, rfl⟩ := Int.eq_ofNat_of_zero_le h0
  obtain ⟨n, rfl⟩ := Int.eq_ofNat_of_zero_le g0
  refine (Try.bits_Mul64 m n (by omega) (by omega) w).mono fun e w' ⟨he, hw⟩ => ⟨?_, hw.symm⟩
  rw [he]
  unfold mulH mulL
  rw [← Int.natCast_mul]
  rfl

theorem mul_split (x y : Int) : x * y = mulH x y * 18446744073709551616 + mulL x y ∧ 0 ≤ mulL x y ∧ mulL x y < 18446744073709551616 := by
  unfold mulH mulL
  generalize x * y = m
  omega

theorem mag_mul (a b : Int) : Mth.mag a * Mth.mag b = Mth.mag (a * b) := by
  unfold Mth.mag
  rcases Int.lt_or_le a 0 with ha | ha <;> rcases Int.lt_or_le b 0 with hb | hb
  · have := Int.mul_pos_of_neg_of_neg ha hb
    rw [if_pos ha, if_pos hb, if_neg (by omega), Int.neg_mul_neg]
  · rw [if_pos ha, if_neg (by omega)]
    rcases Int.lt_or_le 0 b with c | c
    · have := Int.mul_neg_of_neg_of_pos ha c
      rw [if_pos this, Int.neg_mul]
    · obtain rfl : b = 0 := by omega
      simp
  · rw [if_neg (by omega), if_pos hb]
    rcases Int.lt_or_le 0 a with c | c
    · have := Int.mul_neg_of_pos_of_neg c hb
      rw [if_pos this, Int.mul_neg]
    · obtain rfl : a = 0 := by omega
      simp
  · have := Int.mul_nonneg ha hb
    rw [if_neg (by omega), if_neg (by omega), if_neg (by omega)]

theorem mag_mul_le (a b : Int) (h1 : -9223372036854775808 ≤ a) (h2 : a ≤ 9223372036854775807) (g1 : -9223372036854775808 ≤ b) (g2 : b ≤ 9223372036854775807) :
    Mth.mag a * Mth.mag b ≤ 85070591730234615865843651857942052864 := by
  have := Int.mul_le_mul (Mth.mag_le a h1 h2) (Mth.mag_le b g1 g2) (Mth.mag_nonneg b) (by omega)
  omega

/-- The upper word of a product, with its sign. -/
def prH (a b : Int) : Int := a * b / 18446744073709551616
def prL (a b : Int) : Int := a * b % 18446744073709551616

theorem ret_iu {a b c d : Int} (h : a = b) (g : c = d) : Ending.returned (.tuple #[.int .i64 a, .int .u64 c]) = .returned (.tuple #[.int .i64 b, .int .u64 d]) := by rw [h, g]

/-- '^x' of a word. -/
theorem not_u64 (x : Int) (h0 : 0 ≤ x) (h1 : x < 18446744073709551616) : bits .xor .u64 IntKind.u64.max x = 18446744073709551615 - x := by
  obtain ⟨a, rfl⟩ := Int.eq_ofNat_of_zero_le h0
  show IntKind.u64.wrap ((BitVec.ofInt 64 (18446744073709551615) ^^^ BitVec.ofInt 64 (a : Int)).toNat : Int) = _
  have h1 : BitVec.ofInt 64 (18446744073709551615) = BitVec.allOnes 64 := by decide
  have h2 : (BitVec.ofInt 64 (a : Int)).toNat = a := by
    rw [BitVec.ofInt_natCast, BitVec.toNat_ofNat]; exact Nat.mod_eq_of_lt (by omega)
  rw [h1, BitVec.allOnes_xor, BitVec.toNat_not, h2, IntKind.wrap_u64]
  omega

theorem not_words (H L : Int) (h0 : 0 ≤ H) (h1 : H < 18446744073709551616) (l0 : 0 ≤ L) (l1 : L < 18446744073709551616) :
    ∃ X Z : Int, bits .xor .u64 IntKind.u64.max L = X ∧ bits .xor .u64 IntKind.u64.max H = Z ∧ 0 ≤ X ∧ X < 18446744073709551616 ∧ 0 ≤ Z ∧ Z < 18446744073709551616 ∧ Hid (X = 18446744073709551615 - L ∧ Z = 18446744073709551615 - H) :=
  ⟨_, _, not_u64 L l0 l1, not_u64 H h0 h1, by omega, by omega, by omega, by omega, rfl, rfl⟩

theorem neg_word (M H L : Int) (e : M = H * 18446744073709551616 + L) (l0 : 0 ≤ L) (l1 : L < 18446744073709551616) (hM : M ≤ 85070591730234615865843651857942052864) (h0 : 0 ≤ M) :
    0 ≤ H ∧ H < 9223372036854775807 := by omega

/-- How two integers compare. -/
def cmpI (x y : Int) : Int := if x < y then -1 else if x = y then 0 else 1

/-- The first number that is not nought. -/
def orI (x y : Int) : Int := if x = 0 then y else x
theorem orI_yes (x y : Int) (h : x ≠ 0) : orI x y = x := if_neg h
theorem orI_no (y : Int) : orI 0 y = y := if_pos rfl

/-- What is known at the head of the loop's round k. -/
def OrK (x y k : Int) : Prop := k = 0 ∨ k = 1 ∧ x = 0 ∨ k = 2 ∧ x = 0 ∧ y = 0

theorem cmp_words (a b c d : Int) : orI (cmpI (prH a b) (prH c d)) (cmpI (prL a b) (prL c d)) = cmpI (a * b) (c * d) := by
  unfold orI cmpI prH prL
  generalize a * b = m
  generalize c * d = n
  split <;> split <;> split <;> (try split) <;> (try split) <;> omega

end Go.Proofs.Ytijakijjeoaikaa
