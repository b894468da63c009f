
/- The walk of wide.floorRoot: Newton's steps from above. -/
import Derived.Test.YtijakijjeoaikaaWalkD
import Derived.Test.YtijakijjeoaikaaLaid
set_option linter.unusedVariables false
set_option linter.unusedSimpArgs false
namespace Go.Proofs.Ytijakijjeoaikaa
open Go.RowKit

theorem div64_any (hi lo y : Int) (h0 : 0 ≤ hi) (h1 : hi < y) (l0 : 0 ≤ lo) (l1 : lo < 18446744073709551616) (y1 : y < 18446744073709551616) (w : World) :
    Calls Try.prog 60 #[.int .u64 hi, .int .u64 lo, .int .u64 y] w fun e w' => e = .returned (.tuple #[.int .u64 (dq hi lo y), .int .u64 (dr hi lo y)]) ∧ ∃ n, w' = w.drewN n := by
  rcases Int.lt_or_le 0 hi with c | c
  · exact (div64_high hi lo y c h1 l0 l1 y1 w).mono fun e w' ⟨he, hw⟩ => ⟨he, 0, hw.symm⟩
  · obtain rfl : hi = 0 := by omega
    refine (div64_low lo y l0 l1 h1 y1 w).mono fun e w' ⟨he, hw⟩ => ⟨?_, hw⟩
    rw [he]; unfold dq dr; simp

theorem len64_any (x : Int) (h0 : 0 ≤ x) (h1 : x < 18446744073709551616) (w : World) :
    Calls Try.prog 79 #[.int .u64 x] w fun e w' => e = .returned (.int .i64 (Lib.bitLen x.toNat)) ∧ w = w' :=
  (Try.bits_Len64 x w h0 (by omega)).mono fun _ _ ⟨h1, h2⟩ => ⟨h1, h2.symm⟩

theorem len_lt (x : Int) (h0 : 0 < x) (h1 : x < 18446744073709551616) : x < 2 ^ (Lib.bitLen x.toNat) ∧ 1 ≤ Lib.bitLen x.toNat := by
  obtain ⟨n, rfl⟩ := Int.eq_ofNat_of_zero_le (Int.le_of_lt h0)
  rw [Int.toNat_natCast]
  obtain ⟨b1, b2, b3⟩ := Lib.bitLenAux_bounds 64 n (by omega) (by omega)
  have e : Lib.bitLenAux 64 n = Lib.bitLen n := rfl
  rw [e] at b1 b3
  refine ⟨?_, b1⟩
  rw [show ((2 : Int) ^ Lib.bitLen n) = ((2 ^ Lib.bitLen n : Nat) : Int) from (Int.natCast_pow 2 _).symm]
  omega

theorem two_pow_le {a b : Nat} (h : a ≤ b) : (2 : Int) ^ a ≤ 2 ^ b := by
  have := Nat.pow_le_pow_right (show 0 < 2 by decide) h
  rw [show ((2 : Int) ^ a) = ((2 ^ a : Nat) : Int) from (Int.natCast_pow 2 _).symm, show ((2 : Int) ^ b) = ((2 ^ b : Nat) : Int) from (Int.natCast_pow 2 _).symm]
  omega

def addS (x y : Int) : Int := (x + y) % 18446744073709551616
def addC (x y : Int) : Int := (x + y) / 18446744073709551616

theorem next_word (x y : Int) (hx : 0 ≤ x) (hy : 0 ≤ y) (h : x + y < 36893488147419103232) :
    bits .or .u64 (addC x y * 9223372036854775808) (addS x y / 2) = (x + y) / 2 := by
  unfold addC addS
  have z0 : 0 ≤ x + y := by omega
  generalize x + y = z at *
  obtain ⟨n, rfl⟩ := Int.eq_ofNat_of_zero_le z0
  have c : n / 18446744073709551616 = 0 ∨ n / 18446744073709551616 = 1 := by omega
  have t : n % 18446744073709551616 / 2 < 2 ^ 63 := by omega
  have e := Nat.two_pow_add_eq_or_of_lt t (n / 18446744073709551616)
  have o := bits_or_u64_nat (2 ^ 63 * (n / 18446744073709551616)) (n % 18446744073709551616 / 2) (by omega) (by omega)
  rw [← e] at o
  have k1 : ((2 ^ 63 * (n / 18446744073709551616) : Nat) : Int) = (n : Int) / 18446744073709551616 * 9223372036854775808 := by omega
  have k2 : ((n % 18446744073709551616 / 2 : Nat) : Int) = (n : Int) % 18446744073709551616 / 2 := by omega
  rw [k1, k2] at o
  rw [o]
  omega

/-- Newton's first step is not less than the root. -/
theorem start_root (n : Int) (l e : Nat) (h : n < 2 ^ l) (he : l ≤ e + e) : n < 2 ^ e * 2 ^ e := by
  have k : (2 : Int) ^ e * 2 ^ e = 2 ^ (e + e) := (Int.pow_add 2 e e).symm
  have m : (2 : Int) ^ l ≤ 2 ^ (e + e) := two_pow_le he
  omega

theorem pow_63 (e : Nat) (he : e ≤ 63) : 1 ≤ (2 : Int) ^ e ∧ (2 : Int) ^ e ≤ 9223372036854775808 := by
  have m : (2 : Int) ^ e ≤ 2 ^ 63 := two_pow_le he
  have p : (0 : Int) < 2 ^ e := Int.pow_pos (by decide)
  omega

theorem le_start (r P n : Int) (r0 : 0 ≤ r) (p0 : 0 ≤ P) (h1 : r * r ≤ n) (h2 : n < P * P) : r ≤ P := by
  refine Mth.isq_le_of r0 p0 ?_
  have e : (P + 1) * (P + 1) = P * P + 2 * P + 1 := by simp only [Int.add_mul, Int.mul_add]; omega
  omega

/-- What is known at the head of a round. -/
def RootK (n v : Int) : Prop := Mth.rt n ≤ v ∧ 0 < v ∧ v ≤ 9223372036854775808

end Go.Proofs.Ytijakijjeoaikaa
