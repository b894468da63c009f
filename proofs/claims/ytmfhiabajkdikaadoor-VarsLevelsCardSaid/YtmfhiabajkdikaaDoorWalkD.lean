
/- The walk of bits.Div64: the quotient of two words by one word. -/
import Derived.Test.YtmfhiabajkdikaaDoorWalkA
import Derived.Laws.Externs
import Derived.Test.YtmfhiabajkdikaaDoorRows
import Derived.Lib.ItoaNum
set_option linter.unusedVariables false
set_option linter.unusedSimpArgs false
namespace Go.Proofs.YtmfhiabajkdikaaDoor
open Go.RowKit

def dq (hi lo y : Int) : Int := (hi * 18446744073709551616 + lo) / y
def dr (hi lo y : Int) : Int := (hi * 18446744073709551616 + lo) % y

theorem ret_uu {a b c d : Int} (h : a = b) (g : c = d) : Ending.returned (.tuple #[.int .u64 a, .int .u64 c]) = .returned (.tuple #[.int .u64 b, .int .u64 d]) := by rw [h, g]

theorem and_mask (x : Int) (h0 : 0 ≤ x) (h1 : x < 18446744073709551616) : bits .and .u64 x 4294967295 = x % 4294967296 := by
  obtain ⟨n, rfl⟩ := Int.eq_ofNat_of_zero_le h0
  have h := bits_and_u64_nat n 4294967295 (by omega) (by omega)
  have e : n &&& 4294967295 = n % 4294967296 := Nat.and_two_pow_sub_one_eq_mod n 32
  rw [e] at h
  exact h

/-- The two words, shifted: the upper one of them, and the lower one. -/
theorem shift_words (hi lo s : Int) (h0 : 0 ≤ hi) (l0 : 0 ≤ lo) (l1 : lo < 18446744073709551616) (s0 : 0 ≤ s) (s1 : s ≤ 63) (hb : hi * 2 ^ s.toNat + 2 ^ s.toNat ≤ 18446744073709551616) :
    ∃ U L : Int, bits .or .u64 (hi * 2 ^ s.toNat) (lo / 2 ^ (64 - s).toNat) = U ∧ IntKind.u64.wrap (lo * 2 ^ s.toNat) = L ∧ 0 ≤ L ∧ L < 18446744073709551616 ∧ 0 ≤ U ∧
      U * 18446744073709551616 + L = (hi * 18446744073709551616 + lo) * 2 ^ s.toNat := by
  obtain ⟨h, rfl⟩ := Int.eq_ofNat_of_zero_le h0
  obtain ⟨l, rfl⟩ := Int.eq_ofNat_of_zero_le l0
  obtain ⟨k, rfl⟩ := Int.eq_ofNat_of_zero_le s0
  have e2 : ((64 : Int) - (k : Int)).toNat = 64 - k := by omega
  rw [e2, Int.toNat_natCast] at *
  have pk : 0 < 2 ^ k := Nat.two_pow_pos k
  have pj : 0 < 2 ^ (64 - k) := Nat.two_pow_pos (64 - k)
  have pp : 2 ^ (64 - k) * 2 ^ k = 18446744073709551616 := by rw [← Nat.pow_add, show 64 - k + k = 64 from by omega]
  have ek : ((2 : Int) ^ k) = ((2 ^ k : Nat) : Int) := (Int.natCast_pow 2 _).symm
  have ej : ((2 : Int) ^ (64 - k)) = ((2 ^ (64 - k) : Nat) : Int) := (Int.natCast_pow 2 _).symm
  have lk : l / 2 ^ (64 - k) < 2 ^ k := by rw [Nat.div_lt_iff_lt_mul pj, Nat.mul_comm, pp]; omega
  have t := Nat.two_pow_add_eq_or_of_lt lk h
  have d1 : l * 2 ^ k / 18446744073709551616 = l / 2 ^ (64 - k) := by
    rw [← pp, Nat.mul_div_mul_right _ _ pk]
  rw [ek, ej]
  rw [ek] at hb
  generalize 2 ^ k = p at *
  generalize 2 ^ (64 - k) = j at *
  rw [Nat.mul_comm p h] at t
  simp only [← Int.natCast_mul, ← Int.natCast_ediv] at *
  have o := bits_or_u64_nat (h * p) (l / j) (by omega) (by omega)
  rw [← t] at o
  have wE : IntKind.u64.wrap ((l * p : Nat) : Int) = ((l * p % 18446744073709551616 : Nat) : Int) := by
    rw [IntKind.wrap_u64]; omega
  refine ⟨_, _, o, wE, by omega, by omega, by omega, ?_⟩
  have d3 : (h * 18446744073709551616 + l) * p = h * p * 18446744073709551616 + l * p := by
    rw [Nat.add_mul, Nat.mul_right_comm]
  have d4 : ((h : Int) * 18446744073709551616 + (l : Int)) * (p : Int) = (((h * 18446744073709551616 + l) * p : Nat) : Int) := by
    rw [Int.natCast_mul, Int.natCast_add, Int.natCast_mul]; rfl
  rw [d4, d3]
  omega

/-- The rest of the first digit, as the words reckon it. -/
theorem rest_word (U l1 T Y V : Int) (hV : (U * 4294967296 + l1) % Y = V) (hT : (U * 4294967296 + l1) / Y = T) (v1 : V < 18446744073709551616) (v0 : 0 ≤ V) :
    IntKind.u64.wrap (IntKind.u64.wrap (IntKind.u64.wrap (U * 4294967296) + l1) - IntKind.u64.wrap (T * Y)) = V := by
  have d := Int.emod_add_mul_ediv (U * 4294967296 + l1) Y
  rw [hV, hT, Int.mul_comm Y T] at d
  simp only [IntKind.wrap_u64]
  omega

/-- How the test of a digit comes out. -/
theorem digit_ways (a b y0 c T : Int) (tt : a * y0 > 4294967296 * b + c ↔ T < a) (g2 : 0 ≤ y0) (g2' : y0 < 4294967296) (hT : T < 4294967296 ∧ T ≤ a ∧ 0 ≤ T) :
    decide (4294967296 ≤ a) = true ∧ T < a ∨ decide (4294967296 ≤ a) = false ∧ a * y0 < 18446744073709551616 ∧ (T < a ∧ decide (4294967296 * b + c < a * y0) = true ∨ a = T ∧ decide (4294967296 * b + c < a * y0) = false) := by
  by_cases h : 4294967296 ≤ a
  · left; exact ⟨decide_eq_true h, by omega⟩
  · right
    refine ⟨decide_eq_false h, ?_, ?_⟩
    · have := Int.mul_le_mul (show a ≤ 4294967295 by omega) (show y0 ≤ 4294967295 by omega) g2 (by omega)
      omega
    · by_cases h2 : T < a
      · left; exact ⟨h2, decide_eq_true (tt.2 h2)⟩
      · right; exact ⟨by omega, decide_eq_false (fun h3 => h2 (tt.1 h3))⟩

/-- What the loop over a digit keeps. -/
def Dig (U y1 T a b : Int) : Prop := a * y1 + b = U ∧ T ≤ a ∧ a ≤ 4294967297 ∧ 0 ≤ b ∧ b < 4294967296

end Go.Proofs.YtmfhiabajkdikaaDoor
