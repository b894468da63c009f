import Derived.Shelf.Small.Bits
import Derived.Shelf.Strconv.Itoa0
import Derived.Shelf.Bits.Mul64
import Derived.Laws.Externs
import Derived.Test.YtihmifdadikhaaaRows
import Derived.WalkKit
import Derived.BigQuiet
import Derived.Deep.QuietTactic
import Derived.Lib.Hide
import Derived.Lib.ItoaNum
import Derived.Below

/- Plain arithmetic for layer 1: the quotient of two words by one word (Knuth's two digits), Newton's root, and how a number with a rest is rounded. No program in sight. -/
set_option linter.unusedVariables false
set_option linter.unusedSimpArgs false
namespace Go.Proofs.Ytihmifdadikhaaa.Mth

/-! ### quotients -/

/-- The digit that the division looks for is q as soon as q is not too large and not too small. -/
theorem digit_test (u c q r y1 y0 Y : Int) (hY : Y = y1 * 4294967296 + y0) (hY0 : 0 < Y) (he : q * y1 + r = u) :
    q * y0 > 4294967296 * r + c ↔ (u * 4294967296 + c) / Y < q := by
  rw [Int.ediv_lt_iff_lt_mul hY0]
  have e : q * Y = q * y1 * 4294967296 + q * y0 := by rw [hY, Int.mul_add, Int.mul_assoc]
  rw [e]
  have e2 : q * y1 = u - r := by omega
  rw [e2]
  constructor <;> intro h <;> omega

theorem digit_small (u c Y : Int) (hY0 : 0 < Y) (hu : u < Y) (hc : c < 4294967296) : (u * 4294967296 + c) / Y < 4294967296 := by
  rw [Int.ediv_lt_iff_lt_mul hY0]
  have : 4294967296 * Y = Y * 4294967296 := Int.mul_comm _ _
  omega

theorem digit_nonneg (u c Y : Int) (hY0 : 0 < Y) (hu : 0 ≤ u) (hc : 0 ≤ c) : 0 ≤ (u * 4294967296 + c) / Y :=
  Int.ediv_nonneg (by omega) (by omega)

/-- The first guess. -/
theorem digit_guess (u c y1 y0 Y : Int) (hY : Y = y1 * 4294967296 + y0) (h1 : 2147483648 ≤ y1) (h0 : 0 ≤ y0) (h0' : y0 < 4294967296) (hu : 0 ≤ u) (hu' : u < Y) (hc : 0 ≤ c) (hc' : c < 4294967296) :
    0 ≤ u / y1 ∧ u / y1 ≤ 4294967297 ∧ 0 ≤ u - u / y1 * y1 ∧ u - u / y1 * y1 < y1 ∧ (u * 4294967296 + c) / Y ≤ u / y1 := by
  have hy : 0 < y1 := by omega
  have d := Int.emod_add_mul_ediv u y1
  have m1 := Int.emod_nonneg u (by omega : y1 ≠ 0)
  have m2 := Int.emod_lt_of_pos u hy
  have dc : y1 * (u / y1) = u / y1 * y1 := Int.mul_comm _ _
  have q0 : 0 ≤ u / y1 := Int.ediv_nonneg hu (by omega)
  refine ⟨q0, ?_, by omega, by omega, ?_⟩
  · have : u / y1 < 4294967298 := by
      rw [Int.ediv_lt_iff_lt_mul hy]; omega
    omega
  · have : (u * 4294967296 + c) / Y < u / y1 + 1 := by
      rw [Int.ediv_lt_iff_lt_mul (by omega : 0 < Y)]
      have e : (u / y1 + 1) * Y = (u / y1 * y1 + y1) * 4294967296 + (u / y1 * y0 + y0) := by
        rw [hY, Int.add_mul, Int.mul_add, ← Int.mul_assoc]; omega
      have p : 0 ≤ u / y1 * y0 := Int.mul_nonneg q0 h0
      rw [e]; omega
    omega

/-- One step down that leaves the loop. -/
theorem digit_last (u c q r y1 y0 Y : Int) (hY : Y = y1 * 4294967296 + y0) (hY0 : 0 < Y) (he : q * y1 + r = u) (hr : 4294967296 ≤ r) (h0 : 0 ≤ y0) (h0' : y0 < 4294967296) (hq0 : 0 ≤ q) (hq : q ≤ 4294967296) (hc : 0 ≤ c)
    (hT : (u * 4294967296 + c) / Y ≤ q) : (u * 4294967296 + c) / Y = q := by
  have t := digit_test u c q r y1 y0 Y hY hY0 he
  have b : q * y0 ≤ 4294967296 * 4294967295 := by
    have := Int.mul_le_mul hq (by omega : y0 ≤ 4294967295) h0 (by omega)
    exact this
  have : ¬ (u * 4294967296 + c) / Y < q := by rw [← t]; omega
  omega

/-- Two digits make the quotient, and the second rest is the rest. -/
theorem two_digits (u c1 c0 Y : Int) (hY0 : 0 < Y) (hc0 : 0 ≤ c0) (hc0' : c0 < 4294967296) :
    (u * 4294967296 + c1) / Y * 4294967296 + ((u * 4294967296 + c1) % Y * 4294967296 + c0) / Y = ((u * 4294967296 + c1) * 4294967296 + c0) / Y ∧
    ((u * 4294967296 + c1) % Y * 4294967296 + c0) % Y = ((u * 4294967296 + c1) * 4294967296 + c0) % Y := by
  generalize u * 4294967296 + c1 = x
  have d := Int.emod_add_mul_ediv x Y
  have e : x * 4294967296 + c0 = (x % Y * 4294967296 + c0) + Y * (x / Y * 4294967296) := by
    rw [← Int.mul_assoc]; omega
  rw [e]
  refine ⟨?_, ?_⟩
  · rw [Int.add_mul_ediv_left _ _ (by omega)]; omega
  · rw [Int.add_mul_emod_self_left]

/-- The words of a quotient are shifted together. -/
theorem shifted (n y s : Int) (hs : 0 < s) : n * s / (y * s) = n / y ∧ n * s % (y * s) = n % y * s := by
  refine ⟨Int.mul_ediv_mul_of_pos_left _ _ hs, ?_⟩
  rw [Int.mul_comm n s, Int.mul_comm y s, Int.mul_emod_mul_of_pos _ _ hs, Int.mul_comm]

/-! ### roots -/

/-- The floor of the square root. -/
def isq : Nat → Nat
  | 0 => 0
  | n + 1 => if (isq n + 1) * (isq n + 1) ≤ n + 1 then isq n + 1 else isq n

theorem sq_succ (r : Nat) : (r + 1) * (r + 1) = r * r + 2 * r + 1 := by
  rw [Nat.add_mul, Nat.mul_add]; omega

theorem isq_spec (n : Nat) : isq n * isq n ≤ n ∧ n < (isq n + 1) * (isq n + 1) := by
  induction n with
  | zero => simp [isq]
  | succ n ih =>
    unfold isq
    have e := sq_succ (isq n + 1)
    split <;> omega

theorem sq_lt {r k : Nat} (h : r * r < (k + 1) * (k + 1)) : r ≤ k := by
  rcases Nat.lt_or_ge k r with c | c
  · have := Nat.mul_le_mul c c
    simp only [Nat.succ_eq_add_one] at this
    omega
  · exact c

theorem isq_uniq (n r : Nat) (h1 : r * r ≤ n) (h2 : n < (r + 1) * (r + 1)) : isq n = r := by
  have s := isq_spec n
  have a : isq n ≤ r := sq_lt (by omega)
  have b : r ≤ isq n := sq_lt (by omega)
  omega

/-- The floor of the square root of an integer that is not negative. -/
def rt (n : Int) : Int := (isq n.toNat : Int)

theorem rt_nonneg (n : Int) : 0 ≤ rt n := by unfold rt; omega

theorem rt_spec (n : Int) (hn : 0 ≤ n) : rt n * rt n ≤ n ∧ n < (rt n + 1) * (rt n + 1) := by
  obtain ⟨m, rfl⟩ := Int.eq_ofNat_of_zero_le hn
  have s := isq_spec m
  unfold rt
  rw [Int.toNat_natCast]
  refine ⟨?_, ?_⟩
  · have := s.1; exact_mod_cast this
  · have := s.2; exact_mod_cast this

theorem rt_uniq (n r : Int) (hr : 0 ≤ r) (h1 : r * r ≤ n) (h2 : n < (r + 1) * (r + 1)) : rt n = r := by
  have hn : 0 ≤ n := Int.le_trans (Int.mul_nonneg hr hr) h1
  obtain ⟨m, rfl⟩ := Int.eq_ofNat_of_zero_le hn
  obtain ⟨k, rfl⟩ := Int.eq_ofNat_of_zero_le hr
  unfold rt
  rw [Int.toNat_natCast, isq_uniq m k (by exact_mod_cast h1) (by exact_mod_cast h2)]

theorem isq_le_of {r x : Int} (hr : 0 ≤ r) (hx : 0 ≤ x) (h : r * r < (x + 1) * (x + 1)) : r ≤ x := by
  obtain ⟨m, rfl⟩ := Int.eq_ofNat_of_zero_le hx
  obtain ⟨k, rfl⟩ := Int.eq_ofNat_of_zero_le hr
  have : k ≤ m := sq_lt (by exact_mod_cast h)
  omega

theorem rt_pos (n : Int) (hn : 1 ≤ n) : 1 ≤ rt n := by
  have s := rt_spec n (by omega)
  exact isq_le_of (by omega) (rt_nonneg n) (by omega)

/-- Newton's step does not fall below the root. -/
theorem newton_ge (n x r : Int) (hx : 0 < x) (h1 : r * r ≤ n) : r ≤ (x + n / x) / 2 := by
  rcases Int.lt_or_le ((x + n / x) / 2) r with c | c
  · exfalso
    have c' : n / x + 1 ≤ 2 * r - x := by omega
    have l : n < (n / x + 1) * x := Int.lt_ediv_add_one_mul_self n hx
    have m : (n / x + 1) * x ≤ (2 * r - x) * x := Int.mul_le_mul_of_nonneg_right c' (by omega)
    have e : (2 * r - x) * x = r * r - (r - x) * (r - x) := by
      simp only [Int.sub_mul, Int.mul_sub, Int.mul_assoc, Int.mul_comm x r]; omega
    have p : 0 ≤ (r - x) * (r - x) := by
      rcases Int.le_total 0 (r - x) with q | q
      · exact Int.mul_nonneg q q
      · exact Int.mul_nonneg_of_nonpos_of_nonpos q q
    omega
  · exact c

/-- Newton's steps stop at the root. -/
theorem newton_stop (n x : Int) (hx : 0 < x) (h : x ≤ (x + n / x) / 2) : x * x ≤ n := by
  have q : x ≤ n / x := by omega
  exact (Int.le_ediv_iff_mul_le hx).1 q

theorem newton_word (n x r : Int) (hr : 0 ≤ r) (hx : r ≤ x) (hx0 : 0 < x) (h2 : n < (r + 1) * (r + 1)) (hb : r < 9223372036854775808) :
    n / x ≤ r + 2 ∧ n < x * 18446744073709551616 := by
  have e : (r + 1) * (r + 1) = r * (r + 2) + 1 := by
    simp only [Int.add_mul, Int.mul_add]; omega
  have m : r * (r + 2) ≤ x * (r + 2) := Int.mul_le_mul_of_nonneg_right hx (by omega)
  refine ⟨?_, ?_⟩
  · have : n / x < r + 3 := by
      rw [Int.ediv_lt_iff_lt_mul hx0]
      have e2 : (r + 3) * x = x * (r + 2) + x := by
        rw [Int.mul_comm, show r + 3 = (r + 2) + 1 from by omega, Int.mul_add]; omega
      omega
    omega
  · have m2 : x * (r + 2) ≤ x * 9223372036854775809 := Int.mul_le_mul_of_nonneg_left (by omega) (by omega)
    omega

/-! ### rounding -/

/-- The size of an integer. -/
def mag (x : Int) : Int := if x < 0 then -x else x

theorem mag_nonneg (x : Int) : 0 ≤ mag x := by unfold mag; split <;> omega
theorem mag_le (x : Int) (h1 : -9223372036854775808 ≤ x) (h2 : x ≤ 9223372036854775807) : mag x ≤ 9223372036854775808 := by unfold mag; split <;> omega

/-- Whether a number with a rest (0: none, 1: less than a half, 2: a half, 3: more) is rounded away from nought. -/
def away (mode : Int) (neg : Bool) (rest : Int) : Bool :=
  if mode = 0 then neg && decide (rest ≠ 0) else if mode = 1 then !neg && decide (rest ≠ 0) else (decide (rest = 3) || (decide (rest = 2) && !neg))

/-- The rounded number. -/
def rnd (mode : Int) (neg : Bool) (q rest : Int) : Int :=
  if neg then -(q + (if away mode neg rest then 1 else 0)) else q + (if away mode neg rest then 1 else 0)

/-- Whether there is such a mode and such an int. -/
def rok (mode : Int) (neg : Bool) (q rest : Int) : Bool :=
  decide (mode = 0 ∨ mode = 1 ∨ mode = 2) && decide (-9223372036854775808 ≤ rnd mode neg q rest ∧ rnd mode neg q rest ≤ 9223372036854775807)

/-- The result of a rounding. -/
def rv (mode : Int) (neg : Bool) (q rest : Int) : Int := if rok mode neg q rest then rnd mode neg q rest else 0

end Go.Proofs.Ytihmifdadikhaaa.Mth

/- The contracts of bits.LeadingZeros64, Len64 and Mul64 out of the library of contracts, laid at this program; the law of bits.Add64. -/
set_option linter.unusedVariables false
set_option linter.unusedSimpArgs false
namespace Go.Proofs
open Go.Shelf
def Try.lays134_ren : Go.Shelf.Ren := ⟨fun | 134 => 113 | 129 => 114 | n => n, fun | 53 => 95 | 3 => 3 | 4 => 4 | 46 => 103 | 5 => 5 | 9 => 9 | n => n, fun | n => n⟩
theorem Try.lays134 : Go.Proofs.Lays.n134 Try.prog Try.lays134_ren := {
  mixed := by kernel_rfl
  f129 := Try.func114.trans (congrArg some (by kernel_rfl))
  f134 := Try.func113.trans (congrArg some (by kernel_rfl))
  t3 := Try.underlying3
  a3 := Try.isAgg3
  z3 := Try.sizeOf3
  v3 := Try.zeroValue3
  t4 := Try.underlying4
  a4 := Try.isAgg4
  z4 := Try.sizeOf4
  v4 := Try.zeroValue4
  t5 := Try.underlying5
  a5 := Try.isAgg5
  z5 := Try.sizeOf5
  v5 := Try.zeroValue5
  t9 := Try.underlying9
  a9 := Try.isAgg9
  z9 := Try.sizeOf9
  v9 := Try.zeroValue9
  t46 := Try.underlying103
  a46 := Try.isAgg103
  z46 := Try.sizeOf103
  v46 := Try.zeroValue103
  t53 := Try.underlying95
  a53 := Try.isAgg95
  z53 := Try.sizeOf95
  v53 := Try.zeroValue95 }
/-- bits.LeadingZeros64: "LeadingZeros64 returns the number of leading zero bits in x; the result is 64 for x == 0.": IT RETURNS '64 - Lib.bitLen x'; the world is as it was. ITS CALLEE bits.Len64 IS MET BY ITS OWN CONTRACT OFF THE SHELF (lay that first): entered in place it sends the kernel out of memory. (LAID: no walk: one application.) -/
theorem Try.bits_LeadingZeros64 (x : Int) (w : World) (h0 : 0 ≤ x) (h1 : x ≤ 18446744073709551615) :
    Calls Try.prog 113 #[.int .u64 x] w fun e w' => e = .returned (.int .i64 (64 - (Lib.bitLen x.toNat : Int))) ∧ w' = w := Any.bits_LeadingZeros64 Try.lays134 x w h0 h1
def Try.lays129_ren : Go.Shelf.Ren := ⟨fun | 129 => 114 | n => n, fun | 53 => 95 | 3 => 3 | 4 => 4 | 46 => 103 | 5 => 5 | 9 => 9 | n => n, fun | n => n⟩
theorem Try.lays129 : Go.Proofs.Lays.n129 Try.prog Try.lays129_ren := {
  mixed := by kernel_rfl
  f129 := Try.func114.trans (congrArg some (by kernel_rfl))
  t3 := Try.underlying3
  a3 := Try.isAgg3
  z3 := Try.sizeOf3
  v3 := Try.zeroValue3
  t4 := Try.underlying4
  a4 := Try.isAgg4
  z4 := Try.sizeOf4
  v4 := Try.zeroValue4
  t5 := Try.underlying5
  a5 := Try.isAgg5
  z5 := Try.sizeOf5
  v5 := Try.zeroValue5
  t9 := Try.underlying9
  a9 := Try.isAgg9
  z9 := Try.sizeOf9
  v9 := Try.zeroValue9
  t46 := Try.underlying103
  a46 := Try.isAgg103
  z46 := Try.sizeOf103
  v46 := Try.zeroValue103
  t53 := Try.underlying95
  a53 := Try.isAgg95
  z53 := Try.sizeOf95
  v53 := Try.zeroValue95 }
/-- bits.Len64: "Len64 returns the minimum number of bits required to represent x; the result is 0 for x == 0.": IT RETURNS 'Lib.bitLen x'; the world is as it was. ('h0', 'h1': x is a uint64.) (LAID: no walk: one application.) -/
theorem Try.bits_Len64 (x : Int) (w : World) (h0 : 0 ≤ x) (h1 : x ≤ 18446744073709551615) :
    Calls Try.prog 114 #[.int .u64 x] w fun e w' => e = .returned (.int .i64 (Lib.bitLen x.toNat)) ∧ w' = w := Any.bits_Len64 Try.lays129 x w h0 h1
def Try.lays264_ren : Go.Shelf.Ren := ⟨fun | 264 => 86 | n => n, fun | 53 => 95 | 46 => 103 | n => n, fun | n => n⟩
theorem Try.lays264 : Go.Proofs.Lays.n264 Try.prog Try.lays264_ren := {
  mixed := by kernel_rfl
  f264 := Try.func86.trans (congrArg some (by kernel_rfl))
  t46 := Try.underlying103
  a46 := Try.isAgg103
  z46 := Try.sizeOf103
  v46 := Try.zeroValue103
  t53 := Try.underlying95
  a53 := Try.isAgg95
  z53 := Try.sizeOf95
  v53 := Try.zeroValue95 }
open Go.RowKit Go.Lib in
theorem Try.bits_Mul64 (x y : Nat) (hx : x < 18446744073709551616) (hy : y < 18446744073709551616) (w : World) :
    Calls Try.prog 86 #[.int .u64 x, .int .u64 y] w fun e w' => e = .returned (.tuple #[.int .u64 ((x * y / 18446744073709551616 : Nat) : Int), .int .u64 ((x * y % 18446744073709551616 : Nat) : Int)]) ∧ w' = w := Any.bits_Mul64 Try.lays264 x y hx hy w


/-- bits.Add64: the sum and the carry. -/
theorem Try.bits_Add64 (x y c : Int) (hx : 0 ≤ x) (hy : 0 ≤ y) (hc0 : 0 ≤ c) (hc : c ≤ 1) (w : World) :
    (callFunc 115 #[.int .u64 x, .int .u64 y, .int .u64 c]).run Try.prog w =
      .ok (.value (.tuple #[.int .u64 ((x + y + c) % 18446744073709551616), .int .u64 ((x + y + c) / 18446744073709551616)])) w := by
  rw [run_callFunc_extern Try.func115 (by kernel_rfl) (by kernel_rfl) (by kernel_rfl) (e := add64Entry) (by kernel_rfl), run_add64 x y c hx hy hc0 hc]
  rfl
theorem Try.bits_Add64_0 (x y : Int) (hx : 0 ≤ x) (hy : 0 ≤ y) (w : World) :
    (callFunc 115 #[.int .u64 x, .int .u64 y, .int .u64 0]).run Try.prog w =
      .ok (.value (.tuple #[.int .u64 ((x + y) % 18446744073709551616), .int .u64 ((x + y) / 18446744073709551616)])) w := by
  simpa using Try.bits_Add64 x y 0 hx hy (Int.le_refl 0) (by decide) w
theorem Try.bits_Add64_y0 (x c : Int) (hx : 0 ≤ x) (hc0 : 0 ≤ c) (hc : c ≤ 1) (w : World) :
    (callFunc 115 #[.int .u64 x, .int .u64 0, .int .u64 c]).run Try.prog w =
      .ok (.value (.tuple #[.int .u64 ((x + c) % 18446744073709551616), .int .u64 ((x + c) / 18446744073709551616)])) w := by
  simpa using Try.bits_Add64 x 0 c hx (Int.le_refl 0) hc0 hc w

end Go.Proofs

/- The walks of the small functions of package wide: size, restOf, rootRest, round. -/
set_option linter.unusedVariables false
set_option linter.unusedSimpArgs false
namespace Go.Proofs.Ytihmifdadikhaaa
open Go.RowKit

theorem ret_u64 {a b : Int} (h : a = b) : Ending.returned (.int .u64 a) = .returned (.int .u64 b) := by rw [h]
theorem ret_i64 {a b : Int} (h : a = b) : Ending.returned (.int .i64 a) = .returned (.int .i64 b) := by rw [h]

theorem size_any (x : Int) (h1 : -9223372036854775808 ≤ x) (h2 : x ≤ 9223372036854775807) (w : World) :
    Calls Try.prog 85 #[.int .i64 x] w fun e w' => e = .returned (.int .u64 (Mth.mag x)) ∧ w = w' := by
  unfold Mth.mag
  by_cases h : x < 0
  · rw [if_pos h]
    go_enter Try.func85, Try.ntmps85
    go_wp2
    go_ret
    exact ⟨ret_u64 (by simp only [IntKind.wrap_u64]; omega), rfl⟩
  · rw [if_neg h]
    go_enter Try.func85, Try.ntmps85
    go_wp2
    go_ret
    exact ⟨rfl, rfl⟩

/-- The rest of a division that left something of its divisor. -/
def restQ (l d : Int) : Int := if l = 0 then 0 else if l < d - l then 1 else if l = d - l then 2 else 3

/-- The rest of a root whose square left over and a quotient's rest. -/
def restR (q o l n : Int) : Int := if o = 0 ∧ l = 0 then 0 else if o < q ∨ o = q ∧ 4 * l < n then 1 else if o = q ∧ 4 * l = n then 2 else 3

theorem rootRest_any (q o l n : Int) (q0 : 0 ≤ q) (o0 : 0 ≤ o) (h0 : 0 ≤ l) (h1 : l < n) (h2 : n ≤ 4611686018427387904) (w : World) :
    Calls Try.prog 105 #[.int .u64 q, .int .u64 o, .int .u64 l, .int .u64 n] w fun e w' => e = .returned (.int .i64 (restR q o l n)) ∧ w = w' := by
  unfold restR
  by_cases c1 : o = 0
  · by_cases c2 : l = 0
    · subst c1; subst c2
      rw [if_pos ⟨rfl, rfl⟩]
      go_enter Try.func105, Try.ntmps105
      go_wp2
      go_ret
      exact ⟨rfl, rfl⟩
    · rw [if_neg (by omega)]
      subst c1
      have b2 : (l == 0) = false := beq_eq_false_iff_ne.2 c2
      by_cases c3 : 0 < q
      · rw [if_pos (by omega)]
        go_enter Try.func105, Try.ntmps105
        go_wp2
        go_ret
        exact ⟨rfl, rfl⟩
      · obtain rfl : q = 0 := by omega
        by_cases c4 : 4 * l < n
        · rw [if_pos (by omega)]
          go_enter Try.func105, Try.ntmps105
          go_wp2
          go_ret
          exact ⟨rfl, rfl⟩
        · rw [if_neg (by omega)]
          by_cases c5 : 4 * l = n
          · rw [if_pos (by omega)]
            have b5 : (4 * l == n) = true := beq_iff_eq.2 c5
            clear c5
            go_enter Try.func105, Try.ntmps105
            go_wp2
            go_ret
            exact ⟨rfl, rfl⟩
          · rw [if_neg (by omega)]
            have b5 : (4 * l == n) = false := beq_eq_false_iff_ne.2 c5
            go_enter Try.func105, Try.ntmps105
            go_wp2
            go_ret
            exact ⟨rfl, rfl⟩
  · rw [if_neg (by omega)]
    have b1 : (o == 0) = false := beq_eq_false_iff_ne.2 c1
    by_cases c3 : o < q
    · rw [if_pos (by omega)]
      go_enter Try.func105, Try.ntmps105
      go_wp2
      go_ret
      exact ⟨rfl, rfl⟩
    · by_cases c4 : o = q
      · subst c4
        by_cases c5 : 4 * l < n
        · rw [if_pos (by omega)]
          go_enter Try.func105, Try.ntmps105
          go_wp2
          go_ret
          exact ⟨rfl, rfl⟩
        · rw [if_neg (by omega)]
          by_cases c6 : 4 * l = n
          · rw [if_pos (by omega)]
            have b6 : (4 * l == n) = true := beq_iff_eq.2 c6
            clear c6
            go_enter Try.func105, Try.ntmps105
            go_wp2
            go_ret
            exact ⟨rfl, rfl⟩
          · rw [if_neg (by omega)]
            have b6 : (4 * l == n) = false := beq_eq_false_iff_ne.2 c6
            go_enter Try.func105, Try.ntmps105
            go_wp2
            go_ret
            exact ⟨rfl, rfl⟩
      · rw [if_neg (by omega), if_neg (by omega)]
        have b4 : (o == q) = false := beq_eq_false_iff_ne.2 c4
        go_enter Try.func105, Try.ntmps105
        go_wp2
        go_ret
        exact ⟨rfl, rfl⟩

end Go.Proofs.Ytihmifdadikhaaa

/- The walk of wide.round. -/
set_option linter.unusedVariables false
set_option linter.unusedSimpArgs false
namespace Go.Proofs.Ytihmifdadikhaaa
open Go.RowKit

theorem ret_ib {a b : Int} {p q : Bool} (h : a = b) (g : p = q) : Ending.returned (.tuple #[.int .i64 a, .bool p]) = .returned (.tuple #[.int .i64 b, .bool q]) := by rw [h, g]

theorem round_none (q r m : Int) (neg : Bool) (hm : m < 0 ∨ 2 < m) (w : World) :
    Calls Try.prog 88 #[.int .u64 q, .int .i64 r, .bool neg, .int .i64 m] w fun e w' =>
      e = .returned (.tuple #[.int .i64 (Mth.rv m neg q r), .bool (Mth.rok m neg q r)]) ∧ w = w' := by
  have e1 : Mth.rok m neg q r = false := by unfold Mth.rok; rw [decide_eq_false (by omega)]; rfl
  have e2 : Mth.rv m neg q r = 0 := by unfold Mth.rv; rw [e1]; rfl
  rw [e1, e2]
  have b0 : (m == 0) = false := beq_eq_false_iff_ne.2 (by omega)
  have b1 : (m == 1) = false := beq_eq_false_iff_ne.2 (by omega)
  have b2 : (m == 2) = false := beq_eq_false_iff_ne.2 (by omega)
  clear e1 e2 hm
  go_enter Try.func88, Try.ntmps88
  go_wp2
  go_ret2
  exact ⟨rfl, rfl⟩

theorem rok_true (m : Int) (neg : Bool) (q r v : Int) (hm0 : 0 ≤ m) (hm : m ≤ 2) (h : Mth.rnd m neg q r = v) (h1 : -9223372036854775808 ≤ v) (h2 : v ≤ 9223372036854775807) : Mth.rv m neg q r = v ∧ Mth.rok m neg q r = true := by
  have e : Mth.rok m neg q r = true := by unfold Mth.rok; rw [h, decide_eq_true (by omega), decide_eq_true ⟨h1, h2⟩]; rfl
  exact ⟨by unfold Mth.rv; rw [e]; exact h, e⟩

theorem rok_false (m : Int) (neg : Bool) (q r v : Int) (h : Mth.rnd m neg q r = v) (h1 : v < -9223372036854775808 ∨ 9223372036854775807 < v) : Mth.rv m neg q r = 0 ∧ Mth.rok m neg q r = false := by
  have e : Mth.rok m neg q r = false := by unfold Mth.rok; rw [h, decide_eq_false (p := -9223372036854775808 ≤ v ∧ v ≤ 9223372036854775807) (by omega), Bool.and_false]
  exact ⟨by unfold Mth.rv; rw [e]; rfl, e⟩

set_option maxHeartbeats 4000000 in
theorem round_some (q r m : Int) (neg : Bool) (h0 : 0 ≤ q) (h1 : q < 18446744073709551616) (r0 : 0 ≤ r) (r3 : r ≤ 3) (hm0 : 0 ≤ m) (hm : m ≤ 2) (w : World) :
    Calls Try.prog 88 #[.int .u64 q, .int .i64 r, .bool neg, .int .i64 m] w fun e w' =>
      e = .returned (.tuple #[.int .i64 (Mth.rv m neg q r), .bool (Mth.rok m neg q r)]) ∧ w = w' := by
  have cm : m = 0 ∨ m = 1 ∨ m = 2 := by omega
  have cr : r = 0 ∨ r = 1 ∨ r = 2 ∨ r = 3 := by omega
  have cq : q < 9223372036854775807 ∨ q = 9223372036854775807 ∨ q = 9223372036854775808 ∨ 9223372036854775808 < q := by omega
  have fin : ∀ v b, Mth.rv m neg q r = v ∧ Mth.rok m neg q r = b → Calls Try.prog 88 #[.int .u64 q, .int .i64 r, .bool neg, .int .i64 m] w (fun e w' => e = .returned (.tuple #[.int .i64 v, .bool b]) ∧ w = w') → Calls Try.prog 88 #[.int .u64 q, .int .i64 r, .bool neg, .int .i64 m] w (fun e w' =>
      e = .returned (.tuple #[.int .i64 (Mth.rv m neg q r), .bool (Mth.rok m neg q r)]) ∧ w = w') := by
    rintro v b ⟨rfl, rfl⟩ h; exact h
  clear r0 r3 hm0 hm
  rcases cm with rfl | rfl | rfl <;> rcases cr with rfl | rfl | rfl | rfl <;> cases neg <;> rcases cq with c | rfl | rfl | c
  all_goals
    first
    | (refine fin _ _ (rok_true _ _ _ _ _ (by omega) (by omega) (by simp only [Mth.rnd, Mth.away]; simp; first | rfl | done) (by omega) (by omega)) ?_; clear fin)
    | (refine fin _ _ (rok_false _ _ _ _ _ (by simp only [Mth.rnd, Mth.away]; simp; first | rfl | done) (by omega)) ?_; clear fin)
  all_goals
    first
    | (have d1 : decide (9223372036854775807 < q) = false := decide_eq_false (by omega)
       have d2 : decide (9223372036854775808 < q) = false := decide_eq_false (by omega)
       have e1 : (q == 9223372036854775807) = false := beq_eq_false_iff_ne.2 (by omega)
       have e2 : (q == 9223372036854775808) = false := beq_eq_false_iff_ne.2 (by omega))
    | (have d1 : decide (9223372036854775807 < q) = true := decide_eq_true (by omega)
       have d2 : decide (9223372036854775808 < q) = true := decide_eq_true (by omega))
    | skip
  all_goals
    go_enter Try.func88, Try.ntmps88
    go_wp2
    go_ret2
    refine ⟨ret_ib ?_ rfl, rfl⟩
    try simp only [IntKind.wrap_u64, wrap64]
    all_goals (first | rfl | omega)
end Go.Proofs.Ytihmifdadikhaaa

/- The walk of bits.Div64: the quotient of two words by one word. -/
set_option linter.unusedVariables false
set_option linter.unusedSimpArgs false
namespace Go.Proofs.Ytihmifdadikhaaa
open Go.RowKit

def dq (hi lo y : Int) : Int := (hi * 18446744073709551616 + lo) / y
def dr (hi lo y : Int) : Int := (hi * 18446744073709551616 + lo) % y

theorem ret_uu {a b c d : Int} (h : a = b) (g : c = d) : Ending.returned (.tuple #[.int .u64 a, .int .u64 c]) = .returned (.tuple #[.int .u64 b, .int .u64 d]) := by rw [h, g]

theorem div64_low (lo y : Int) (l0 : 0 ≤ lo) (l1 : lo < 18446744073709551616) (y0 : 0 < y) (y1 : y < 18446744073709551616) (w : World) :
    Calls Try.prog 103 #[.int .u64 0, .int .u64 lo, .int .u64 y] w fun e w' => e = .returned (.tuple #[.int .u64 (lo / y), .int .u64 (lo % y)]) ∧ ∃ n, w' = w.drewN n := by
  have b1 : (y == 0) = false := beq_eq_false_iff_ne.2 (by omega)
  have b2 : decide (y ≤ 0) = false := decide_eq_false (by omega)
  go_enter Try.func103, Try.ntmps103
  go_wp2
  go_quiet (fail)
  go_wp2
  go_ret2
  exact ⟨rfl, _, rfl⟩

/-- What is known of the shift that brings a word to the top. -/
theorem lz_any (y : Int) (y0 : 0 < y) (y1 : y < 18446744073709551616) :
    ∃ s : Int, 0 ≤ s ∧ s ≤ 63 ∧ 9223372036854775808 ≤ y * 2 ^ s.toNat ∧ y * 2 ^ s.toNat < 18446744073709551616 ∧
      ∀ w, Calls Try.prog 113 #[.int .u64 y] w fun e w' => e = .returned (.int .i64 s) ∧ w = w' := by
  obtain ⟨n, rfl⟩ := Int.eq_ofNat_of_zero_le (Int.le_of_lt y0)
  have b := Lib.bitLenAux_bounds 64 n (by omega) (by omega)
  have b4 := Lib.bitLen_le n 64 (by omega) (by omega)
  have e : Lib.bitLenAux 64 n = Lib.bitLen n := rfl
  rw [e] at b
  obtain ⟨c1, c2, c3⟩ := b
  have es : ((64 : Int) - (Lib.bitLen n : Int)).toNat = 64 - Lib.bitLen n := by omega
  have ep : ((2 : Int) ^ (64 - Lib.bitLen n)) = ((2 ^ (64 - Lib.bitLen n) : Nat) : Int) := (Int.natCast_pow 2 _).symm
  refine ⟨64 - (Lib.bitLen n : Int), by omega, by omega, ?_, ?_, fun w => ?_⟩
  · rw [es, ep, ← Int.natCast_mul]
    have m := Nat.mul_le_mul_right (2 ^ (64 - Lib.bitLen n)) c2
    rw [← Nat.pow_add, show Lib.bitLen n - 1 + (64 - Lib.bitLen n) = 63 from by omega] at m
    omega
  · rw [es, ep, ← Int.natCast_mul]
    have m := Nat.mul_lt_mul_of_pos_right c3 (Nat.two_pow_pos (64 - Lib.bitLen n))
    rw [← Nat.pow_add, show Lib.bitLen n + (64 - Lib.bitLen n) = 64 from by omega] at m
    omega
  · exact (Try.bits_LeadingZeros64 (n : Int) w (by omega) (by omega)).mono fun e w' ⟨h1, h2⟩ => ⟨h1, h2.symm⟩

theorem and_mask (x : Int) (h0 : 0 ≤ x) (h1 : x < 18446744073709551616) : bits .and .u64 x 4294967295 = x % 4294967296 := by
  obtain ⟨n, rfl⟩ := Int.eq_ofNat_of_zero_le h0
  have h := bits_and_u64_nat n 4294967295 (by omega) (by omega)
  have e : n &&& 4294967295 = n % 4294967296 := Nat.and_two_pow_sub_one_eq_mod n 32
  rw [e] at h
  exact h

/-- The two words, shifted: the upper one of them, and the lower one. -/
theorem shift_words (hi lo s : Int) (h0 : 0 ≤ hi) (l0 : 0 ≤ lo) (l1 : lo < 18446744073709551616) (s0 : 0 ≤ s) (s1 : s ≤ 63) (hb : hi * 2 ^ s.toNat + 2 ^ s.toNat ≤ 18446744073709551616) :
    ∃ U L : Int, bits .or .u64 (hi * 2 ^ s.toNat) (lo / 2 ^ (64 - s).toNat) = U ∧ IntKind.u64.wrap (lo * 2 ^ s.toNat) = L ∧ 0 ≤ L ∧ L < 18446744073709551616 ∧ 0 ≤ U ∧
      U * 18446744073709551616 + L = (hi * 18446744073709551616 + lo) * 2 ^ s.toNat := by
  obtain ⟨h, rfl⟩ := Int.eq_ofNat_of_zero_le h0
  obtain ⟨l, rfl⟩ := Int.eq_ofNat_of_zero_le l0
  obtain ⟨k, rfl⟩ := Int.eq_ofNat_of_zero_le s0
  have e2 : ((64 : Int) - (k : Int)).toNat = 64 - k := by omega
  rw [e2, Int.toNat_natCast] at *
  have pk : 0 < 2 ^ k := Nat.two_pow_pos k
  have pj : 0 < 2 ^ (64 - k) := Nat.two_pow_pos (64 - k)
  have pp : 2 ^ (64 - k) * 2 ^ k = 18446744073709551616 := by rw [← Nat.pow_add, show 64 - k + k = 64 from by omega]
  have ek : ((2 : Int) ^ k) = ((2 ^ k : Nat) : Int) := (Int.natCast_pow 2 _).symm
  have ej : ((2 : Int) ^ (64 - k)) = ((2 ^ (64 - k) : Nat) : Int) := (Int.natCast_pow 2 _).symm
  have lk : l / 2 ^ (64 - k) < 2 ^ k := by rw [Nat.div_lt_iff_lt_mul pj, Nat.mul_comm, pp]; omega
  have t := Nat.two_pow_add_eq_or_of_lt lk h
  have d1 : l * 2 ^ k / 18446744073709551616 = l / 2 ^ (64 - k) := by
    rw [← pp, Nat.mul_div_mul_right _ _ pk]
  rw [ek, ej]
  rw [ek] at hb
  generalize 2 ^ k = p at *
  generalize 2 ^ (64 - k) = j at *
  rw [Nat.mul_comm p h] at t
  simp only [← Int.natCast_mul, ← Int.natCast_ediv] at *
  have o := bits_or_u64_nat (h * p) (l / j) (by omega) (by omega)
  rw [← t] at o
  have wE : IntKind.u64.wrap ((l * p : Nat) : Int) = ((l * p % 18446744073709551616 : Nat) : Int) := by
    rw [IntKind.wrap_u64]; omega
  refine ⟨_, _, o, wE, by omega, by omega, by omega, ?_⟩
  have d3 : (h * 18446744073709551616 + l) * p = h * p * 18446744073709551616 + l * p := by
    rw [Nat.add_mul, Nat.mul_right_comm]
  have d4 : ((h : Int) * 18446744073709551616 + (l : Int)) * (p : Int) = (((h * 18446744073709551616 + l) * p : Nat) : Int) := by
    rw [Int.natCast_mul, Int.natCast_add, Int.natCast_mul]; rfl
  rw [d4, d3]
  omega

/-- The rest of the first digit, as the words reckon it. -/
theorem rest_word (U l1 T Y V : Int) (hV : (U * 4294967296 + l1) % Y = V) (hT : (U * 4294967296 + l1) / Y = T) (v1 : V < 18446744073709551616) (v0 : 0 ≤ V) :
    IntKind.u64.wrap (IntKind.u64.wrap (IntKind.u64.wrap (U * 4294967296) + l1) - IntKind.u64.wrap (T * Y)) = V := by
  have d := Int.emod_add_mul_ediv (U * 4294967296 + l1) Y
  rw [hV, hT, Int.mul_comm Y T] at d
  simp only [IntKind.wrap_u64]
  omega

/-- How the test of a digit comes out. -/
theorem digit_ways (a b y0 c T : Int) (tt : a * y0 > 4294967296 * b + c ↔ T < a) (g2 : 0 ≤ y0) (g2' : y0 < 4294967296) (hT : T < 4294967296 ∧ T ≤ a ∧ 0 ≤ T) :
    decide (4294967296 ≤ a) = true ∧ T < a ∨ decide (4294967296 ≤ a) = false ∧ a * y0 < 18446744073709551616 ∧ (T < a ∧ decide (4294967296 * b + c < a * y0) = true ∨ a = T ∧ decide (4294967296 * b + c < a * y0) = false) := by
  by_cases h : 4294967296 ≤ a
  · left; exact ⟨decide_eq_true h, by omega⟩
  · right
    refine ⟨decide_eq_false h, ?_, ?_⟩
    · have := Int.mul_le_mul (show a ≤ 4294967295 by omega) (show y0 ≤ 4294967295 by omega) g2 (by omega)
      omega
    · by_cases h2 : T < a
      · left; exact ⟨h2, decide_eq_true (tt.2 h2)⟩
      · right; exact ⟨by omega, decide_eq_false (fun h3 => h2 (tt.1 h3))⟩

/-- What the loop over a digit keeps. -/
def Dig (U y1 T a b : Int) : Prop := a * y1 + b = U ∧ T ≤ a ∧ a ≤ 4294967297 ∧ 0 ≤ b ∧ b < 4294967296

set_option maxHeartbeats 2000000 in
theorem div64_high (hi lo y : Int) (h0 : 0 < hi) (h1 : hi < y) (l0 : 0 ≤ lo) (l1 : lo < 18446744073709551616) (y1 : y < 18446744073709551616) (w : World) :
    Calls Try.prog 103 #[.int .u64 hi, .int .u64 lo, .int .u64 y] w fun e w' => e = .returned (.tuple #[.int .u64 (dq hi lo y), .int .u64 (dr hi lo y)]) ∧ w = w' := by
  obtain ⟨s, s0, s1, sa, sb, hs⟩ := lz_any y (by omega) y1
  have b1 : (y == 0) = false := beq_eq_false_iff_ne.2 (by omega)
  have b2 : decide (y ≤ hi) = false := decide_eq_false (by omega)
  have b3 : (hi == 0) = false := beq_eq_false_iff_ne.2 (by omega)
  have Hs := Lib.hid hs
  clear hs
  have pp : (0 : Int) < 2 ^ s.toNat := Int.pow_pos (by omega)
  have ph : (hi + 1) * 2 ^ s.toNat ≤ y * 2 ^ s.toNat := Int.mul_le_mul_of_nonneg_right (by omega) (by omega)
  rw [Int.add_mul, Int.one_mul] at ph
  have ph0 : 0 ≤ hi * 2 ^ s.toNat := Int.mul_nonneg (by omega) (by omega)
  obtain ⟨U, L, eU, eL, L0, L1, U0, eN⟩ := shift_words hi lo s (by omega) l0 l1 s0 s1 (by omega)
  have UY : U < y * 2 ^ s.toNat := by
    have m : (hi * 18446744073709551616 + lo) * 2 ^ s.toNat < y * 2 ^ s.toNat * 18446744073709551616 := by
      rw [Int.mul_right_comm]
      exact Int.mul_lt_mul_of_pos_right (by omega) pp
    rw [← eN] at m
    omega
  obtain ⟨eQ, eR⟩ := Mth.shifted (hi * 18446744073709551616 + lo) y (2 ^ s.toNat) pp
  have ph1 : hi * 2 ^ s.toNat < 18446744073709551616 := by omega
  obtain ⟨Y, eY⟩ : ∃ Y, y * 2 ^ s.toNat = Y := ⟨_, rfl⟩
  rw [eY] at sa sb UY eQ eR
  obtain ⟨y1', ey1⟩ : ∃ Y1, Y / 4294967296 = Y1 := ⟨_, rfl⟩
  obtain ⟨y0', ey0⟩ : ∃ Y0, bits .and .u64 Y 4294967295 = Y0 := ⟨_, rfl⟩
  obtain ⟨c1, ec1⟩ : ∃ c1, L / 4294967296 = c1 := ⟨_, rfl⟩
  obtain ⟨c0, ec0⟩ : ∃ c0, bits .and .u64 L 4294967295 = c0 := ⟨_, rfl⟩
  have fy0 := and_mask Y (by omega) sb
  have fc0 := and_mask L L0 L1
  rw [ey0] at fy0; rw [ec0] at fc0
  have hY : Y = y1' * 4294967296 + y0' := by omega
  have hL : L = c1 * 4294967296 + c0 := by omega
  have g1 : 2147483648 ≤ y1' := by omega
  have g1' : y1' < 4294967296 := by omega
  have g2 : 0 ≤ y0' := by omega
  have g2' : y0' < 4294967296 := by omega
  have k1 : 0 ≤ c1 := by omega
  have k1' : c1 < 4294967296 := by omega
  have k2 : 0 ≤ c0 := by omega
  have k2' : c0 < 4294967296 := by omega
  obtain ⟨q0, q1, r0, r1, t1⟩ := Mth.digit_guess U c1 y1' y0' Y hY g1 g2 g2' U0 UY k1 k1'
  have tn := Mth.digit_nonneg U c1 Y (by omega) U0 k1
  have ts := Mth.digit_small U c1 Y (by omega) UY k1'
  obtain ⟨D1, D2⟩ := Mth.two_digits U c1 c0 Y (by omega) k2 k2'
  obtain ⟨T, eT⟩ : ∃ T, (U * 4294967296 + c1) / Y = T := ⟨_, rfl⟩
  obtain ⟨V, eV⟩ : ∃ V, (U * 4294967296 + c1) % Y = V := ⟨_, rfl⟩
  have V0 : 0 ≤ V := by rw [← eV]; exact Int.emod_nonneg _ (by omega)
  have VY : V < Y := by rw [← eV]; exact Int.emod_lt_of_pos _ (by omega)
  rw [eT] at t1 tn ts
  have fV := rest_word U c1 T Y V eV eT (by omega) V0
  obtain ⟨Q0, Q1, R0, R1, T1⟩ := Mth.digit_guess V c0 y1' y0' Y hY g1 g2 g2' V0 VY k2 k2'
  have Tn := Mth.digit_nonneg V c0 Y (by omega) V0 k2
  have Ts := Mth.digit_small V c0 Y (by omega) VY k2'
  rw [eT, eV] at D1
  rw [eV] at D2
  obtain ⟨S, eS⟩ : ∃ S, (V * 4294967296 + c0) / Y = S := ⟨_, rfl⟩
  obtain ⟨X, eX⟩ : ∃ X, (V * 4294967296 + c0) % Y = X := ⟨_, rfl⟩
  have X0 : 0 ≤ X := by rw [← eX]; exact Int.emod_nonneg _ (by omega)
  have XY : X < Y := by rw [← eX]; exact Int.emod_lt_of_pos _ (by omega)
  rw [eS] at T1 Tn Ts D1
  rw [eX] at D2
  have fX := rest_word V c0 S Y X eX eS (by omega) X0
  have eM : (U * 4294967296 + c1) * 4294967296 + c0 = (hi * 18446744073709551616 + lo) * 2 ^ s.toNat := by rw [← eN]; omega
  rw [eM] at D1 D2
  have F1 : T * 4294967296 + S = dq hi lo y := by rw [D1, eQ]; rfl
  have F2 : X / 2 ^ s.toNat = dr hi lo y := by rw [D2, eR, Int.mul_ediv_cancel _ (by omega)]; rfl
  have HF1 := Lib.hid F1; have HF2 := Lib.hid F2
  have step1 : ∀ a b : Int, a * y1' + b = U → (a * y0' > 4294967296 * b + c1 ↔ T < a) := fun a b h => by
    rw [← eT]; exact Mth.digit_test U c1 a b y1' y0' Y hY (by omega) h
  have last1 : ∀ a b : Int, a * y1' + b = U → 4294967296 ≤ b → 0 ≤ a → a ≤ 4294967296 → T ≤ a → T = a := fun a b h h2 h3 h4 h5 => by
    rw [← eT] at h5 ⊢; exact Mth.digit_last U c1 a b y1' y0' Y hY (by omega) h h2 g2 g2' h3 h4 k1 h5
  have step2 : ∀ a b : Int, a * y1' + b = V → (a * y0' > 4294967296 * b + c0 ↔ S < a) := fun a b h => by
    rw [← eS]; exact Mth.digit_test V c0 a b y1' y0' Y hY (by omega) h
  have last2 : ∀ a b : Int, a * y1' + b = V → 4294967296 ≤ b → 0 ≤ a → a ≤ 4294967296 → S ≤ a → S = a := fun a b h h2 h3 h4 h5 => by
    rw [← eS] at h5 ⊢; exact Mth.digit_last V c0 a b y1' y0' Y hY (by omega) h h2 g2 g2' h3 h4 k2 h5
  have St1 := Lib.hid step1; have La1 := Lib.hid last1; have St2 := Lib.hid step2; have La2 := Lib.hid last2
  clear step1 last1 step2 last2 F1 F2 D1 D2 eM eT eV eS eX eQ eR eN hY hL fy0 fc0 ph pp
  have q2 : 0 ≤ U / y1' * y1' := Int.mul_nonneg q0 (by omega)
  have Q2 : 0 ≤ V / y1' * y1' := Int.mul_nonneg Q0 (by omega)
  go_enter Try.func103, Try.ntmps103
  go_wp2_with (go_at_call 113; refine (Hs.out _).mono ?_; rintro e w' ⟨rfl, rfl⟩)
  go_loop [15, 16] (fun q r => ∃ a b : Int, q = .int .u64 a ∧ r = .int .u64 b ∧ Dig U y1' T a b) (fun q _ => (intOf q).toNat)
  case atStart => exact ⟨_, _, rfl, rfl, by omega, t1, q1, r0, by omega⟩
  case round =>
    obtain ⟨a, b, rfl, rfl, he, ha, ha', hb, hb'⟩ := hrel
    have tt := St1.out a b he
    have He := Lib.hid he
    have p0 : 0 ≤ a * y0' := Int.mul_nonneg (by omega) (by omega)
    clear he
    have ways : (T < a ∧ b + y1' < 4294967296) ∨ (a = T + 1 ∧ 4294967296 ≤ b + y1') ∨ a = T := by
      by_cases hlt : T < a
      · by_cases hbr : 4294967296 ≤ b + y1'
        · have hT := La1.out (a - 1) (b + y1') (by rw [Int.sub_mul, Int.one_mul]; have := He.out; omega) hbr (by omega) (by omega) (by omega)
          right; left; exact ⟨by omega, hbr⟩
        · left; exact ⟨hlt, by omega⟩
      · right; right; omega
    have hbig := digit_ways a b y0' c1 T tt g2 g2' (by omega)
    clear tt
    rcases hbig with ⟨d1, hlt⟩ | ⟨d1, pb, ⟨hlt, d2⟩ | ⟨hq, d2⟩⟩
    · rcases ways with ⟨-, hr⟩ | ⟨rfl, hr⟩ | hq
      · go_wp2
        go_round
        case rel => exact ⟨_, _, rfl, rfl, by rw [Int.sub_mul, Int.one_mul]; have := He.out; omega, by omega, by omega, by omega, by omega⟩
        case measure => simp [intOf]; omega
      · clear hlt
        go_wp2
        clear d1 p0 He
        go_loop [18, 16] (fun q r => ∃ a b : Int, q = .int .u64 a ∧ r = .int .u64 b ∧ Dig V y1' S a b) (fun q _ => (intOf q).toNat)
        case atStart => exact ⟨_, _, rfl, rfl, by omega, T1, Q1, R0, by omega⟩
        case round =>
          obtain ⟨a, b, rfl, rfl, he, ha, ha', hb, hb'⟩ := hrel
          have tt := St2.out a b he
          have He := Lib.hid he
          have p0 : 0 ≤ a * y0' := Int.mul_nonneg (by omega) (by omega)
          clear he
          have ways : (S < a ∧ b + y1' < 4294967296) ∨ (a = S + 1 ∧ 4294967296 ≤ b + y1') ∨ a = S := by
            by_cases hlt : S < a
            · by_cases hbr : 4294967296 ≤ b + y1'
              · have hT := La2.out (a - 1) (b + y1') (by rw [Int.sub_mul, Int.one_mul]; have := He.out; omega) hbr (by omega) (by omega) (by omega)
                right; left; exact ⟨by omega, hbr⟩
              · left; exact ⟨hlt, by omega⟩
            · right; right; omega
          have hbig := digit_ways a b y0' c0 S tt g2 g2' (by omega)
          clear tt
          rcases hbig with ⟨d1, hlt⟩ | ⟨d1, pb, ⟨hlt, d2⟩ | ⟨hq, d2⟩⟩
          · rcases ways with ⟨-, hr⟩ | ⟨rfl, hr⟩ | hq
            · go_wp2
              go_round
              case rel => exact ⟨_, _, rfl, rfl, by rw [Int.sub_mul, Int.one_mul]; have := He.out; omega, by omega, by omega, by omega, by omega⟩
              case measure => simp [intOf]; omega
            · clear hlt
              go_wp2
              go_ret2
              exact ⟨ret_uu HF1.out HF2.out, rfl⟩
            · omega
          · rcases ways with ⟨-, hr⟩ | ⟨rfl, hr⟩ | hq
            · go_wp2
              go_round
              case rel => exact ⟨_, _, rfl, rfl, by rw [Int.sub_mul, Int.one_mul]; have := He.out; omega, by omega, by omega, by omega, by omega⟩
              case measure => simp [intOf]; omega
            · clear hlt
              go_wp2
              go_ret2
              exact ⟨ret_uu HF1.out HF2.out, rfl⟩
            · omega
          · subst hq
            clear ways
            go_wp2
            go_ret2
            exact ⟨ret_uu HF1.out HF2.out, rfl⟩
      · omega
    · rcases ways with ⟨-, hr⟩ | ⟨rfl, hr⟩ | hq
      · go_wp2
        go_round
        case rel => exact ⟨_, _, rfl, rfl, by rw [Int.sub_mul, Int.one_mul]; have := He.out; omega, by omega, by omega, by omega, by omega⟩
        case measure => simp [intOf]; omega
      · clear hlt
        go_wp2
        clear d1 pb d2 p0 He
        go_loop [18, 16] (fun q r => ∃ a b : Int, q = .int .u64 a ∧ r = .int .u64 b ∧ Dig V y1' S a b) (fun q _ => (intOf q).toNat)
        case atStart => exact ⟨_, _, rfl, rfl, by omega, T1, Q1, R0, by omega⟩
        case round =>
          obtain ⟨a, b, rfl, rfl, he, ha, ha', hb, hb'⟩ := hrel
          have tt := St2.out a b he
          have He := Lib.hid he
          have p0 : 0 ≤ a * y0' := Int.mul_nonneg (by omega) (by omega)
          clear he
          have ways : (S < a ∧ b + y1' < 4294967296) ∨ (a = S + 1 ∧ 4294967296 ≤ b + y1') ∨ a = S := by
            by_cases hlt : S < a
            · by_cases hbr : 4294967296 ≤ b + y1'
              · have hT := La2.out (a - 1) (b + y1') (by rw [Int.sub_mul, Int.one_mul]; have := He.out; omega) hbr (by omega) (by omega) (by omega)
                right; left; exact ⟨by omega, hbr⟩
              · left; exact ⟨hlt, by omega⟩
            · right; right; omega
          have hbig := digit_ways a b y0' c0 S tt g2 g2' (by omega)
          clear tt
          rcases hbig with ⟨d1, hlt⟩ | ⟨d1, pb, ⟨hlt, d2⟩ | ⟨hq, d2⟩⟩
          · rcases ways with ⟨-, hr⟩ | ⟨rfl, hr⟩ | hq
            · go_wp2
              go_round
              case rel => exact ⟨_, _, rfl, rfl, by rw [Int.sub_mul, Int.one_mul]; have := He.out; omega, by omega, by omega, by omega, by omega⟩
              case measure => simp [intOf]; omega
            · clear hlt
              go_wp2
              go_ret2
              exact ⟨ret_uu HF1.out HF2.out, rfl⟩
            · omega
          · rcases ways with ⟨-, hr⟩ | ⟨rfl, hr⟩ | hq
            · go_wp2
              go_round
              case rel => exact ⟨_, _, rfl, rfl, by rw [Int.sub_mul, Int.one_mul]; have := He.out; omega, by omega, by omega, by omega, by omega⟩
              case measure => simp [intOf]; omega
            · clear hlt
              go_wp2
              go_ret2
              exact ⟨ret_uu HF1.out HF2.out, rfl⟩
            · omega
          · subst hq
            clear ways
            go_wp2
            go_ret2
            exact ⟨ret_uu HF1.out HF2.out, rfl⟩
      · omega
    · subst hq
      clear ways
      go_wp2
      clear d1 pb d2 p0 He
      go_loop [18, 16] (fun q r => ∃ a b : Int, q = .int .u64 a ∧ r = .int .u64 b ∧ Dig V y1' S a b) (fun q _ => (intOf q).toNat)
      case atStart => exact ⟨_, _, rfl, rfl, by omega, T1, Q1, R0, by omega⟩
      case round =>
        obtain ⟨a, b, rfl, rfl, he, ha, ha', hb, hb'⟩ := hrel
        have tt := St2.out a b he
        have He := Lib.hid he
        have p0 : 0 ≤ a * y0' := Int.mul_nonneg (by omega) (by omega)
        clear he
        have ways : (S < a ∧ b + y1' < 4294967296) ∨ (a = S + 1 ∧ 4294967296 ≤ b + y1') ∨ a = S := by
          by_cases hlt : S < a
          · by_cases hbr : 4294967296 ≤ b + y1'
            · have hT := La2.out (a - 1) (b + y1') (by rw [Int.sub_mul, Int.one_mul]; have := He.out; omega) hbr (by omega) (by omega) (by omega)
              right; left; exact ⟨by omega, hbr⟩
            · left; exact ⟨hlt, by omega⟩
          · right; right; omega
        have hbig := digit_ways a b y0' c0 S tt g2 g2' (by omega)
        clear tt
        rcases hbig with ⟨d1, hlt⟩ | ⟨d1, pb, ⟨hlt, d2⟩ | ⟨hq, d2⟩⟩
        · rcases ways with ⟨-, hr⟩ | ⟨rfl, hr⟩ | hq
          · go_wp2
            go_round
            case rel => exact ⟨_, _, rfl, rfl, by rw [Int.sub_mul, Int.one_mul]; have := He.out; omega, by omega, by omega, by omega, by omega⟩
            case measure => simp [intOf]; omega
          · clear hlt
            go_wp2
            go_ret2
            exact ⟨ret_uu HF1.out HF2.out, rfl⟩
          · omega
        · rcases ways with ⟨-, hr⟩ | ⟨rfl, hr⟩ | hq
          · go_wp2
            go_round
            case rel => exact ⟨_, _, rfl, rfl, by rw [Int.sub_mul, Int.one_mul]; have := He.out; omega, by omega, by omega, by omega, by omega⟩
            case measure => simp [intOf]; omega
          · clear hlt
            go_wp2
            go_ret2
            exact ⟨ret_uu HF1.out HF2.out, rfl⟩
          · omega
        · subst hq
          clear ways
          go_wp2
          go_ret2
          exact ⟨ret_uu HF1.out HF2.out, rfl⟩

end Go.Proofs.Ytihmifdadikhaaa

/- The walks of bits.Mul64 over Int, wide.product, cmp.Compare, cmp.Or and wide.Cmp. -/
set_option linter.unusedVariables false
set_option linter.unusedSimpArgs false
namespace Go.Proofs.Ytihmifdadikhaaa
open Go.RowKit

def mulH (x y : Int) : Int := x * y / 18446744073709551616
def mulL (x y : Int) : Int := x * y % 18446744073709551616

theorem mul64_any (x y : Int) (h0 : 0 ≤ x) (h1 : x < 18446744073709551616) (g0 : 0 ≤ y) (g1 : y < 18446744073709551616) (w : World) :
    Calls Try.prog 86 #[.int .u64 x, .int .u64 y] w fun e w' => e = .returned (.tuple #[.int .u64 (mulH x y), .int .u64 (mulL x y)]) ∧ w = w' := by
  obtain ⟨m, rfl⟩ := Int.eq_ofNat_of_zero_le h0
  obtain ⟨n, rfl⟩ := Int.eq_ofNat_of_zero_le g0
  refine (Try.bits_Mul64 m n (by omega) (by omega) w).mono fun e w' ⟨he, hw⟩ => ⟨?_, hw.symm⟩
  rw [he]
  unfold mulH mulL
  rw [← Int.natCast_mul]
  rfl

theorem mul_split (x y : Int) : x * y = mulH x y * 18446744073709551616 + mulL x y ∧ 0 ≤ mulL x y ∧ mulL x y < 18446744073709551616 := by
  unfold mulH mulL
  generalize x * y = m
  omega

theorem mag_mul (a b : Int) : Mth.mag a * Mth.mag b = Mth.mag (a * b) := by
  unfold Mth.mag
  rcases Int.lt_or_le a 0 with ha | ha <;> rcases Int.lt_or_le b 0 with hb | hb
  · have := Int.mul_pos_of_neg_of_neg ha hb
    rw [if_pos ha, if_pos hb, if_neg (by omega), Int.neg_mul_neg]
  · rw [if_pos ha, if_neg (by omega)]
    rcases Int.lt_or_le 0 b with c | c
    · have := Int.mul_neg_of_neg_of_pos ha c
      rw [if_pos this, Int.neg_mul]
    · obtain rfl : b = 0 := by omega
      simp
  · rw [if_neg (by omega), if_pos hb]
    rcases Int.lt_or_le 0 a with c | c
    · have := Int.mul_neg_of_pos_of_neg c hb
      rw [if_pos this, Int.mul_neg]
    · obtain rfl : a = 0 := by omega
      simp
  · have := Int.mul_nonneg ha hb
    rw [if_neg (by omega), if_neg (by omega), if_neg (by omega)]

theorem mag_mul_le (a b : Int) (h1 : -9223372036854775808 ≤ a) (h2 : a ≤ 9223372036854775807) (g1 : -9223372036854775808 ≤ b) (g2 : b ≤ 9223372036854775807) :
    Mth.mag a * Mth.mag b ≤ 85070591730234615865843651857942052864 := by
  have := Int.mul_le_mul (Mth.mag_le a h1 h2) (Mth.mag_le b g1 g2) (Mth.mag_nonneg b) (by omega)
  omega

/-- The upper word of a product, with its sign. -/
def prH (a b : Int) : Int := a * b / 18446744073709551616
def prL (a b : Int) : Int := a * b % 18446744073709551616

theorem ret_iu {a b c d : Int} (h : a = b) (g : c = d) : Ending.returned (.tuple #[.int .i64 a, .int .u64 c]) = .returned (.tuple #[.int .i64 b, .int .u64 d]) := by rw [h, g]

/-- '^x' of a word. -/
theorem not_u64 (x : Int) (h0 : 0 ≤ x) (h1 : x < 18446744073709551616) : bits .xor .u64 IntKind.u64.max x = 18446744073709551615 - x := by
  obtain ⟨a, rfl⟩ := Int.eq_ofNat_of_zero_le h0
  show IntKind.u64.wrap ((BitVec.ofInt 64 (18446744073709551615) ^^^ BitVec.ofInt 64 (a : Int)).toNat : Int) = _
  have h1 : BitVec.ofInt 64 (18446744073709551615) = BitVec.allOnes 64 := by decide
  have h2 : (BitVec.ofInt 64 (a : Int)).toNat = a := by
    rw [BitVec.ofInt_natCast, BitVec.toNat_ofNat]; exact Nat.mod_eq_of_lt (by omega)
  rw [h1, BitVec.allOnes_xor, BitVec.toNat_not, h2, IntKind.wrap_u64]
  omega

theorem not_words (H L : Int) (h0 : 0 ≤ H) (h1 : H < 18446744073709551616) (l0 : 0 ≤ L) (l1 : L < 18446744073709551616) :
    ∃ X Z : Int, bits .xor .u64 IntKind.u64.max L = X ∧ bits .xor .u64 IntKind.u64.max H = Z ∧ 0 ≤ X ∧ X < 18446744073709551616 ∧ 0 ≤ Z ∧ Z < 18446744073709551616 ∧ Hid (X = 18446744073709551615 - L ∧ Z = 18446744073709551615 - H) :=
  ⟨_, _, not_u64 L l0 l1, not_u64 H h0 h1, by omega, by omega, by omega, by omega, rfl, rfl⟩

theorem neg_word (M H L : Int) (e : M = H * 18446744073709551616 + L) (l0 : 0 ≤ L) (l1 : L < 18446744073709551616) (hM : M ≤ 85070591730234615865843651857942052864) (h0 : 0 ≤ M) :
    0 ≤ H ∧ H < 9223372036854775807 := by omega

set_option maxRecDepth 100000 in
theorem product_any (a b : Int) (h1 : -9223372036854775808 ≤ a) (h2 : a ≤ 9223372036854775807) (g1 : -9223372036854775808 ≤ b) (g2 : b ≤ 9223372036854775807) (w : World) :
    Calls Try.prog 108 #[.int .i64 a, .int .i64 b] w fun e w' => e = .returned (.tuple #[.int .i64 (prH a b), .int .u64 (prL a b)]) ∧ w = w' := by
  have ma := Mth.mag_le a h1 h2
  have mb := Mth.mag_le b g1 g2
  have na := Mth.mag_nonneg a
  have nb := Mth.mag_nonneg b
  have mm := mag_mul_le a b h1 h2 g1 g2
  have mn := Int.mul_nonneg na nb
  obtain ⟨e, l0, l1⟩ := mul_split (Mth.mag a) (Mth.mag b)
  obtain ⟨k0, k1⟩ := neg_word _ _ _ e l0 l1 mm mn
  rw [mag_mul] at e mm mn
  obtain ⟨H, eH⟩ : ∃ H, mulH (Mth.mag a) (Mth.mag b) = H := ⟨_, rfl⟩
  obtain ⟨L, eL⟩ : ∃ L, mulL (Mth.mag a) (Mth.mag b) = L := ⟨_, rfl⟩
  rw [eH, eL] at e
  rw [eL] at l0 l1
  rw [eH] at k0 k1
  by_cases ca : a < 0 <;> by_cases cb : b < 0
  · have sg : Mth.mag (a * b) = a * b := by have := Int.mul_pos_of_neg_of_neg ca cb; unfold Mth.mag; rw [if_neg (by omega)]
    rw [sg] at e
    have He := Lib.hid e
    clear e sg mm mn
    have da : decide (a < 0) = true := decide_eq_true (by omega)
    have db : decide (b < 0) = true := decide_eq_true (by omega)
    go_enter Try.func108, Try.ntmps108
    go_wp2_with (first | (go_at_call 85; refine (size_any _ (by omega) (by omega) _).mono ?_; rintro e w' ⟨rfl, rfl⟩) | (go_at_call 86; refine (mul64_any _ _ (by omega) (by omega) (by omega) (by omega) _).mono ?_; rintro e w' ⟨rfl, rfl⟩))
    go_ret2
    exact ⟨ret_iu (by have := He.out; unfold prH; omega) (by have := He.out; unfold prL; omega), rfl⟩
  · have sg : Mth.mag (a * b) = -(a * b) := by
      have := Int.mul_nonneg (show 0 ≤ -a by omega) (show 0 ≤ b by omega)
      rw [Int.neg_mul] at this
      unfold Mth.mag; split <;> omega
    rw [sg] at e
    have He := Lib.hid e
    clear e sg mm mn
    have da : decide (a < 0) = true := decide_eq_true (by omega)
    have db : decide (b < 0) = false := decide_eq_false (by omega)
    obtain ⟨X, Z, eX, eZ, X0, X1, Z0, Z1, HXZ⟩ := not_words H L k0 (by omega) l0 l1
    have c0 : 0 ≤ (X + 1) / 18446744073709551616 := by omega
    have c1 : (X + 1) / 18446744073709551616 ≤ 1 := by omega
    go_enter Try.func108, Try.ntmps108
    go_wp2_with (first | (go_at_call 85; refine (size_any _ (by omega) (by omega) _).mono ?_; rintro e w' ⟨rfl, rfl⟩) | (go_at_call 86; refine (mul64_any _ _ (by omega) (by omega) (by omega) (by omega) _).mono ?_; rintro e w' ⟨rfl, rfl⟩) | simp only [Try.bits_Add64_0 X 1 X0 (by omega)] | simp only [Try.bits_Add64_y0 Z _ Z0 c0 c1])
    go_ret2
    exact ⟨ret_iu (by have := He.out; have := HXZ.out; unfold prH wrap64; omega) (by have := He.out; have := HXZ.out; unfold prL; omega), rfl⟩
  · have sg : Mth.mag (a * b) = -(a * b) := by
      have := Int.mul_nonneg (show 0 ≤ a by omega) (show 0 ≤ -b by omega)
      rw [Int.mul_neg] at this
      unfold Mth.mag; split <;> omega
    rw [sg] at e
    have He := Lib.hid e
    clear e sg mm mn
    have da : decide (a < 0) = false := decide_eq_false (by omega)
    have db : decide (b < 0) = true := decide_eq_true (by omega)
    obtain ⟨X, Z, eX, eZ, X0, X1, Z0, Z1, HXZ⟩ := not_words H L k0 (by omega) l0 l1
    have c0 : 0 ≤ (X + 1) / 18446744073709551616 := by omega
    have c1 : (X + 1) / 18446744073709551616 ≤ 1 := by omega
    go_enter Try.func108, Try.ntmps108
    go_wp2_with (first | (go_at_call 85; refine (size_any _ (by omega) (by omega) _).mono ?_; rintro e w' ⟨rfl, rfl⟩) | (go_at_call 86; refine (mul64_any _ _ (by omega) (by omega) (by omega) (by omega) _).mono ?_; rintro e w' ⟨rfl, rfl⟩) | simp only [Try.bits_Add64_0 X 1 X0 (by omega)] | simp only [Try.bits_Add64_y0 Z _ Z0 c0 c1])
    go_ret2
    exact ⟨ret_iu (by have := He.out; have := HXZ.out; unfold prH wrap64; omega) (by have := He.out; have := HXZ.out; unfold prL; omega), rfl⟩
  · have sg : Mth.mag (a * b) = a * b := by have := Int.mul_nonneg (show 0 ≤ a by omega) (show 0 ≤ b by omega); unfold Mth.mag; rw [if_neg (by omega)]
    rw [sg] at e
    have He := Lib.hid e
    clear e sg mm mn
    have da : decide (a < 0) = false := decide_eq_false (by omega)
    have db : decide (b < 0) = false := decide_eq_false (by omega)
    go_enter Try.func108, Try.ntmps108
    go_wp2_with (first | (go_at_call 85; refine (size_any _ (by omega) (by omega) _).mono ?_; rintro e w' ⟨rfl, rfl⟩) | (go_at_call 86; refine (mul64_any _ _ (by omega) (by omega) (by omega) (by omega) _).mono ?_; rintro e w' ⟨rfl, rfl⟩))
    go_ret2
    exact ⟨ret_iu (by have := He.out; unfold prH; omega) (by have := He.out; unfold prL; omega), rfl⟩

/-- How two integers compare. -/
def cmpI (x y : Int) : Int := if x < y then -1 else if x = y then 0 else 1

theorem compare_i64 (x y : Int) (w : World) :
    Calls Try.prog 110 #[.int .i64 x, .int .i64 y] w fun e w' => e = .returned (.int .i64 (cmpI x y)) ∧ w = w' := by
  unfold cmpI
  have ex : (x != x) = false := by simp
  have ey : (y != y) = false := by simp
  by_cases c1 : x < y
  · rw [if_pos c1]
    go_enter Try.func110, Try.ntmps110
    go_wp2
    go_ret
    exact ⟨rfl, rfl⟩
  · rw [if_neg c1]
    by_cases c2 : x = y
    · rw [if_pos c2]
      have c3 : ¬ y < x := by omega
      clear c2
      go_enter Try.func110, Try.ntmps110
      go_wp2
      go_ret
      exact ⟨rfl, rfl⟩
    · rw [if_neg c2]
      have c3 : y < x := by omega
      clear c2
      go_enter Try.func110, Try.ntmps110
      go_wp2
      go_ret
      exact ⟨rfl, rfl⟩

theorem compare_u64 (x y : Int) (w : World) :
    Calls Try.prog 111 #[.int .u64 x, .int .u64 y] w fun e w' => e = .returned (.int .i64 (cmpI x y)) ∧ w = w' := by
  unfold cmpI
  have ex : (x != x) = false := by simp
  have ey : (y != y) = false := by simp
  by_cases c1 : x < y
  · rw [if_pos c1]
    go_enter Try.func111, Try.ntmps111
    go_wp2
    go_ret
    exact ⟨rfl, rfl⟩
  · rw [if_neg c1]
    by_cases c2 : x = y
    · rw [if_pos c2]
      have c3 : ¬ y < x := by omega
      clear c2
      go_enter Try.func111, Try.ntmps111
      go_wp2
      go_ret
      exact ⟨rfl, rfl⟩
    · rw [if_neg c2]
      have c3 : y < x := by omega
      clear c2
      go_enter Try.func111, Try.ntmps111
      go_wp2
      go_ret
      exact ⟨rfl, rfl⟩

/-- The first number that is not nought. -/
def orI (x y : Int) : Int := if x = 0 then y else x
theorem orI_yes (x y : Int) (h : x ≠ 0) : orI x y = x := if_neg h
theorem orI_no (y : Int) : orI 0 y = y := if_pos rfl

/-- What is known at the head of the loop's round k. -/
def OrK (x y k : Int) : Prop := k = 0 ∨ k = 1 ∧ x = 0 ∨ k = 2 ∧ x = 0 ∧ y = 0

theorem or_any (x y : Int) (b : Nat) (w : World) (h0 : w.cell? ⟨b, 0, none⟩ = some (.int .i64 x)) (h1 : w.cell? ⟨b, 1, none⟩ = some (.int .i64 y)) :
    Calls Try.prog 109 #[.slice (some ⟨b, 0, none⟩) 2 2] w fun e w' => e = .returned (.int .i64 (orI x y)) ∧ w = w' := by
  have f1 : w.cell? ⟨b, 0 + 1, none⟩ = some (.int .i64 y) := h1
  go_enter Try.func109, Try.ntmps109
  go_wp2
  go_loop [8] (fun i => ∃ k : Int, i = .int .i64 k ∧ OrK x y k) (fun i => (2 - intOf i).toNat)
  case atStart => exact ⟨0, rfl, .inl rfl⟩
  case round =>
    obtain ⟨k, rfl, hk⟩ := hrel
    rcases hk with rfl | ⟨rfl, rfl⟩ | ⟨rfl, rfl, rfl⟩
    · by_cases c : x = 0
      · subst c
        go_wp2
        go_round
        case rel => exact ⟨1, rfl, .inr (.inl ⟨rfl, rfl⟩)⟩
        case measure => simp [intOf]
      · have cb : (x != 0) = true := by simp [c]
        have Hc := Lib.hid (orI_yes x y c)
        clear c
        go_wp2
        go_ret
        exact ⟨ret_i64 Hc.out.symm, rfl⟩
    · by_cases c : y = 0
      · subst c
        go_wp2
        go_round
        case rel => exact ⟨2, rfl, .inr (.inr ⟨rfl, rfl, rfl⟩)⟩
        case measure => simp [intOf]
      · have cb : (y != 0) = true := by simp [c]
        clear c
        go_wp2
        go_ret
        exact ⟨ret_i64 (orI_no y).symm, rfl⟩
    · go_wp2
      go_ret
      exact ⟨ret_i64 (orI_no 0).symm, rfl⟩

theorem cmp_words (a b c d : Int) : orI (cmpI (prH a b) (prH c d)) (cmpI (prL a b) (prL c d)) = cmpI (a * b) (c * d) := by
  unfold orI cmpI prH prL
  generalize a * b = m
  generalize c * d = n
  split <;> split <;> split <;> (try split) <;> (try split) <;> omega

theorem cmp_any (a b c d : Int) (a1 : -9223372036854775808 ≤ a) (a2 : a ≤ 9223372036854775807) (b1 : -9223372036854775808 ≤ b) (b2 : b ≤ 9223372036854775807)
    (c1 : -9223372036854775808 ≤ c) (c2 : c ≤ 9223372036854775807) (d1 : -9223372036854775808 ≤ d) (d2 : d ≤ 9223372036854775807) (w : World) :
    Calls Try.prog 98 #[.int .i64 a, .int .i64 b, .int .i64 c, .int .i64 d] w fun e w' => e = .returned (.int .i64 (cmpI (a * b) (c * d))) ∧ Below w.heap.size w w' := by
  rw [← cmp_words]
  go_enter Try.func98, Try.ntmps98
  go_wp2_with (first | (go_at_call 108; refine (product_any _ _ (by omega) (by omega) (by omega) (by omega) _).mono ?_; rintro e w' ⟨rfl, rfl⟩) | (go_at_call 110; refine (compare_i64 _ _ _).mono ?_; rintro e w' ⟨rfl, rfl⟩) | (go_at_call 111; refine (compare_u64 _ _ _).mono ?_; rintro e w' ⟨rfl, rfl⟩) | (go_at_call 109; go_loud (refine (or_any (cmpI (prH a b) (prH c d)) (cmpI (prL a b) (prL c d)) w.heap.size _ (by simp [go_sem]) (by simp [go_sem])).mono ?_); rintro e w' ⟨rfl, rfl⟩))
  go_ret
  exact ⟨rfl, (Below.refl _ _).alloc (Nat.le_refl _) _⟩

end Go.Proofs.Ytihmifdadikhaaa

/- The walk of wide.floorRoot: Newton's steps from above. -/
set_option linter.unusedVariables false
set_option linter.unusedSimpArgs false
namespace Go.Proofs.Ytihmifdadikhaaa
open Go.RowKit

theorem div64_any (hi lo y : Int) (h0 : 0 ≤ hi) (h1 : hi < y) (l0 : 0 ≤ lo) (l1 : lo < 18446744073709551616) (y1 : y < 18446744073709551616) (w : World) :
    Calls Try.prog 103 #[.int .u64 hi, .int .u64 lo, .int .u64 y] w fun e w' => e = .returned (.tuple #[.int .u64 (dq hi lo y), .int .u64 (dr hi lo y)]) ∧ ∃ n, w' = w.drewN n := by
  rcases Int.lt_or_le 0 hi with c | c
  · exact (div64_high hi lo y c h1 l0 l1 y1 w).mono fun e w' ⟨he, hw⟩ => ⟨he, 0, hw.symm⟩
  · obtain rfl : hi = 0 := by omega
    refine (div64_low lo y l0 l1 h1 y1 w).mono fun e w' ⟨he, hw⟩ => ⟨?_, hw⟩
    rw [he]; unfold dq dr; simp

theorem len64_any (x : Int) (h0 : 0 ≤ x) (h1 : x < 18446744073709551616) (w : World) :
    Calls Try.prog 114 #[.int .u64 x] w fun e w' => e = .returned (.int .i64 (Lib.bitLen x.toNat)) ∧ w = w' :=
  (Try.bits_Len64 x w h0 (by omega)).mono fun _ _ ⟨h1, h2⟩ => ⟨h1, h2.symm⟩

theorem len_lt (x : Int) (h0 : 0 < x) (h1 : x < 18446744073709551616) : x < 2 ^ (Lib.bitLen x.toNat) ∧ 1 ≤ Lib.bitLen x.toNat := by
  obtain ⟨n, rfl⟩ := Int.eq_ofNat_of_zero_le (Int.le_of_lt h0)
  rw [Int.toNat_natCast]
  obtain ⟨b1, b2, b3⟩ := Lib.bitLenAux_bounds 64 n (by omega) (by omega)
  have e : Lib.bitLenAux 64 n = Lib.bitLen n := rfl
  rw [e] at b1 b3
  refine ⟨?_, b1⟩
  rw [show ((2 : Int) ^ Lib.bitLen n) = ((2 ^ Lib.bitLen n : Nat) : Int) from (Int.natCast_pow 2 _).symm]
  omega

theorem two_pow_le {a b : Nat} (h : a ≤ b) : (2 : Int) ^ a ≤ 2 ^ b := by
  have := Nat.pow_le_pow_right (show 0 < 2 by decide) h
  rw [show ((2 : Int) ^ a) = ((2 ^ a : Nat) : Int) from (Int.natCast_pow 2 _).symm, show ((2 : Int) ^ b) = ((2 ^ b : Nat) : Int) from (Int.natCast_pow 2 _).symm]
  omega

def addS (x y : Int) : Int := (x + y) % 18446744073709551616
def addC (x y : Int) : Int := (x + y) / 18446744073709551616

theorem add64_any (x y : Int) (hx : 0 ≤ x) (hy : 0 ≤ y) (w : World) :
    (callFunc 115 #[.int .u64 x, .int .u64 y, .int .u64 0]).run Try.prog w = .ok (.value (.tuple #[.int .u64 (addS x y), .int .u64 (addC x y)])) w := Try.bits_Add64_0 x y hx hy w

theorem next_word (x y : Int) (hx : 0 ≤ x) (hy : 0 ≤ y) (h : x + y < 36893488147419103232) :
    bits .or .u64 (addC x y * 9223372036854775808) (addS x y / 2) = (x + y) / 2 := by
  unfold addC addS
  have z0 : 0 ≤ x + y := by omega
  generalize x + y = z at *
  obtain ⟨n, rfl⟩ := Int.eq_ofNat_of_zero_le z0
  have c : n / 18446744073709551616 = 0 ∨ n / 18446744073709551616 = 1 := by omega
  have t : n % 18446744073709551616 / 2 < 2 ^ 63 := by omega
  have e := Nat.two_pow_add_eq_or_of_lt t (n / 18446744073709551616)
  have o := bits_or_u64_nat (2 ^ 63 * (n / 18446744073709551616)) (n % 18446744073709551616 / 2) (by omega) (by omega)
  rw [← e] at o
  have k1 : ((2 ^ 63 * (n / 18446744073709551616) : Nat) : Int) = (n : Int) / 18446744073709551616 * 9223372036854775808 := by omega
  have k2 : ((n % 18446744073709551616 / 2 : Nat) : Int) = (n : Int) % 18446744073709551616 / 2 := by omega
  rw [k1, k2] at o
  rw [o]
  omega

/-- Newton's first step is not less than the root. -/
theorem start_root (n : Int) (l e : Nat) (h : n < 2 ^ l) (he : l ≤ e + e) : n < 2 ^ e * 2 ^ e := by
  have k : (2 : Int) ^ e * 2 ^ e = 2 ^ (e + e) := (Int.pow_add 2 e e).symm
  have m : (2 : Int) ^ l ≤ 2 ^ (e + e) := two_pow_le he
  omega

theorem pow_63 (e : Nat) (he : e ≤ 63) : 1 ≤ (2 : Int) ^ e ∧ (2 : Int) ^ e ≤ 9223372036854775808 := by
  have m : (2 : Int) ^ e ≤ 2 ^ 63 := two_pow_le he
  have p : (0 : Int) < 2 ^ e := Int.pow_pos (by decide)
  omega

theorem le_start (r P n : Int) (r0 : 0 ≤ r) (p0 : 0 ≤ P) (h1 : r * r ≤ n) (h2 : n < P * P) : r ≤ P := by
  refine Mth.isq_le_of r0 p0 ?_
  have e : (P + 1) * (P + 1) = P * P + 2 * P + 1 := by simp only [Int.add_mul, Int.mul_add]; omega
  omega

/-- What is known at the head of a round. -/
def RootK (n v : Int) : Prop := Mth.rt n ≤ v ∧ 0 < v ∧ v ≤ 9223372036854775808

set_option maxHeartbeats 2000000 in
theorem root_word (low : Int) (l0 : 0 < low) (l1 : low < 18446744073709551616) (w : World) :
    Calls Try.prog 104 #[.int .u64 0, .int .u64 low] w fun e w' => e = .returned (.int .u64 (Mth.rt low)) ∧ ∃ n, w' = w.drewN n := by
  obtain ⟨k1, k2⟩ := len_lt low l0 l1
  have k3 : Lib.bitLen low.toNat ≤ 64 := Lib.bitLen_le low.toNat 64 (by omega) (by omega)
  have lw : ∀ w, Calls Try.prog 114 #[.int .u64 low] w fun e w' => e = .returned (.int .i64 (Lib.bitLen low.toNat)) ∧ w = w' := len64_any low (by omega) l1
  have b1 : (low == 0) = false := beq_eq_false_iff_ne.2 (by omega)
  have k4 := start_root low (Lib.bitLen low.toNat) ((Lib.bitLen low.toNat + 1) / 2) k1 (by omega)
  obtain ⟨k5, k6⟩ := pow_63 ((Lib.bitLen low.toNat + 1) / 2) (by omega)
  generalize Lib.bitLen low.toNat = L at *
  have Lw := Lib.hid lw
  obtain ⟨P, eP⟩ : ∃ P, (2 : Int) ^ ((L + 1) / 2) = P := ⟨_, rfl⟩
  rw [eP] at k4 k5 k6
  have rs := Mth.rt_spec low (by omega)
  have r0 := Mth.rt_nonneg low
  have rp := Mth.rt_pos low (by omega)
  have r1 : Mth.rt low ≤ P := le_start _ _ _ r0 (by omega) rs.1 k4
  have r2 : Mth.rt low ≤ 9223372036854775807 := Mth.isq_le_of r0 (by omega) (by omega)
  have St := Lib.hid (show RootK low P from ⟨r1, by omega, k6⟩)
  have Rs := Lib.hid rs
  clear lw k1 k4 rs r1
  go_enter Try.func104, Try.ntmps104
  go_wp2_with (go_at_call 114; refine (Lw.out _).mono ?_; rintro e w' ⟨rfl, rfl⟩)
  simp only [eP]
  go_loopw [6] (fun x wr => ∃ v, x = .int .u64 v ∧ RootK low v ∧ ∃ n, wr = w.drewN n) (fun x _ => (intOf x).toNat)
  case atStart => exact ⟨P, rfl, St.out, 0, rfl⟩
  case round =>
    obtain ⟨v, rfl, ⟨hr, hv, hv'⟩, n, rfl⟩ := hrel
    obtain ⟨n1, n2⟩ := Mth.newton_word low v _ r0 hr hv Rs.out.2 (by omega)
    have q0 : 0 ≤ low / v := Int.ediv_nonneg (by omega) (by omega)
    have dv : ∀ w, Calls Try.prog 103 #[.int .u64 0, .int .u64 low, .int .u64 v] w fun e w' => e = .returned (.tuple #[.int .u64 (low / v), .int .u64 (low % v)]) ∧ ∃ n, w' = w.drewN n := fun w => div64_low low v (by omega) l1 hv (by omega) w
    have ge := Mth.newton_ge low v _ hv Rs.out.1
    have stop := Mth.newton_stop low v hv
    obtain ⟨q, eq⟩ : ∃ q, low / v = q := ⟨_, rfl⟩
    obtain ⟨r, er⟩ : ∃ r, low % v = r := ⟨_, rfl⟩
    rw [eq] at q0 n1 ge stop dv
    rw [er] at dv
    have Dv := Lib.hid dv
    have c0 : 0 ≤ addC v q := by unfold addC; omega
    have c1 : addC v q ≤ 1 := by unfold addC; omega
    have s0 : 0 ≤ addS v q := by unfold addS; omega
    have s1 : addS v q < 18446744073709551616 := by unfold addS; omega
    have nx := next_word v q (by omega) q0 (by omega)
    obtain ⟨N, eN⟩ : ∃ N, (v + q) / 2 = N := ⟨_, rfl⟩
    rw [eN] at nx ge stop
    have N1 : N < 18446744073709551616 := by omega
    have EN := Lib.hid eN
    have Stop := Lib.hid stop
    clear dv n1 n2 eq er eN stop
    by_cases c : v ≤ N
    · have fin : Mth.rt low = v := Mth.rt_uniq _ _ (by omega) (Stop.out c) (by
        have k := Mth.isq_le_of (x := v) (r := Mth.rt low) r0 (by omega) (by have := Int.mul_le_mul hr hr r0 (by omega); simp only [Int.add_mul, Int.mul_add]; omega)
        have := Int.mul_le_mul (show Mth.rt low + 1 ≤ v + 1 by omega) (show Mth.rt low + 1 ≤ v + 1 by omega) (by omega) (by omega)
        have := Rs.out.2
        omega)
      have Fin := Lib.hid fin
      clear fin
      go_wp2_with (first | (go_at_call 103; refine (Dv.out _).mono ?_; rintro e w' ⟨rfl, m, rfl⟩) | simp only [add64_any v q (by omega) q0])
      go_ret
      exact ⟨ret_u64 Fin.out.symm, _, rfl⟩
    · have c' : N < v := by omega
      clear c
      go_wp2_with (first | (go_at_call 103; refine (Dv.out _).mono ?_; rintro e w' ⟨rfl, m, rfl⟩) | simp only [add64_any v q (by omega) q0])
      go_roundw
      case rel => exact ⟨N, rfl, ⟨ge, by have := EN.out; omega, by omega⟩, _, rfl⟩
      case measure => simp [intOf]; omega

set_option maxHeartbeats 2000000 in
theorem root_words (high low : Int) (h0 : 0 < high) (h1 : high < 4611686018427387904) (l0 : 0 ≤ low) (l1 : low < 18446744073709551616) (w : World) :
    Calls Try.prog 104 #[.int .u64 high, .int .u64 low] w fun e w' => e = .returned (.int .u64 (Mth.rt (high * 18446744073709551616 + low))) ∧ ∃ n, w' = w.drewN n := by
  obtain ⟨k1, k2⟩ := len_lt high h0 (by omega)
  have k3 : Lib.bitLen high.toNat ≤ 62 := Lib.bitLen_le high.toNat 62 (by omega) (by omega)
  have lw : ∀ w, Calls Try.prog 114 #[.int .u64 high] w fun e w' => e = .returned (.int .i64 (Lib.bitLen high.toNat)) ∧ w = w' := len64_any high (by omega) (by omega)
  have lv : ∀ w, ∃ k : Int, Calls Try.prog 114 #[.int .u64 low] w fun e w' => e = .returned (.int .i64 k) ∧ w = w' := fun w => ⟨_, len64_any low l0 l1 w⟩
  have b1 : (high == 0) = false := beq_eq_false_iff_ne.2 (by omega)
  have b2 : (high != 0) = true := by rw [bne_iff_ne]; omega
  have kk : high * 18446744073709551616 + low < 2 ^ (64 + Lib.bitLen high.toNat) := by
    rw [Int.pow_add]
    omega
  have k4 := start_root (high * 18446744073709551616 + low) (64 + Lib.bitLen high.toNat) ((64 + Lib.bitLen high.toNat + 1) / 2) kk (by omega)
  obtain ⟨k5, k6⟩ := pow_63 ((64 + Lib.bitLen high.toNat + 1) / 2) (by omega)
  have lu : ∀ w, Calls Try.prog 114 #[.int .u64 low] w fun e w' => e = .returned (.int .i64 (Lib.bitLen low.toNat)) ∧ w = w' := len64_any low l0 l1
  have Lu := Lib.hid lu
  clear lu lv kk
  generalize Lib.bitLen high.toNat = L at *
  have Lw := Lib.hid lw
  obtain ⟨P, eP⟩ : ∃ P, (2 : Int) ^ ((64 + L + 1) / 2) = P := ⟨_, rfl⟩
  rw [eP] at k4 k5 k6
  have rs := Mth.rt_spec (high * 18446744073709551616 + low) (by omega)
  have r0 := Mth.rt_nonneg (high * 18446744073709551616 + low)
  have rp := Mth.rt_pos (high * 18446744073709551616 + low) (by omega)
  have r1 : Mth.rt (high * 18446744073709551616 + low) ≤ P := le_start _ _ _ r0 (by omega) rs.1 k4
  have r2 : Mth.rt (high * 18446744073709551616 + low) ≤ 9223372036854775807 := Mth.isq_le_of r0 (by omega) (by omega)
  have St := Lib.hid (show RootK (high * 18446744073709551616 + low) P from ⟨r1, by omega, k6⟩)
  have Rs := Lib.hid rs
  clear lw k1 k4 rs r1
  go_enter Try.func104, Try.ntmps104
  go_wp2_with (go_at_call 114; first | ((with_reducible refine (Lu.out _).mono ?_); rintro e w' ⟨rfl, rfl⟩) | ((with_reducible refine (Lw.out _).mono ?_); rintro e w' ⟨rfl, rfl⟩))
  simp only [eP]
  go_loopw [6] (fun x wr => ∃ v, x = .int .u64 v ∧ RootK (high * 18446744073709551616 + low) v ∧ ∃ n, wr = w.drewN n) (fun x _ => (intOf x).toNat)
  case atStart => exact ⟨P, rfl, St.out, 0, rfl⟩
  case round =>
    obtain ⟨v, rfl, ⟨hr, hv, hv'⟩, n, rfl⟩ := hrel
    obtain ⟨n1, n2⟩ := Mth.newton_word (high * 18446744073709551616 + low) v _ r0 hr hv Rs.out.2 (by omega)
    have q0 : 0 ≤ (high * 18446744073709551616 + low) / v := Int.ediv_nonneg (by omega) (by omega)
    have dv : ∀ w, Calls Try.prog 103 #[.int .u64 high, .int .u64 low, .int .u64 v] w fun e w' => e = .returned (.tuple #[.int .u64 ((high * 18446744073709551616 + low) / v), .int .u64 ((high * 18446744073709551616 + low) % v)]) ∧ ∃ n, w' = w.drewN n := fun w => div64_any high low v (by omega) (by omega) l0 l1 (by omega) w
    have ge := Mth.newton_ge (high * 18446744073709551616 + low) v _ hv Rs.out.1
    have stop := Mth.newton_stop (high * 18446744073709551616 + low) v hv
    obtain ⟨q, eq⟩ : ∃ q, (high * 18446744073709551616 + low) / v = q := ⟨_, rfl⟩
    obtain ⟨r, er⟩ : ∃ r, (high * 18446744073709551616 + low) % v = r := ⟨_, rfl⟩
    rw [eq] at q0 n1 ge stop dv
    rw [er] at dv
    have Dv := Lib.hid dv
    have c0 : 0 ≤ addC v q := by unfold addC; omega
    have c1 : addC v q ≤ 1 := by unfold addC; omega
    have s0 : 0 ≤ addS v q := by unfold addS; omega
    have s1 : addS v q < 18446744073709551616 := by unfold addS; omega
    have nx := next_word v q (by omega) q0 (by omega)
    obtain ⟨N, eN⟩ : ∃ N, (v + q) / 2 = N := ⟨_, rfl⟩
    rw [eN] at nx ge stop
    have N1 : N < 18446744073709551616 := by omega
    have EN := Lib.hid eN
    have Stop := Lib.hid stop
    clear dv n1 n2 eq er eN stop
    by_cases c : v ≤ N
    · have fin : Mth.rt (high * 18446744073709551616 + low) = v := Mth.rt_uniq _ _ (by omega) (Stop.out c) (by
        have k := Mth.isq_le_of (x := v) (r := Mth.rt (high * 18446744073709551616 + low)) r0 (by omega) (by have := Int.mul_le_mul hr hr r0 (by omega); simp only [Int.add_mul, Int.mul_add]; omega)
        have := Int.mul_le_mul (show Mth.rt (high * 18446744073709551616 + low) + 1 ≤ v + 1 by omega) (show Mth.rt (high * 18446744073709551616 + low) + 1 ≤ v + 1 by omega) (by omega) (by omega)
        have := Rs.out.2
        omega)
      have Fin := Lib.hid fin
      clear fin
      go_wp2_with (first | (go_at_call 103; refine (Dv.out _).mono ?_; rintro e w' ⟨rfl, m, rfl⟩) | simp only [add64_any v q (by omega) q0])
      go_ret
      exact ⟨ret_u64 Fin.out.symm, _, rfl⟩
    · have c' : N < v := by omega
      clear c
      go_wp2_with (first | (go_at_call 103; refine (Dv.out _).mono ?_; rintro e w' ⟨rfl, m, rfl⟩) | simp only [add64_any v q (by omega) q0])
      go_roundw
      case rel => exact ⟨N, rfl, ⟨ge, by have := EN.out; omega, by omega⟩, _, rfl⟩
      case measure => simp [intOf]; omega

end Go.Proofs.Ytihmifdadikhaaa

/- The walks of wide.MulDiv, rootOf, Root, Sqrt and Over. -/
set_option linter.unusedVariables false
set_option linter.unusedSimpArgs false
namespace Go.Proofs.Ytihmifdadikhaaa
open Go.RowKit

theorem round_any (q r m : Int) (neg : Bool) (h0 : 0 ≤ q) (h1 : q < 18446744073709551616) (r0 : 0 ≤ r) (r3 : r ≤ 3) (w : World) :
    Calls Try.prog 88 #[.int .u64 q, .int .i64 r, .bool neg, .int .i64 m] w fun e w' =>
      e = .returned (.tuple #[.int .i64 (Mth.rv m neg q r), .bool (Mth.rok m neg q r)]) ∧ w = w' := by
  by_cases c : m < 0 ∨ 2 < m
  · exact round_none q r m neg c w
  · exact round_some q r m neg h0 h1 r0 r3 (by omega) (by omega) w

theorem restQ_range (l d : Int) : 0 ≤ restQ l d ∧ restQ l d ≤ 3 := by unfold restQ; split <;> (try split) <;> (try split) <;> omega
theorem restR_range (q o l n : Int) : 0 ≤ restR q o l n ∧ restR q o l n ≤ 3 := by unfold restR; split <;> (try split) <;> (try split) <;> omega

/-- The sign of a quotient. -/
def ng (a b c : Int) : Bool := (decide (a < 0) != decide (b < 0)) != decide (c < 0)
/-- The quotient's floor and its rest. -/
def mq (a b c : Int) : Int := Mth.mag a * Mth.mag b / Mth.mag c
def mr (a b c : Int) : Int := restQ (Mth.mag a * Mth.mag b % Mth.mag c) (Mth.mag c)
def mdv (a b c m : Int) : Int := if c = 0 then 0 else Mth.rv m (ng a b c) (mq a b c) (mr a b c)
def mdok (a b c m : Int) : Bool := if c = 0 then false else Mth.rok m (ng a b c) (mq a b c) (mr a b c)

theorem rok_big (m : Int) (neg : Bool) (q r : Int) (hq : 18446744073709551616 ≤ q) : Mth.rv m neg q r = 0 ∧ Mth.rok m neg q r = false := by
  refine rok_false m neg q r _ rfl ?_
  unfold Mth.rnd
  cases neg
  · right; simp only [Bool.false_eq_true, if_false]; split <;> omega
  · left; simp only [if_true]; split <;> omega

/-- The floor of the root of a quotient, and its rest. -/
def rq (N n : Int) : Int := Mth.rt (N / n)
def rr (N n : Int) : Int := restR (Mth.rt (N / n)) (N / n - Mth.rt (N / n) * Mth.rt (N / n)) (N % n) n

theorem root_any (high low : Int) (h0 : 0 ≤ high) (h1 : high < 4611686018427387904) (l0 : 0 ≤ low) (l1 : low < 18446744073709551616) (w : World) :
    Calls Try.prog 104 #[.int .u64 high, .int .u64 low] w fun e w' => e = .returned (.int .u64 (Mth.rt (high * 18446744073709551616 + low))) ∧ ∃ n, w' = w.drewN n := by
  rcases Int.lt_or_le 0 high with c | c
  · exact root_words high low c h1 l0 l1 w
  · obtain rfl : high = 0 := by omega
    rw [show (0 : Int) * 18446744073709551616 + low = low from by omega]
    rcases Int.lt_or_le 0 low with d | d
    · exact root_word low d l1 w
    · obtain rfl : low = 0 := by omega
      have e : Mth.rt 0 = 0 := rfl
      rw [e]
      go_enter Try.func104, Try.ntmps104
      go_wp2
      go_ret
      exact ⟨rfl, 0, rfl⟩

theorem ret_ui {a b c d : Int} (h : a = b) (g : c = d) : Ending.returned (.tuple #[.int .u64 a, .int .i64 c]) = .returned (.tuple #[.int .u64 b, .int .i64 d]) := by rw [h, g]

theorem rootOf_any (high low n : Int) (h0 : 0 ≤ high) (h1 : high < 4611686018427387904) (l0 : 0 ≤ low) (l1 : low < 18446744073709551616) (n0 : 0 < n) (n1 : n ≤ 4611686018427387904) (w : World) :
    Calls Try.prog 87 #[.int .u64 high, .int .u64 low, .int .u64 n] w fun e w' =>
      e = .returned (.tuple #[.int .u64 (rq (high * 18446744073709551616 + low) n), .int .i64 (rr (high * 18446744073709551616 + low) n)]) ∧ ∃ k, w' = w.drewN k := by
  have t0 : 0 ≤ high / n := Int.ediv_nonneg h0 (by omega)
  have t1 : high / n < 4611686018427387904 := by
    rw [Int.ediv_lt_iff_lt_mul n0]
    have := Int.mul_le_mul_of_nonneg_left (show 1 ≤ n by omega) (show (0 : Int) ≤ 4611686018427387904 by omega)
    omega
  have r0 : 0 ≤ high % n := Int.emod_nonneg _ (by omega)
  have r1 : high % n < n := Int.emod_lt_of_pos _ n0
  have d := Int.emod_add_mul_ediv high n
  have e1 : (high * 18446744073709551616 + low) = (high % n * 18446744073709551616 + low) + n * (high / n * 18446744073709551616) := by
    rw [← Int.mul_assoc]; omega
  have q1 : (high * 18446744073709551616 + low) / n = high / n * 18446744073709551616 + dq (high % n) low n := by
    unfold dq; rw [e1, Int.add_mul_ediv_left _ _ (by omega)]; omega
  have q2 : (high * 18446744073709551616 + low) % n = dr (high % n) low n := by
    unfold dr; rw [e1, Int.add_mul_emod_self_left]
  have b0 : 0 ≤ dq (high % n) low n := Int.ediv_nonneg (by omega) (by omega)
  have b1 : dq (high % n) low n < 18446744073709551616 := by unfold dq; rw [Int.ediv_lt_iff_lt_mul n0]; omega
  have c0 : 0 ≤ dr (high % n) low n := Int.emod_nonneg _ (by omega)
  have c1 : dr (high % n) low n < n := Int.emod_lt_of_pos _ n0
  unfold rq rr
  rw [q1, q2]
  obtain ⟨T, eT⟩ : ∃ T, high / n = T := ⟨_, rfl⟩
  obtain ⟨M, eM⟩ : ∃ M, high % n = M := ⟨_, rfl⟩
  rw [eT] at t0 t1 ⊢
  rw [eM] at r0 r1 b0 b1 c0 c1 ⊢
  obtain ⟨B, eB⟩ : ∃ B, dq M low n = B := ⟨_, rfl⟩
  obtain ⟨C, eC⟩ : ∃ C, dr M low n = C := ⟨_, rfl⟩
  rw [eB] at b0 b1 ⊢
  rw [eC] at c0 c1 ⊢
  obtain ⟨Q, eQ⟩ : ∃ Q, T * 18446744073709551616 + B = Q := ⟨_, rfl⟩
  rw [eQ]
  have s := Mth.rt_spec Q (by omega)
  have s0 := Mth.rt_nonneg Q
  have fr : ∀ w, Calls Try.prog 104 #[.int .u64 T, .int .u64 B] w fun e w' => e = .returned (.int .u64 (Mth.rt Q)) ∧ ∃ n, w' = w.drewN n := fun w => by
    have := root_any T B t0 t1 b0 b1 w
    rw [eQ] at this
    exact this
  have Fr := Lib.hid fr
  obtain ⟨r, er⟩ : ∃ r, Mth.rt Q = r := ⟨_, rfl⟩
  rw [er] at s s0 Fr ⊢
  have e2 : (r + 1) * (r + 1) = r * r + 2 * r + 1 := by simp only [Int.add_mul, Int.mul_add]; omega
  have r3 : r < 9223372036854775808 := by
    have := Mth.isq_le_of (r := r) (x := 9223372036854775807) s0 (by omega) (by omega)
    omega
  obtain ⟨O, eO⟩ : ∃ O, Q - r * r = O := ⟨_, rfl⟩
  rw [eO]
  have o0 : 0 ≤ O := by omega
  have ov : IntKind.u64.wrap (B - IntKind.u64.wrap (r * r)) = O := by
    simp only [IntKind.wrap_u64]; omega
  have nz : (n == 0) = false := beq_eq_false_iff_ne.2 (by omega)
  have dv : ∀ w, Calls Try.prog 103 #[.int .u64 M, .int .u64 low, .int .u64 n] w fun e w' => e = .returned (.tuple #[.int .u64 B, .int .u64 C]) ∧ ∃ n, w' = w.drewN n := fun w => by
    have := div64_any M low n r0 r1 l0 l1 (by omega) w
    rw [eB, eC] at this
    exact this
  have Dv := Lib.hid dv
  clear dv fr s e2 eO er eQ eB eC q1 q2 e1 d
  go_enter Try.func87, Try.ntmps87
  go_wp2
  go_quiet (fail)
  simp only [eT, eM]
  go_wp2_with (first | (go_at_call 103; refine (Dv.out _).mono ?_; rintro e w' ⟨rfl, k1, rfl⟩) | (go_at_call 104; refine (Fr.out _).mono ?_; rintro e w' ⟨rfl, k2, rfl⟩) | (go_at_call 105; refine (rootRest_any _ _ _ _ (by omega) (by omega) (by omega) (by omega) (by omega) _).mono ?_; rintro e w' ⟨rfl, rfl⟩))
  go_ret2
  exact ⟨rfl, _, rfl⟩

/-! ### Root, Sqrt, Over -/

def rtv (a b m : Int) : Int := if a < 0 ∨ b < 0 then 0 else Mth.rv m false (rq (a * b) 1) (rr (a * b) 1)
def rtok (a b m : Int) : Bool := if a < 0 ∨ b < 0 then false else Mth.rok m false (rq (a * b) 1) (rr (a * b) 1)

theorem rq_range (N n : Int) (h0 : 0 ≤ N) (hN : N < 85070591730234615865843651857942052864) (n0 : 0 < n) : 0 ≤ rq N n ∧ rq N n < 18446744073709551616 := by
  refine ⟨Mth.rt_nonneg _, ?_⟩
  unfold rq
  have q0 : 0 ≤ N / n := Int.ediv_nonneg h0 (by omega)
  have s := Mth.rt_spec (N / n) q0
  have q1 : N / n ≤ N := by
    have d := Int.emod_add_mul_ediv N n
    have := Int.emod_nonneg N (show n ≠ 0 by omega)
    have := Int.mul_le_mul_of_nonneg_right (show 1 ≤ n by omega) q0
    omega
  have := Mth.isq_le_of (r := Mth.rt (N / n)) (x := 9223372036854775807) (Mth.rt_nonneg _) (by omega) (by omega)
  omega

theorem root_any2 (a b m : Int) (a1 : -9223372036854775808 ≤ a) (a2 : a ≤ 9223372036854775807) (b1 : -9223372036854775808 ≤ b) (b2 : b ≤ 9223372036854775807) (w : World) :
    Calls Try.prog 84 #[.int .i64 a, .int .i64 b, .int .i64 m] w fun e w' => e = .returned (.tuple #[.int .i64 (rtv a b m), .bool (rtok a b m)]) ∧ ∃ n, w' = w.drewN n := by
  by_cases ca : a < 0
  · have e1 : rtv a b m = 0 := if_pos (.inl ca)
    have e2 : rtok a b m = false := if_pos (.inl ca)
    have da : decide (a < 0) = true := decide_eq_true ca
    rw [e1, e2]
    clear e1 e2
    go_enter Try.func84, Try.ntmps84
    go_wp2
    go_ret2
    exact ⟨rfl, 0, rfl⟩
  · have da : decide (a < 0) = false := decide_eq_false ca
    by_cases cb : b < 0
    · have e1 : rtv a b m = 0 := if_pos (.inr cb)
      have e2 : rtok a b m = false := if_pos (.inr cb)
      have db : decide (b < 0) = true := decide_eq_true cb
      rw [e1, e2]
      clear e1 e2
      go_enter Try.func84, Try.ntmps84
      go_wp2
      go_ret2
      exact ⟨rfl, 0, rfl⟩
    · have db : decide (b < 0) = false := decide_eq_false cb
      have e1 : rtv a b m = Mth.rv m false (rq (a * b) 1) (rr (a * b) 1) := if_neg (by omega)
      have e2 : rtok a b m = Mth.rok m false (rq (a * b) 1) (rr (a * b) 1) := if_neg (by omega)
      rw [e1, e2]
      have ga : Mth.mag a = a := if_neg ca
      have gb : Mth.mag b = b := if_neg cb
      have p0 : 0 ≤ a * b := Int.mul_nonneg (by omega) (by omega)
      have p1 : a * b ≤ 9223372036854775807 * 9223372036854775807 := Int.mul_le_mul a2 b2 (by omega) (by omega)
      obtain ⟨e, l0, l1⟩ := mul_split a b
      have h0 : 0 ≤ mulH a b := by omega
      have h1 : mulH a b < 4611686018427387904 := by omega
      obtain ⟨q0, q1⟩ := rq_range (a * b) 1 p0 (by omega) (by omega)
      have rn : 0 ≤ rr (a * b) 1 ∧ rr (a * b) 1 ≤ 3 := restR_range _ _ _ _
      obtain ⟨r0, r1⟩ := rn
      have ro : ∀ w, Calls Try.prog 87 #[.int .u64 (mulH a b), .int .u64 (mulL a b), .int .u64 1] w fun e w' =>
          e = .returned (.tuple #[.int .u64 (rq (a * b) 1), .int .i64 (rr (a * b) 1)]) ∧ ∃ k, w' = w.drewN k := fun w => by
        have := rootOf_any (mulH a b) (mulL a b) 1 h0 h1 l0 l1 (by omega) (by omega) w
        rw [← e] at this
        exact this
      have Ro := Lib.hid ro
      clear e1 e2 ro e
      generalize rq (a * b) 1 = Q at *
      generalize rr (a * b) 1 = R at *
      go_enter Try.func84, Try.ntmps84
      go_wp2_with (first | (go_at_call 85; refine (size_any _ (by omega) (by omega) _).mono ?_; rintro e w' ⟨rfl, rfl⟩) | (go_at_call 86; refine (mul64_any _ _ (by omega) (by omega) (by omega) (by omega) _).mono ?_; rintro e w' ⟨rfl, rfl⟩) | (go_at_call 87; refine (Ro.out _).mono ?_; rintro e w' ⟨rfl, n, rfl⟩) | (go_at_call 88; refine (round_any _ _ _ _ (by omega) (by omega) (by omega) (by omega) _).mono ?_; rintro e w' ⟨rfl, rfl⟩))
      go_ret2
      exact ⟨rfl, _, rfl⟩

theorem sqrt_any (n m : Int) (a1 : -9223372036854775808 ≤ n) (a2 : n ≤ 9223372036854775807) (w : World) :
    Calls Try.prog 59 #[.int .i64 n, .int .i64 m] w fun e w' => e = .returned (.tuple #[.int .i64 (rtv n 1 m), .bool (rtok n 1 m)]) ∧ ∃ k, w' = w.drewN k := by
  go_enter Try.func59, Try.ntmps59
  go_wp2_with (go_at_call 84; refine (root_any2 _ _ _ (by omega) (by omega) (by omega) (by omega) _).mono ?_; rintro e w' ⟨rfl, n, rfl⟩)
  go_ret2
  exact ⟨rfl, _, rfl⟩

end Go.Proofs.Ytihmifdadikhaaa

/- The walk of wide.Over. -/
set_option linter.unusedVariables false
set_option linter.unusedSimpArgs false
namespace Go.Proofs.Ytihmifdadikhaaa
open Go.RowKit

/-- The sign of a product. -/
def sg (a b : Int) : Bool := decide (a < 0) != decide (b < 0)
/-- The square of a product of sizes. -/
def psq (a b : Int) : Int := Mth.mag a * Mth.mag b * (Mth.mag a * Mth.mag b)
def OvBad (a b n : Int) : Prop := 2147483648 < Mth.mag a ∨ 2147483648 < Mth.mag b ∨ n < 1 ∨ 4611686018427387904 < n
instance (a b n : Int) : Decidable (OvBad a b n) := by unfold OvBad; infer_instance
def ovv (a b n m : Int) : Int := if OvBad a b n then 0 else Mth.rv m (sg a b) (rq (psq a b) n) (rr (psq a b) n)
def ovok (a b n m : Int) : Bool := if OvBad a b n then false else Mth.rok m (sg a b) (rq (psq a b) n) (rr (psq a b) n)

theorem over_any (a b n m : Int) (a1 : -9223372036854775808 ≤ a) (a2 : a ≤ 9223372036854775807) (b1 : -9223372036854775808 ≤ b) (b2 : b ≤ 9223372036854775807)
    (n1 : -9223372036854775808 ≤ n) (n2 : n ≤ 9223372036854775807) (w : World) :
    Calls Try.prog 60 #[.int .i64 a, .int .i64 b, .int .i64 n, .int .i64 m] w fun e w' =>
      e = .returned (.tuple #[.int .i64 (ovv a b n m), .bool (ovok a b n m)]) ∧ ∃ k, w' = w.drewN k := by
  have na := Mth.mag_nonneg a
  have nb := Mth.mag_nonneg b
  have ma := Mth.mag_le a a1 a2
  have mb := Mth.mag_le b b1 b2
  by_cases ca : 2147483648 < Mth.mag a
  · have e1 : ovv a b n m = 0 := if_pos (Or.inl ca)
    have e2 : ovok a b n m = false := if_pos (Or.inl ca)
    have da : decide (2147483648 < Mth.mag a) = true := decide_eq_true ca
    rw [e1, e2]
    clear e1 e2
    go_enter Try.func60, Try.ntmps60
    go_wp2_with (go_at_call 85; refine (size_any _ (by omega) (by omega) _).mono ?_; rintro e w' ⟨rfl, rfl⟩)
    go_ret2
    exact ⟨rfl, 0, rfl⟩
  have da : decide (2147483648 < Mth.mag a) = false := decide_eq_false ca
  by_cases cb : 2147483648 < Mth.mag b
  · have e1 : ovv a b n m = 0 := if_pos (Or.inr (Or.inl cb))
    have e2 : ovok a b n m = false := if_pos (Or.inr (Or.inl cb))
    have db : decide (2147483648 < Mth.mag b) = true := decide_eq_true cb
    rw [e1, e2]
    clear e1 e2
    go_enter Try.func60, Try.ntmps60
    go_wp2_with (go_at_call 85; refine (size_any _ (by omega) (by omega) _).mono ?_; rintro e w' ⟨rfl, rfl⟩)
    go_ret2
    exact ⟨rfl, 0, rfl⟩
  have db : decide (2147483648 < Mth.mag b) = false := decide_eq_false cb
  by_cases cn : n < 1
  · have e1 : ovv a b n m = 0 := if_pos (Or.inr (Or.inr (Or.inl cn)))
    have e2 : ovok a b n m = false := if_pos (Or.inr (Or.inr (Or.inl cn)))
    have dn : decide (n < 1) = true := decide_eq_true cn
    rw [e1, e2]
    clear e1 e2
    go_enter Try.func60, Try.ntmps60
    go_wp2_with (go_at_call 85; refine (size_any _ (by omega) (by omega) _).mono ?_; rintro e w' ⟨rfl, rfl⟩)
    go_ret2
    exact ⟨rfl, 0, rfl⟩
  have dn : decide (n < 1) = false := decide_eq_false cn
  by_cases cm : 4611686018427387904 < n
  · have e1 : ovv a b n m = 0 := if_pos (Or.inr (Or.inr (Or.inr cm)))
    have e2 : ovok a b n m = false := if_pos (Or.inr (Or.inr (Or.inr cm)))
    have dm : decide (4611686018427387904 < n) = true := decide_eq_true cm
    rw [e1, e2]
    clear e1 e2
    go_enter Try.func60, Try.ntmps60
    go_wp2_with (go_at_call 85; refine (size_any _ (by omega) (by omega) _).mono ?_; rintro e w' ⟨rfl, rfl⟩)
    go_ret2
    exact ⟨rfl, 0, rfl⟩
  have dm : decide (4611686018427387904 < n) = false := decide_eq_false cm
  have nbad : ¬ OvBad a b n := by unfold OvBad; omega
  have e1 : ovv a b n m = Mth.rv m (sg a b) (rq (psq a b) n) (rr (psq a b) n) := if_neg nbad
  have e2 : ovok a b n m = Mth.rok m (sg a b) (rq (psq a b) n) (rr (psq a b) n) := if_neg nbad
  rw [e1, e2]
  have gn : Mth.mag n = n := if_neg (by omega)
  have f0 : 0 ≤ Mth.mag a * Mth.mag b := Int.mul_nonneg na nb
  have f1 : Mth.mag a * Mth.mag b ≤ 4611686018427387904 := Int.mul_le_mul (show Mth.mag a ≤ 2147483648 by omega) (show Mth.mag b ≤ 2147483648 by omega) nb (by omega)
  have p0 : 0 ≤ psq a b := Int.mul_nonneg f0 f0
  have p1 : psq a b ≤ 4611686018427387904 * 4611686018427387904 := Int.mul_le_mul f1 f1 f0 (by omega)
  obtain ⟨F, eF⟩ : ∃ F, Mth.mag a * Mth.mag b = F := ⟨_, rfl⟩
  have eP : psq a b = F * F := by unfold psq; rw [eF]
  rw [eF] at f0 f1
  rw [eP] at p0 p1 ⊢
  obtain ⟨e, l0, l1⟩ := mul_split F F
  have h0 : 0 ≤ mulH F F := by omega
  have h1 : mulH F F < 4611686018427387904 := by omega
  obtain ⟨q0, q1⟩ := rq_range (F * F) n p0 (by omega) (by omega)
  have rn : 0 ≤ rr (F * F) n ∧ rr (F * F) n ≤ 3 := restR_range _ _ _ _
  obtain ⟨r0, r1⟩ := rn
  have ro : ∀ w, Calls Try.prog 87 #[.int .u64 (mulH F F), .int .u64 (mulL F F), .int .u64 n] w fun e w' =>
      e = .returned (.tuple #[.int .u64 (rq (F * F) n), .int .i64 (rr (F * F) n)]) ∧ ∃ k, w' = w.drewN k := fun w => by
    have := rootOf_any (mulH F F) (mulL F F) n h0 h1 l0 l1 (by omega) (by omega) w
    rw [← e] at this
    exact this
  have Ro := Lib.hid ro
  have es : (decide (a < 0) != decide (b < 0)) = sg a b := rfl
  clear e1 e2 ro e eP p0 p1 nbad
  generalize rq (F * F) n = Q at *
  generalize rr (F * F) n = R at *
  generalize sg a b = N at *
  obtain ⟨A, eA⟩ : ∃ A, decide (a < 0) = A := ⟨_, rfl⟩
  obtain ⟨B, eB⟩ : ∃ B, decide (b < 0) = B := ⟨_, rfl⟩
  rw [eA, eB] at es
  have es' : (!(A == B)) = N := by rw [← es]; cases A <;> cases B <;> rfl
  clear es
  go_enter Try.func60, Try.ntmps60
  go_wp2_with (first | (go_at_call 85; refine (size_any _ (by omega) (by omega) _).mono ?_; rintro e w' ⟨rfl, rfl⟩) | (go_at_call 86; refine (mul64_any _ _ (by omega) (by omega) (by omega) (by omega) _).mono ?_; rintro e w' ⟨rfl, rfl⟩) | (go_at_call 87; refine (Ro.out _).mono ?_; rintro e w' ⟨rfl, n, rfl⟩) | (go_at_call 88; refine (round_any _ _ _ _ (by omega) (by omega) (by omega) (by omega) _).mono ?_; rintro e w' ⟨rfl, rfl⟩))
  go_ret2
  exact ⟨rfl, _, rfl⟩

end Go.Proofs.Ytihmifdadikhaaa

/- The contracts of package wide in one form, the sanity check of its laws, and numbers made from numbers. -/
set_option linter.unusedVariables false
set_option linter.unusedSimpArgs false
namespace Go.Proofs.Ytihmifdadikhaaa
open Go.RowKit

/-- Of the world that was there nothing has changed. -/
def Qw (w w' : World) : Prop := Below w.heap.size w w'
theorem Qw.refl (w : World) : Qw w w := Below.refl _ _
theorem Qw.trans {a b c : World} (h : Qw a b) (k : Qw b c) : Qw a c := Below.trans h (Below.mono k h.size)
theorem Qw.drewN (w : World) (n : Nat) : Qw w (w.drewN n) := ⟨rfl, rfl, rfl, Nat.le_refl _, fun _ _ => rfl⟩

theorem cmpW (a b c d : Int) (a1 : -9223372036854775808 ≤ a) (a2 : a ≤ 9223372036854775807) (b1 : -9223372036854775808 ≤ b) (b2 : b ≤ 9223372036854775807)
    (c1 : -9223372036854775808 ≤ c) (c2 : c ≤ 9223372036854775807) (d1 : -9223372036854775808 ≤ d) (d2 : d ≤ 9223372036854775807) (w : World) :
    Calls Try.prog 98 #[.int .i64 a, .int .i64 b, .int .i64 c, .int .i64 d] w fun e w' => e = .returned (.int .i64 (cmpI (a * b) (c * d))) ∧ Qw w w' := cmp_any a b c d a1 a2 b1 b2 c1 c2 d1 d2 w

theorem rootW (a b m : Int) (a1 : -9223372036854775808 ≤ a) (a2 : a ≤ 9223372036854775807) (b1 : -9223372036854775808 ≤ b) (b2 : b ≤ 9223372036854775807) (w : World) :
    Calls Try.prog 84 #[.int .i64 a, .int .i64 b, .int .i64 m] w fun e w' => e = .returned (.tuple #[.int .i64 (rtv a b m), .bool (rtok a b m)]) ∧ Qw w w' :=
  (root_any2 a b m a1 a2 b1 b2 w).mono fun _ _ ⟨h, k, hk⟩ => ⟨h, hk ▸ Qw.drewN w k⟩

theorem sqrtW (n m : Int) (a1 : -9223372036854775808 ≤ n) (a2 : n ≤ 9223372036854775807) (w : World) :
    Calls Try.prog 59 #[.int .i64 n, .int .i64 m] w fun e w' => e = .returned (.tuple #[.int .i64 (rtv n 1 m), .bool (rtok n 1 m)]) ∧ Qw w w' :=
  (sqrt_any n m a1 a2 w).mono fun _ _ ⟨h, k, hk⟩ => ⟨h, hk ▸ Qw.drewN w k⟩

theorem overW (a b n m : Int) (a1 : -9223372036854775808 ≤ a) (a2 : a ≤ 9223372036854775807) (b1 : -9223372036854775808 ≤ b) (b2 : b ≤ 9223372036854775807)
    (n1 : -9223372036854775808 ≤ n) (n2 : n ≤ 9223372036854775807) (w : World) :
    Calls Try.prog 60 #[.int .i64 a, .int .i64 b, .int .i64 n, .int .i64 m] w fun e w' => e = .returned (.tuple #[.int .i64 (ovv a b n m), .bool (ovok a b n m)]) ∧ Qw w w' :=
  (over_any a b n m a1 a2 b1 b2 n1 n2 w).mono fun _ _ ⟨h, k, hk⟩ => ⟨h, hk ▸ Qw.drewN w k⟩

theorem tmod_of (v n : Int) (n1 : 1 ≤ n) : 0 ≤ v % n ∧ v % n < n ∧ (v.tmod n = v % n ∨ v < 0 ∧ v.tmod n = v % n - n) ∧ (0 ≤ v → v.tmod n = v % n) ∧ (v < 0 → v.tmod n ≤ 0) := by
  have m0 : 0 ≤ v % n := Int.emod_nonneg _ (by omega)
  have m1 : v % n < n := Int.emod_lt_of_pos _ (by omega)
  have e := Int.tmod_eq_emod (a := v) (b := n)
  refine ⟨m0, m1, ?_, ?_, ?_⟩
  · by_cases h : 0 ≤ v ∨ n ∣ v
    · left; rw [if_pos h] at e; omega
    · right; rw [if_neg h] at e; omega
  · intro h; rw [if_pos (.inl h)] at e; omega
  · intro h
    by_cases h2 : 0 ≤ v ∨ n ∣ v
    · rw [if_pos h2] at e
      have := Int.emod_eq_zero_of_dvd (h2.resolve_left (by omega))
      omega
    · rw [if_neg h2] at e; omega

theorem modW (v n : Int) (v1 : -9223372036854775808 ≤ v) (v2 : v ≤ 9223372036854775807) (n1 : 1 ≤ n) (n2 : n ≤ 9223372036854775807) (w : World) :
    Calls Try.prog 16 #[.int .i64 v, .int .i64 n] w fun e w' => e = .returned (.int .i64 (v % n)) ∧ w = w' := by
  have nz : (n == 0) = false := beq_eq_false_iff_ne.2 (by omega)
  have m0 : 0 ≤ v % n := Int.emod_nonneg _ (by omega)
  have m1 : v % n < n := Int.emod_lt_of_pos _ (by omega)
  go_enter Try.func16, Try.ntmps16
  go_wp2
  all_goals
    go_ret
    refine ⟨ret_i64 ?_, rfl⟩
  · rename_i h
    have := tmod_of v n n1
    unfold wrap64
    omega
  · rename_i h
    have := tmod_of v n n1
    omega

theorem betweenW (v l h : Int) (v1 : -9223372036854775808 ≤ v) (v2 : v ≤ 9223372036854775807) (l1 : -9223372036854775808 ≤ l) (l2 : h ≤ 9223372036854775807) (lh : l ≤ h) (hl : h - l + 1 ≤ 9223372036854775807) (w : World) :
    Calls Try.prog 17 #[.int .i64 v, .int .i64 l, .int .i64 h] w fun e w' => e = .returned (.int .i64 (l + v % (h - l + 1))) ∧ w = w' := by
  have m0 : 0 ≤ v % (h - l + 1) := Int.emod_nonneg _ (by omega)
  have m1 : v % (h - l + 1) < h - l + 1 := Int.emod_lt_of_pos _ (by omega)
  go_enter Try.func17, Try.ntmps17
  go_wp2_with (go_at_call 16; refine (modW _ _ (by omega) (by omega) (by omega) (by omega) _).mono ?_; rintro e w' ⟨rfl, rfl⟩)
  go_ret
  exact ⟨rfl, rfl⟩

end Go.Proofs.Ytihmifdadikhaaa

/- Plain facts on rounded quotients and roots. -/
set_option linter.unusedVariables false
set_option linter.unusedSimpArgs false
namespace Go.Proofs.Ytihmifdadikhaaa
open Go.RowKit

theorem rok_bad (m : Int) (neg : Bool) (q r : Int) (h : m < 0 ∨ 2 < m) : Mth.rv m neg q r = 0 ∧ Mth.rok m neg q r = false := by
  have e1 : Mth.rok m neg q r = false := by unfold Mth.rok; rw [decide_eq_false (by omega)]; rfl
  exact ⟨by unfold Mth.rv; rw [e1]; rfl, e1⟩

theorem md_bad (a b c m : Int) (h : m < 0 ∨ 2 < m) : mdv a b c m = 0 ∧ mdok a b c m = false := by
  obtain ⟨h1, h2⟩ := rok_bad m (ng a b c) (mq a b c) (mr a b c) h
  unfold mdv mdok; rw [h1, h2]; simp
theorem rt_bad (a b m : Int) (h : m < 0 ∨ 2 < m) : rtv a b m = 0 ∧ rtok a b m = false := by
  obtain ⟨h1, h2⟩ := rok_bad m false (rq (a * b) 1) (rr (a * b) 1) h
  unfold rtv rtok; rw [h1, h2]; simp
theorem ov_bad (a b n m : Int) (h : m < 0 ∨ 2 < m) : ovv a b n m = 0 ∧ ovok a b n m = false := by
  obtain ⟨h1, h2⟩ := rok_bad m (sg a b) (rq (psq a b) n) (rr (psq a b) n) h
  unfold ovv ovok; rw [h1, h2]; simp
theorem md_zero (a b m : Int) : mdv a b 0 m = 0 ∧ mdok a b 0 m = false := ⟨if_pos rfl, if_pos rfl⟩
theorem ov_big (a b n m : Int) (h : 2147483648 < Mth.mag a) : ovv a b n m = 0 ∧ ovok a b n m = false := ⟨if_pos (.inl h), if_pos (.inl h)⟩

/-! ### a rounded number and its neighbours -/

theorem rv_ok {m : Int} {neg : Bool} {q r : Int} (h : Mth.rok m neg q r = true) : Mth.rv m neg q r = Mth.rnd m neg q r := by unfold Mth.rv; rw [h]; rfl

theorem rnd_exact (m : Int) (neg : Bool) (q : Int) : Mth.rnd m neg q 0 = if neg then -q else q := by
  unfold Mth.rnd Mth.away
  cases neg <;> simp <;> split <;> simp

theorem rnd_pair (neg : Bool) (q r : Int) : (r = 0 → Mth.rnd 0 neg q r = Mth.rnd 1 neg q r ∧ Mth.rnd 2 neg q r = Mth.rnd 0 neg q r) ∧
    (r ≠ 0 → Mth.rnd 1 neg q r = Mth.rnd 0 neg q r + 1 ∧ (Mth.rnd 2 neg q r = Mth.rnd 0 neg q r ∨ Mth.rnd 2 neg q r = Mth.rnd 1 neg q r)) := by
  refine ⟨?_, ?_⟩
  · rintro rfl; rw [rnd_exact, rnd_exact, rnd_exact]; exact ⟨rfl, rfl⟩
  · intro h
    unfold Mth.rnd Mth.away
    cases neg
    · refine ⟨by simp [h], ?_⟩
      by_cases c : r = 3 ∨ r = 2
      · right; rcases c with c | c <;> simp [c]
      · left; simp only [not_or] at c; simp [c.1, c.2]
    · refine ⟨by simp [h]; omega, ?_⟩
      by_cases c : r = 3
      · left; simp [c]
      · right; simp [c, h]

/-! ### quotients -/

theorem mag_sign (x : Int) : Mth.mag x = x ∧ 0 ≤ x ∨ Mth.mag x = -x ∧ x < 0 := by
  unfold Mth.mag; split
  · right; exact ⟨rfl, by assumption⟩
  · left; exact ⟨rfl, by omega⟩

theorem mag_pos {c : Int} (h : c ≠ 0) : 0 < Mth.mag c := by unfold Mth.mag; split <;> omega

theorem mr_zero (a b c : Int) : mr a b c = 0 ↔ Mth.mag a * Mth.mag b % Mth.mag c = 0 := by
  unfold mr restQ
  split
  · simp [*]
  · constructor
    · intro h; split at h <;> (try split at h) <;> omega
    · intro h; contradiction

/-- A quotient with its sign and size gives back the product. -/
theorem quo_back (a b c : Int) (hc : c ≠ 0) (h : Mth.mag a * Mth.mag b = mq a b c * Mth.mag c) : (if ng a b c then -(mq a b c) else mq a b c) * c = a * b := by
  have q0 : 0 ≤ mq a b c := Int.ediv_nonneg (Int.mul_nonneg (Mth.mag_nonneg a) (Mth.mag_nonneg b)) (Mth.mag_nonneg c)
  generalize mq a b c = q at *
  unfold ng
  unfold Mth.mag at h
  by_cases ca : a < 0 <;> by_cases cb : b < 0 <;> by_cases cc : c < 0 <;> simp [ca, cb, cc] at h ⊢ <;> (try simp only [Int.neg_mul, Int.mul_neg] at h) <;> (try simp only [Int.neg_mul, Int.mul_neg]) <;> omega

theorem md_ok {a b c m : Int} (h : mdok a b c m = true) : c ≠ 0 ∧ mdv a b c m = Mth.rnd m (ng a b c) (mq a b c) (mr a b c) := by
  by_cases hc : c = 0
  · unfold mdok at h; rw [if_pos hc] at h; contradiction
  · unfold mdok at h; rw [if_neg hc] at h
    exact ⟨hc, by unfold mdv; rw [if_neg hc, rv_ok h]⟩

theorem cmpI_zero (x y : Int) : cmpI x y = 0 ↔ x = y := by unfold cmpI; split <;> (try split) <;> omega
theorem cmpI_swap (x y : Int) : cmpI y x = -cmpI x y := by unfold cmpI; split <;> split <;> (try split) <;> (try split) <;> omega
theorem cmpI_range (x y : Int) : -1 ≤ cmpI x y ∧ cmpI x y ≤ 1 := by unfold cmpI; split <;> (try split) <;> omega

/-- The exact quotient, told by a product. -/
theorem exact_iff (a b c : Int) (hc : c ≠ 0) : Mth.rnd 0 (ng a b c) (mq a b c) (mr a b c) * c = a * b ↔ mr a b c = 0 := by
  have d := Int.emod_add_mul_ediv (Mth.mag a * Mth.mag b) (Mth.mag c)
  have pc := mag_pos hc
  constructor
  · intro h
    rw [mr_zero]
    have h2 : Mth.mag (Mth.rnd 0 (ng a b c) (mq a b c) (mr a b c)) * Mth.mag c = Mth.mag a * Mth.mag b := by rw [mag_mul, h, ← mag_mul]
    rw [← h2]
    exact Int.mul_emod_left _ _
  · intro h
    rw [h, rnd_exact]
    rw [mr_zero] at h
    refine quo_back a b c hc ?_
    unfold mq
    have e := Int.mul_comm (Mth.mag c) (Mth.mag a * Mth.mag b / Mth.mag c)
    omega

theorem modes_plain (a b c : Int) (k0 : mdok a b c 0 = true) (k1 : mdok a b c 1 = true) (k2 : mdok a b c 2 = true) :
    (mdv a b c 1 = mdv a b c 0 ∧ mdv a b c 2 = mdv a b c 0 ∧ cmpI (mdv a b c 0 * c) (a * b) = 0) ∨
    (mdv a b c 1 = mdv a b c 0 + 1 ∧ (mdv a b c 2 = mdv a b c 0 ∨ mdv a b c 2 = mdv a b c 0 + 1) ∧ cmpI (mdv a b c 0 * c) (a * b) ≠ 0) := by
  obtain ⟨hc, e0⟩ := md_ok k0
  obtain ⟨_, e1⟩ := md_ok k1
  obtain ⟨_, e2⟩ := md_ok k2
  have x := exact_iff a b c hc
  obtain ⟨p1, p2⟩ := rnd_pair (ng a b c) (mq a b c) (mr a b c)
  rw [e0, e1, e2, Ne, cmpI_zero]
  by_cases h : mr a b c = 0
  · left; obtain ⟨u, v⟩ := p1 h; exact ⟨u.symm, v, x.2 h⟩
  · right
    obtain ⟨u, v⟩ := p2 h
    exact ⟨u, by omega, fun k => h (x.1 k)⟩

theorem md_range {a b c m : Int} (h : mdok a b c m = true) : -9223372036854775808 ≤ mdv a b c m ∧ mdv a b c m ≤ 9223372036854775807 := by
  obtain ⟨hc, e⟩ := md_ok h
  unfold mdok at h; rw [if_neg hc] at h
  unfold Mth.rok at h
  rw [e]
  simp only [Bool.and_eq_true, decide_eq_true_eq] at h
  exact h.2

/-! ### the negated numerator -/

theorem ng_neg (a b c : Int) (ha : a ≠ 0) : ng (-a) b c = !ng a b c := by
  unfold ng
  have : decide (-a < 0) = !decide (a < 0) := by
    by_cases h : a < 0
    · rw [decide_eq_true h, decide_eq_false (by omega)]; rfl
    · rw [decide_eq_false h, decide_eq_true (by omega)]; rfl
  rw [this]
  cases decide (a < 0) <;> cases decide (b < 0) <;> cases decide (c < 0) <;> rfl

theorem mag_neg (a : Int) : Mth.mag (-a) = Mth.mag a := by unfold Mth.mag; split <;> split <;> omega

theorem neg_plain (a b c : Int) (k0 : mdok (-a) b c 0 = true) (k1 : mdok a b c 1 = true) : mdv a b c 1 = -mdv (-a) b c 0 := by
  obtain ⟨hc, e0⟩ := md_ok k0
  obtain ⟨_, e1⟩ := md_ok k1
  have f1 : mq (-a) b c = mq a b c := by unfold mq; rw [mag_neg]
  have f2 : mr (-a) b c = mr a b c := by unfold mr; rw [mag_neg]
  rw [e0, e1, f1, f2]
  by_cases ha : a = 0
  · subst ha
    have z : mq 0 b c = 0 := by unfold mq; simp [Mth.mag]
    have y : mr 0 b c = 0 := by rw [mr_zero]; simp [Mth.mag]
    rw [z, y, rnd_exact, rnd_exact]; simp
  · rw [ng_neg a b c ha]
    unfold Mth.rnd Mth.away
    cases ng a b c <;> simp <;> split <;> omega

/-! ### a factor that cancels -/

theorem cancel_plain (a b m : Int) (hb : b ≠ 0) (a1 : -9223372036854775808 ≤ a) (a2 : a ≤ 9223372036854775807) (m0 : 0 ≤ m) (m1 : m ≤ 2) : mdv a b b m = a ∧ mdok a b b m = true := by
  have pb := mag_pos hb
  have q : mq a b b = Mth.mag a := by unfold mq; exact Int.mul_ediv_cancel _ (by omega)
  have r : mr a b b = 0 := by rw [mr_zero]; exact Int.mul_emod_left _ _
  have s : ng a b b = decide (a < 0) := by unfold ng; cases decide (a < 0) <;> cases decide (b < 0) <;> rfl
  have v : Mth.rnd m (ng a b b) (mq a b b) (mr a b b) = a := by
    rw [q, r, s, rnd_exact]; unfold Mth.mag; by_cases h : a < 0 <;> simp [h]
  obtain ⟨x, y⟩ := rok_true m (ng a b b) (mq a b b) (mr a b b) a m0 m1 v a1 a2
  unfold mdv mdok
  rw [if_neg hb, if_neg hb, x, y]
  exact ⟨rfl, rfl⟩

/-! ### roots -/

theorem rq_one (N : Int) : rq N 1 = Mth.rt N := by unfold rq; rw [Int.ediv_one]
theorem rr_one (N : Int) (h : 0 ≤ N) : rr N 1 = if N = Mth.rt N * Mth.rt N then 0 else if N ≤ Mth.rt N * Mth.rt N + Mth.rt N then 1 else 3 := by
  have s := Mth.rt_spec N h
  unfold rr restR
  rw [Int.ediv_one, Int.emod_one]
  generalize Mth.rt N * Mth.rt N = S at *
  generalize Mth.rt N = r at *
  by_cases c : N = S
  · rw [if_pos (by omega), if_pos c]
  · rw [if_neg (by omega), if_neg c]
    by_cases d : N ≤ S + r
    · rw [if_pos (by omega), if_pos d]
    · rw [if_neg (by omega), if_neg d, if_neg (by omega)]

theorem rt_small (n : Int) (h0 : 0 ≤ n) (h1 : n ≤ 9223372036854775807) : Mth.rt n ≤ 3037000499 := by
  have s := Mth.rt_spec n h0
  exact Mth.isq_le_of (Mth.rt_nonneg n) (by omega) (by omega)

theorem sqrt_plain (n m : Int) (h0 : 0 ≤ n) (h1 : n ≤ 9223372036854775807) (m0 : 0 ≤ m) (m2 : m ≤ 2) :
    rtok n 1 m = true ∧ rtv n 1 m = Mth.rnd m false (Mth.rt n) (rr n 1) := by
  have e : ¬ (n < 0 ∨ (1 : Int) < 0) := by omega
  have q := rt_small n h0 h1
  have q0 := Mth.rt_nonneg n
  have b : 0 ≤ Mth.rnd m false (Mth.rt n) (rr n 1) ∧ Mth.rnd m false (Mth.rt n) (rr n 1) ≤ 3037000500 := by
    unfold Mth.rnd; simp only [Bool.false_eq_true, if_false]; split <;> omega
  have rk := rok_true m false (Mth.rt n) (rr n 1) _ m0 m2 rfl (by omega) (by omega)
  unfold rtok rtv
  rw [if_neg e, if_neg e, Int.mul_one, rq_one, rk.1, rk.2]
  exact ⟨rfl, rfl⟩

theorem rt_square (a : Int) (h : 0 ≤ a) : Mth.rt (a * a) = a :=
  Mth.rt_uniq _ _ h (Int.le_refl _) (by simp only [Int.add_mul, Int.mul_add]; omega)

theorem root_square (a m : Int) (h : 0 ≤ a) (h1 : a ≤ 9223372036854775807) (m0 : 0 ≤ m) (m2 : m ≤ 2) : rtok a a m = true ∧ rtv a a m = a := by
  have e : ¬ (a < 0 ∨ a < 0) := by omega
  have r : rr (a * a) 1 = 0 := by rw [rr_one _ (Int.mul_nonneg h h), rt_square a h, if_pos rfl]
  have v : Mth.rnd m false (Mth.rt (a * a)) (rr (a * a) 1) = a := by rw [r, rnd_exact, rt_square a h]; rfl
  have rk := rok_true m false (Mth.rt (a * a)) (rr (a * a) 1) a m0 m2 v (by omega) h1
  unfold rtok rtv
  rw [if_neg e, if_neg e, rq_one, rk.1, rk.2]
  exact ⟨rfl, rfl⟩

theorem brackets_plain (n : Int) (h0 : 0 ≤ n) (h1 : n ≤ 9223372036854775807) : ∃ r : Int, 0 ≤ r ∧ r ≤ 3037000499 ∧ rtv n 1 0 = r ∧ cmpI (r * r) (n * 1) ≤ 0 ∧ 0 < cmpI ((r + 1) * (r + 1)) (n * 1) ∧
    (rtv n 1 1 = r ∧ rtv n 1 2 = r ∧ 0 ≤ cmpI (r * r) (n * 1) ∨ rtv n 1 1 = r + 1 ∧ (rtv n 1 2 = r ∨ rtv n 1 2 = r + 1)) := by
  have s := Mth.rt_spec n h0
  have z := rr_one n h0
  obtain ⟨p1, p2⟩ := rnd_pair false (Mth.rt n) (rr n 1)
  have e0 := (sqrt_plain n 0 h0 h1 (by omega) (by omega)).2
  have e1 := (sqrt_plain n 1 h0 h1 (by omega) (by omega)).2
  have e2 := (sqrt_plain n 2 h0 h1 (by omega) (by omega)).2
  have v0 : Mth.rnd 0 false (Mth.rt n) (rr n 1) = Mth.rt n := by unfold Mth.rnd Mth.away; simp
  refine ⟨Mth.rt n, Mth.rt_nonneg n, rt_small n h0 h1, by rw [e0, v0], ?_, ?_, ?_⟩
  · unfold cmpI; split <;> (try split) <;> omega
  · unfold cmpI; split <;> (try split) <;> omega
  · rw [e1, e2]
    rw [v0] at p1 p2
    by_cases c : rr n 1 = 0
    · left
      obtain ⟨u, v⟩ := p1 c
      refine ⟨u.symm, v, ?_⟩
      rw [c] at z
      have : n = Mth.rt n * Mth.rt n := by
        by_cases d : n = Mth.rt n * Mth.rt n
        · exact d
        · rw [if_neg d] at z; split at z <;> omega
      unfold cmpI; split <;> (try split) <;> omega
    · right
      obtain ⟨u, v⟩ := p2 c
      exact ⟨u, by omega⟩

/-! ### equal factors -/

theorem order_plain (a b c : Int) : (a = 0 ∨ b = c → cmpI (a * b) (a * c) = 0) ∧ (a ≠ 0 → b ≠ c → (decide (0 < a) = decide (c < b)) → cmpI (a * b) (a * c) = 1) ∧ (a ≠ 0 → b ≠ c → (decide (0 < a) ≠ decide (c < b)) → cmpI (a * b) (a * c) = -1) := by
  refine ⟨?_, ?_, ?_⟩
  · rintro (rfl | rfl)
    · simp [cmpI_zero]
    · rw [cmpI_zero]
  · intro ha hb h
    have : a * c < a * b := by
      rcases Int.lt_or_le 0 a with p | p
      · rw [decide_eq_true p] at h
        exact Int.mul_lt_mul_of_pos_left (of_decide_eq_true h.symm) p
      · rw [decide_eq_false (by omega)] at h
        have hbc : ¬ c < b := of_decide_eq_false h.symm
        have := Int.mul_lt_mul_of_neg_left (show b < c by omega) (show a < 0 by omega)
        omega
    unfold cmpI; rw [if_neg (by omega), if_neg (by omega)]
  · intro ha hb h
    have : a * b < a * c := by
      rcases Int.lt_or_le 0 a with p | p
      · rw [decide_eq_true p] at h
        have hbc : ¬ c < b := fun k => h (decide_eq_true k).symm
        exact Int.mul_lt_mul_of_pos_left (show b < c by omega) p
      · rw [decide_eq_false (by omega)] at h
        have hbc : c < b := by
          by_cases k : c < b
          · exact k
          · exact absurd (decide_eq_false k).symm h
        exact Int.mul_lt_mul_of_neg_left hbc (by omega)
    unfold cmpI; rw [if_pos this]

end Go.Proofs.Ytihmifdadikhaaa
