import Derived.Test.YtciglhecjkeogaaGreatDoorRows
import Derived.WalkKit
import Derived.BigQuiet
import Derived.Deep.QuietTactic
import Derived.Lib.Hide
import Derived.Shelf.Small.Bits
import Derived.Shelf.Strconv.Itoa0
import Derived.Shelf.Bits.Mul64
import Derived.Laws.Externs
import Derived.Below
import Derived.Lib.ItoaNum
set_option linter.unusedVariables false
set_option linter.unusedSimpArgs false
namespace Go.Proofs.YtciglhecjkeogaaGreatDoor.Mth
theorem digit_test (u c q r y1 y0 Y : Int) (hY : Y = y1 * 4294967296 + y0) (hY0 : 0 < Y) (he : q * y1 + r = u) :
    q * y0 > 4294967296 * r + c ↔ (u * 4294967296 + c) / Y < q := by
  rw [Int.ediv_lt_iff_lt_mul hY0]
  have e : q * Y = q * y1 * 4294967296 + q * y0 := by rw [hY, Int.mul_add, Int.mul_assoc]
  rw [e]
  have e2 : q * y1 = u - r := by omega
  rw [e2]
  constructor <;> intro h <;> omega
theorem digit_small (u c Y : Int) (hY0 : 0 < Y) (hu : u < Y) (hc : c < 4294967296) : (u * 4294967296 + c) / Y < 4294967296 := by
  rw [Int.ediv_lt_iff_lt_mul hY0]
  have : 4294967296 * Y = Y * 4294967296 := Int.mul_comm _ _
  omega
theorem digit_nonneg (u c Y : Int) (hY0 : 0 < Y) (hu : 0 ≤ u) (hc : 0 ≤ c) : 0 ≤ (u * 4294967296 + c) / Y :=
  Int.ediv_nonneg (by omega) (by omega)
theorem digit_guess (u c y1 y0 Y : Int) (hY : Y = y1 * 4294967296 + y0) (h1 : 2147483648 ≤ y1) (h0 : 0 ≤ y0) (h0' : y0 < 4294967296) (hu : 0 ≤ u) (hu' : u < Y) (hc : 0 ≤ c) (hc' : c < 4294967296) :
    0 ≤ u / y1 ∧ u / y1 ≤ 4294967297 ∧ 0 ≤ u - u / y1 * y1 ∧ u - u / y1 * y1 < y1 ∧ (u * 4294967296 + c) / Y ≤ u / y1 := by
  have hy : 0 < y1 := by omega
  have d := Int.emod_add_mul_ediv u y1
  have m1 := Int.emod_nonneg u (by omega : y1 ≠ 0)
  have m2 := Int.emod_lt_of_pos u hy
  have dc : y1 * (u / y1) = u / y1 * y1 := Int.mul_comm _ _
  have q0 : 0 ≤ u / y1 := Int.ediv_nonneg hu (by omega)
  refine ⟨q0, ?_, by omega, by omega, ?_⟩
  · have : u / y1 < 4294967298 := by
      rw [Int.ediv_lt_iff_lt_mul hy]; omega
    omega
  · have : (u * 4294967296 + c) / Y < u / y1 + 1 := by
      rw [Int.ediv_lt_iff_lt_mul (by omega : 0 < Y)]
      have e : (u / y1 + 1) * Y = (u / y1 * y1 + y1) * 4294967296 + (u / y1 * y0 + y0) := by
        rw [hY, Int.add_mul, Int.mul_add, ← Int.mul_assoc]; omega
      have p : 0 ≤ u / y1 * y0 := Int.mul_nonneg q0 h0
      rw [e]; omega
    omega
theorem digit_last (u c q r y1 y0 Y : Int) (hY : Y = y1 * 4294967296 + y0) (hY0 : 0 < Y) (he : q * y1 + r = u) (hr : 4294967296 ≤ r) (h0 : 0 ≤ y0) (h0' : y0 < 4294967296) (hq0 : 0 ≤ q) (hq : q ≤ 4294967296) (hc : 0 ≤ c)
    (hT : (u * 4294967296 + c) / Y ≤ q) : (u * 4294967296 + c) / Y = q := by
  have t := digit_test u c q r y1 y0 Y hY hY0 he
  have b : q * y0 ≤ 4294967296 * 4294967295 := by
    have := Int.mul_le_mul hq (by omega : y0 ≤ 4294967295) h0 (by omega)
    exact this
  have : ¬ (u * 4294967296 + c) / Y < q := by rw [← t]; omega
  omega
theorem two_digits (u c1 c0 Y : Int) (hY0 : 0 < Y) (hc0 : 0 ≤ c0) (hc0' : c0 < 4294967296) :
    (u * 4294967296 + c1) / Y * 4294967296 + ((u * 4294967296 + c1) % Y * 4294967296 + c0) / Y = ((u * 4294967296 + c1) * 4294967296 + c0) / Y ∧
    ((u * 4294967296 + c1) % Y * 4294967296 + c0) % Y = ((u * 4294967296 + c1) * 4294967296 + c0) % Y := by
  generalize u * 4294967296 + c1 = x
  have d := Int.emod_add_mul_ediv x Y
  have e : x * 4294967296 + c0 = (x % Y * 4294967296 + c0) + Y * (x / Y * 4294967296) := by
    rw [← Int.mul_assoc]; omega
  rw [e]
  refine ⟨?_, ?_⟩
  · rw [Int.add_mul_ediv_left _ _ (by omega)]; omega
  · rw [Int.add_mul_emod_self_left]
theorem shifted (n y s : Int) (hs : 0 < s) : n * s / (y * s) = n / y ∧ n * s % (y * s) = n % y * s := by
  refine ⟨Int.mul_ediv_mul_of_pos_left _ _ hs, ?_⟩
  rw [Int.mul_comm n s, Int.mul_comm y s, Int.mul_emod_mul_of_pos _ _ hs, Int.mul_comm]
def isq : Nat → Nat
  | 0 => 0
  | n + 1 => if (isq n + 1) * (isq n + 1) ≤ n + 1 then isq n + 1 else isq n
theorem sq_succ (r : Nat) : (r + 1) * (r + 1) = r * r + 2 * r + 1 := by
  rw [Nat.add_mul, Nat.mul_add]; omega
theorem isq_spec (n : Nat) : isq n * isq n ≤ n ∧ n < (isq n + 1) * (isq n + 1) := by
  induction n with
  | zero => simp [isq]
  | succ n ih =>
    unfold isq
    have e := sq_succ (isq n + 1)
    split <;> omega
theorem sq_lt {r k : Nat} (h : r * r < (k + 1) * (k + 1)) : r ≤ k := by
  rcases Nat.lt_or_ge k r with c | c
  · have := Nat.mul_le_mul c c
    simp only [Nat.succ_eq_add_one] at this
    omega
  · exact c
theorem isq_uniq (n r : Nat) (h1 : r * r ≤ n) (h2 : n < (r + 1) * (r + 1)) : isq n = r := by
  have s := isq_spec n
  have a : isq n ≤ r := sq_lt (by omega)
  have b : r ≤ isq n := sq_lt (by omega)
  omega
def rt (n : Int) : Int := (isq n.toNat : Int)
theorem rt_nonneg (n : Int) : 0 ≤ rt n := by unfold rt; omega
theorem rt_spec (n : Int) (hn : 0 ≤ n) : rt n * rt n ≤ n ∧ n < (rt n + 1) * (rt n + 1) := by
  obtain ⟨m, rfl⟩ := Int.eq_ofNat_of_zero_le hn
  have s := isq_spec m
  unfold rt
  rw [Int.toNat_natCast]
  refine ⟨?_, ?_⟩
  · have := s.1; exact_mod_cast this
  · have := s.2; exact_mod_cast this
theorem rt_uniq (n r : Int) (hr : 0 ≤ r) (h1 : r * r ≤ n) (h2 : n < (r + 1) * (r + 1)) : rt n = r := by
  have hn : 0 ≤ n := Int.le_trans (Int.mul_nonneg hr hr) h1
  obtain ⟨m, rfl⟩ := Int.eq_ofNat_of_zero_le hn
  obtain ⟨k, rfl⟩ := Int.eq_ofNat_of_zero_le hr
  unfold rt
  rw [Int.toNat_natCast, isq_uniq m k (by exact_mod_cast h1) (by exact_mod_cast h2)]
theorem isq_le_of {r x : Int} (hr : 0 ≤ r) (hx : 0 ≤ x) (h : r * r < (x + 1) * (x + 1)) : r ≤ x := by
  obtain ⟨m, rfl⟩ := Int.eq_ofNat_of_zero_le hx
  obtain ⟨k, rfl⟩ := Int.eq_ofNat_of_zero_le hr
  have : k ≤ m := sq_lt (by exact_mod_cast h)
  omega
theorem rt_pos (n : Int) (hn : 1 ≤ n) : 1 ≤ rt n := by
  have s := rt_spec n (by omega)
  exact isq_le_of (by omega) (rt_nonneg n) (by omega)
theorem newton_ge (n x r : Int) (hx : 0 < x) (h1 : r * r ≤ n) : r ≤ (x + n / x) / 2 := by
  rcases Int.lt_or_le ((x + n / x) / 2) r with c | c
  · exfalso
    have c' : n / x + 1 ≤ 2 * r - x := by omega
    have l : n < (n / x + 1) * x := Int.lt_ediv_add_one_mul_self n hx
    have m : (n / x + 1) * x ≤ (2 * r - x) * x := Int.mul_le_mul_of_nonneg_right c' (by omega)
    have e : (2 * r - x) * x = r * r - (r - x) * (r - x) := by
      simp only [Int.sub_mul, Int.mul_sub, Int.mul_assoc, Int.mul_comm x r]; omega
    have p : 0 ≤ (r - x) * (r - x) := by
      rcases Int.le_total 0 (r - x) with q | q
      · exact Int.mul_nonneg q q
      · exact Int.mul_nonneg_of_nonpos_of_nonpos q q
    omega
  · exact c
theorem newton_stop (n x : Int) (hx : 0 < x) (h : x ≤ (x + n / x) / 2) : x * x ≤ n := by
  have q : x ≤ n / x := by omega
  exact (Int.le_ediv_iff_mul_le hx).1 q
theorem newton_word (n x r : Int) (hr : 0 ≤ r) (hx : r ≤ x) (hx0 : 0 < x) (h2 : n < (r + 1) * (r + 1)) (hb : r < 9223372036854775808) :
    n / x ≤ r + 2 ∧ n < x * 18446744073709551616 := by
  have e : (r + 1) * (r + 1) = r * (r + 2) + 1 := by
    simp only [Int.add_mul, Int.mul_add]; omega
  have m : r * (r + 2) ≤ x * (r + 2) := Int.mul_le_mul_of_nonneg_right hx (by omega)
  refine ⟨?_, ?_⟩
  · have : n / x < r + 3 := by
      rw [Int.ediv_lt_iff_lt_mul hx0]
      have e2 : (r + 3) * x = x * (r + 2) + x := by
        rw [Int.mul_comm, show r + 3 = (r + 2) + 1 from by omega, Int.mul_add]; omega
      omega
    omega
  · have m2 : x * (r + 2) ≤ x * 9223372036854775809 := Int.mul_le_mul_of_nonneg_left (by omega) (by omega)
    omega
def mag (x : Int) : Int := if x < 0 then -x else x
theorem mag_nonneg (x : Int) : 0 ≤ mag x := by unfold mag; split <;> omega
theorem mag_le (x : Int) (h1 : -9223372036854775808 ≤ x) (h2 : x ≤ 9223372036854775807) : mag x ≤ 9223372036854775808 := by unfold mag; split <;> omega
def away (mode : Int) (neg : Bool) (rest : Int) : Bool :=
  if mode = 0 then neg && decide (rest ≠ 0) else if mode = 1 then !neg && decide (rest ≠ 0) else (decide (rest = 3) || (decide (rest = 2) && !neg))
def rnd (mode : Int) (neg : Bool) (q rest : Int) : Int :=
  if neg then -(q + (if away mode neg rest then 1 else 0)) else q + (if away mode neg rest then 1 else 0)
def rok (mode : Int) (neg : Bool) (q rest : Int) : Bool :=
  decide (mode = 0 ∨ mode = 1 ∨ mode = 2) && decide (-9223372036854775808 ≤ rnd mode neg q rest ∧ rnd mode neg q rest ≤ 9223372036854775807)
def rv (mode : Int) (neg : Bool) (q rest : Int) : Int := if rok mode neg q rest then rnd mode neg q rest else 0
end Go.Proofs.YtciglhecjkeogaaGreatDoor.Mth
set_option linter.unusedVariables false
set_option linter.unusedSimpArgs false
namespace Go.Proofs.YtciglhecjkeogaaGreatDoor
open Go.RowKit
theorem ret_u64 {a b : Int} (h : a = b) : Ending.returned (.int .u64 a) = .returned (.int .u64 b) := by rw [h]
theorem ret_i64 {a b : Int} (h : a = b) : Ending.returned (.int .i64 a) = .returned (.int .i64 b) := by rw [h]
theorem size_any (x : Int) (h1 : -9223372036854775808 ≤ x) (h2 : x ≤ 9223372036854775807) (w : World) :
    Calls Tryz.prog 117 #[.int .i64 x] w fun e w' => e = .returned (.int .u64 (Mth.mag x)) ∧ w = w' := by
  unfold Mth.mag
  by_cases h : x < 0
  · rw [if_pos h]
    go_enter Tryz.func117, Tryz.ntmps117
    go_wp2
    go_ret
    exact ⟨ret_u64 (by simp only [IntKind.wrap_u64]; omega), rfl⟩
  · rw [if_neg h]
    go_enter Tryz.func117, Tryz.ntmps117
    go_wp2
    go_ret
    exact ⟨rfl, rfl⟩
def restQ (l d : Int) : Int := if l = 0 then 0 else if l < d - l then 1 else if l = d - l then 2 else 3
theorem restOf_any (l d : Int) (h0 : 0 ≤ l) (h1 : l ≤ d) (h2 : d < 18446744073709551616) (w : World) :
    Calls Tryz.prog 129 #[.int .u64 l, .int .u64 d] w fun e w' => e = .returned (.int .i64 (restQ l d)) ∧ w = w' := by
  unfold restQ
  by_cases c1 : l = 0
  · rw [if_pos c1]
    go_enter Tryz.func129, Tryz.ntmps129
    go_wp2
    go_ret
    exact ⟨rfl, rfl⟩
  · rw [if_neg c1]
    have b1 : (l == 0) = false := beq_eq_false_iff_ne.2 c1
    by_cases c2 : l < d - l
    · rw [if_pos c2]
      go_enter Tryz.func129, Tryz.ntmps129
      go_wp2
      go_ret
      exact ⟨rfl, rfl⟩
    · rw [if_neg c2]
      by_cases c3 : l = d - l
      · rw [if_pos c3]
        have b3 : (l == d - l) = true := beq_iff_eq.2 c3
        clear c3
        go_enter Tryz.func129, Tryz.ntmps129
        go_wp2
        go_ret
        exact ⟨rfl, rfl⟩
      · rw [if_neg c3]
        have b3 : (l == d - l) = false := beq_eq_false_iff_ne.2 c3
        go_enter Tryz.func129, Tryz.ntmps129
        go_wp2
        go_ret
        exact ⟨rfl, rfl⟩
def restR (q o l n : Int) : Int := if o = 0 ∧ l = 0 then 0 else if o < q ∨ o = q ∧ 4 * l < n then 1 else if o = q ∧ 4 * l = n then 2 else 3
theorem rootRest_any (q o l n : Int) (q0 : 0 ≤ q) (o0 : 0 ≤ o) (h0 : 0 ≤ l) (h1 : l < n) (h2 : n ≤ 4611686018427387904) (w : World) :
    Calls Tryz.prog 131 #[.int .u64 q, .int .u64 o, .int .u64 l, .int .u64 n] w fun e w' => e = .returned (.int .i64 (restR q o l n)) ∧ w = w' := by
  unfold restR
  by_cases c1 : o = 0
  · by_cases c2 : l = 0
    · subst c1; subst c2
      rw [if_pos ⟨rfl, rfl⟩]
      go_enter Tryz.func131, Tryz.ntmps131
      go_wp2
      go_ret
      exact ⟨rfl, rfl⟩
    · rw [if_neg (by omega)]
      subst c1
      have b2 : (l == 0) = false := beq_eq_false_iff_ne.2 c2
      by_cases c3 : 0 < q
      · rw [if_pos (by omega)]
        go_enter Tryz.func131, Tryz.ntmps131
        go_wp2
        go_ret
        exact ⟨rfl, rfl⟩
      · obtain rfl : q = 0 := by omega
        by_cases c4 : 4 * l < n
        · rw [if_pos (by omega)]
          go_enter Tryz.func131, Tryz.ntmps131
          go_wp2
          go_ret
          exact ⟨rfl, rfl⟩
        · rw [if_neg (by omega)]
          by_cases c5 : 4 * l = n
          · rw [if_pos (by omega)]
            have b5 : (4 * l == n) = true := beq_iff_eq.2 c5
            clear c5
            go_enter Tryz.func131, Tryz.ntmps131
            go_wp2
            go_ret
            exact ⟨rfl, rfl⟩
          · rw [if_neg (by omega)]
            have b5 : (4 * l == n) = false := beq_eq_false_iff_ne.2 c5
            go_enter Tryz.func131, Tryz.ntmps131
            go_wp2
            go_ret
            exact ⟨rfl, rfl⟩
  · rw [if_neg (by omega)]
    have b1 : (o == 0) = false := beq_eq_false_iff_ne.2 c1
    by_cases c3 : o < q
    · rw [if_pos (by omega)]
      go_enter Tryz.func131, Tryz.ntmps131
      go_wp2
      go_ret
      exact ⟨rfl, rfl⟩
    · by_cases c4 : o = q
      · subst c4
        by_cases c5 : 4 * l < n
        · rw [if_pos (by omega)]
          go_enter Tryz.func131, Tryz.ntmps131
          go_wp2
          go_ret
          exact ⟨rfl, rfl⟩
        · rw [if_neg (by omega)]
          by_cases c6 : 4 * l = n
          · rw [if_pos (by omega)]
            have b6 : (4 * l == n) = true := beq_iff_eq.2 c6
            clear c6
            go_enter Tryz.func131, Tryz.ntmps131
            go_wp2
            go_ret
            exact ⟨rfl, rfl⟩
          · rw [if_neg (by omega)]
            have b6 : (4 * l == n) = false := beq_eq_false_iff_ne.2 c6
            go_enter Tryz.func131, Tryz.ntmps131
            go_wp2
            go_ret
            exact ⟨rfl, rfl⟩
      · rw [if_neg (by omega), if_neg (by omega)]
        have b4 : (o == q) = false := beq_eq_false_iff_ne.2 c4
        go_enter Tryz.func131, Tryz.ntmps131
        go_wp2
        go_ret
        exact ⟨rfl, rfl⟩
end Go.Proofs.YtciglhecjkeogaaGreatDoor
set_option linter.unusedVariables false
set_option linter.unusedSimpArgs false
namespace Go.Proofs.YtciglhecjkeogaaGreatDoor
open Go.RowKit
theorem ret_ib {a b : Int} {p q : Bool} (h : a = b) (g : p = q) : Ending.returned (.tuple #[.int .i64 a, .bool p]) = .returned (.tuple #[.int .i64 b, .bool q]) := by rw [h, g]
theorem round_none (q r m : Int) (neg : Bool) (hm : m < 0 ∨ 2 < m) (w : World) :
    Calls Tryz.prog 119 #[.int .u64 q, .int .i64 r, .bool neg, .int .i64 m] w fun e w' =>
      e = .returned (.tuple #[.int .i64 (Mth.rv m neg q r), .bool (Mth.rok m neg q r)]) ∧ w = w' := by
  have e1 : Mth.rok m neg q r = false := by unfold Mth.rok; rw [decide_eq_false (by omega)]; rfl
  have e2 : Mth.rv m neg q r = 0 := by unfold Mth.rv; rw [e1]; rfl
  rw [e1, e2]
  have b0 : (m == 0) = false := beq_eq_false_iff_ne.2 (by omega)
  have b1 : (m == 1) = false := beq_eq_false_iff_ne.2 (by omega)
  have b2 : (m == 2) = false := beq_eq_false_iff_ne.2 (by omega)
  clear e1 e2 hm
  go_enter Tryz.func119, Tryz.ntmps119
  go_wp2
  go_ret2
  exact ⟨rfl, rfl⟩
theorem rok_true (m : Int) (neg : Bool) (q r v : Int) (hm0 : 0 ≤ m) (hm : m ≤ 2) (h : Mth.rnd m neg q r = v) (h1 : -9223372036854775808 ≤ v) (h2 : v ≤ 9223372036854775807) : Mth.rv m neg q r = v ∧ Mth.rok m neg q r = true := by
  have e : Mth.rok m neg q r = true := by unfold Mth.rok; rw [h, decide_eq_true (by omega), decide_eq_true ⟨h1, h2⟩]; rfl
  exact ⟨by unfold Mth.rv; rw [e]; exact h, e⟩
theorem rok_false (m : Int) (neg : Bool) (q r v : Int) (h : Mth.rnd m neg q r = v) (h1 : v < -9223372036854775808 ∨ 9223372036854775807 < v) : Mth.rv m neg q r = 0 ∧ Mth.rok m neg q r = false := by
  have e : Mth.rok m neg q r = false := by unfold Mth.rok; rw [h, decide_eq_false (p := -9223372036854775808 ≤ v ∧ v ≤ 9223372036854775807) (by omega), Bool.and_false]
  exact ⟨by unfold Mth.rv; rw [e]; rfl, e⟩
set_option maxHeartbeats 4000000 in
theorem round_some (q r m : Int) (neg : Bool) (h0 : 0 ≤ q) (h1 : q < 18446744073709551616) (r0 : 0 ≤ r) (r3 : r ≤ 3) (hm0 : 0 ≤ m) (hm : m ≤ 2) (w : World) :
    Calls Tryz.prog 119 #[.int .u64 q, .int .i64 r, .bool neg, .int .i64 m] w fun e w' =>
      e = .returned (.tuple #[.int .i64 (Mth.rv m neg q r), .bool (Mth.rok m neg q r)]) ∧ w = w' := by
  have cm : m = 0 ∨ m = 1 ∨ m = 2 := by omega
  have cr : r = 0 ∨ r = 1 ∨ r = 2 ∨ r = 3 := by omega
  have cq : q < 9223372036854775807 ∨ q = 9223372036854775807 ∨ q = 9223372036854775808 ∨ 9223372036854775808 < q := by omega
  have fin : ∀ v b, Mth.rv m neg q r = v ∧ Mth.rok m neg q r = b → Calls Tryz.prog 119 #[.int .u64 q, .int .i64 r, .bool neg, .int .i64 m] w (fun e w' => e = .returned (.tuple #[.int .i64 v, .bool b]) ∧ w = w') → Calls Tryz.prog 119 #[.int .u64 q, .int .i64 r, .bool neg, .int .i64 m] w (fun e w' =>
      e = .returned (.tuple #[.int .i64 (Mth.rv m neg q r), .bool (Mth.rok m neg q r)]) ∧ w = w') := by
    rintro v b ⟨rfl, rfl⟩ h; exact h
  clear r0 r3 hm0 hm
  rcases cm with rfl | rfl | rfl <;> rcases cr with rfl | rfl | rfl | rfl <;> cases neg <;> rcases cq with c | rfl | rfl | c
  all_goals
    first
    | (refine fin _ _ (rok_true _ _ _ _ _ (by omega) (by omega) (by simp only [Mth.rnd, Mth.away]; simp; first | rfl | done) (by omega) (by omega)) ?_; clear fin)
    | (refine fin _ _ (rok_false _ _ _ _ _ (by simp only [Mth.rnd, Mth.away]; simp; first | rfl | done) (by omega)) ?_; clear fin)
  all_goals
    first
    | (have d1 : decide (9223372036854775807 < q) = false := decide_eq_false (by omega)
       have d2 : decide (9223372036854775808 < q) = false := decide_eq_false (by omega)
       have e1 : (q == 9223372036854775807) = false := beq_eq_false_iff_ne.2 (by omega)
       have e2 : (q == 9223372036854775808) = false := beq_eq_false_iff_ne.2 (by omega))
    | (have d1 : decide (9223372036854775807 < q) = true := decide_eq_true (by omega)
       have d2 : decide (9223372036854775808 < q) = true := decide_eq_true (by omega))
    | skip
  all_goals
    go_enter Tryz.func119, Tryz.ntmps119
    go_wp2
    go_ret2
    refine ⟨ret_ib ?_ rfl, rfl⟩
    try simp only [IntKind.wrap_u64, wrap64]
    all_goals (first | rfl | omega)
end Go.Proofs.YtciglhecjkeogaaGreatDoor
set_option linter.unusedVariables false
set_option linter.unusedSimpArgs false
namespace Go.Proofs
open Go.Shelf
def Tryz.lays134_ren : Go.Shelf.Ren := ⟨fun | 134 => 138 | 129 => 139 | n => n, fun | 53 => 129 | 3 => 3 | 4 => 4 | 46 => 137 | 5 => 5 | 9 => 9 | n => n, fun | n => n⟩
theorem Tryz.lays134 : Go.Proofs.Lays.n134 Tryz.prog Tryz.lays134_ren := {
  mixed := by kernel_rfl
  f129 := Tryz.func139.trans (congrArg some (by kernel_rfl))
  f134 := Tryz.func138.trans (congrArg some (by kernel_rfl))
  t3 := Tryz.underlying3
  a3 := Tryz.isAgg3
  z3 := Tryz.sizeOf3
  v3 := Tryz.zeroValue3
  t4 := Tryz.underlying4
  a4 := Tryz.isAgg4
  z4 := Tryz.sizeOf4
  v4 := Tryz.zeroValue4
  t5 := Tryz.underlying5
  a5 := Tryz.isAgg5
  z5 := Tryz.sizeOf5
  v5 := Tryz.zeroValue5
  t9 := Tryz.underlying9
  a9 := Tryz.isAgg9
  z9 := Tryz.sizeOf9
  v9 := Tryz.zeroValue9
  t46 := Tryz.underlying137
  a46 := Tryz.isAgg137
  z46 := Tryz.sizeOf137
  v46 := Tryz.zeroValue137
  t53 := Tryz.underlying129
  a53 := Tryz.isAgg129
  z53 := Tryz.sizeOf129
  v53 := Tryz.zeroValue129 }
theorem Tryz.bits_LeadingZeros64 (x : Int) (w : World) (h0 : 0 ≤ x) (h1 : x ≤ 18446744073709551615) :
    Calls Tryz.prog 138 #[.int .u64 x] w fun e w' => e = .returned (.int .i64 (64 - (Lib.bitLen x.toNat : Int))) ∧ w' = w := Any.bits_LeadingZeros64 Tryz.lays134 x w h0 h1
def Tryz.lays129_ren : Go.Shelf.Ren := ⟨fun | 129 => 139 | n => n, fun | 53 => 129 | 3 => 3 | 4 => 4 | 46 => 137 | 5 => 5 | 9 => 9 | n => n, fun | n => n⟩
theorem Tryz.lays129 : Go.Proofs.Lays.n129 Tryz.prog Tryz.lays129_ren := {
  mixed := by kernel_rfl
  f129 := Tryz.func139.trans (congrArg some (by kernel_rfl))
  t3 := Tryz.underlying3
  a3 := Tryz.isAgg3
  z3 := Tryz.sizeOf3
  v3 := Tryz.zeroValue3
  t4 := Tryz.underlying4
  a4 := Tryz.isAgg4
  z4 := Tryz.sizeOf4
  v4 := Tryz.zeroValue4
  t5 := Tryz.underlying5
  a5 := Tryz.isAgg5
  z5 := Tryz.sizeOf5
  v5 := Tryz.zeroValue5
  t9 := Tryz.underlying9
  a9 := Tryz.isAgg9
  z9 := Tryz.sizeOf9
  v9 := Tryz.zeroValue9
  t46 := Tryz.underlying137
  a46 := Tryz.isAgg137
  z46 := Tryz.sizeOf137
  v46 := Tryz.zeroValue137
  t53 := Tryz.underlying129
  a53 := Tryz.isAgg129
  z53 := Tryz.sizeOf129
  v53 := Tryz.zeroValue129 }
theorem Tryz.bits_Len64 (x : Int) (w : World) (h0 : 0 ≤ x) (h1 : x ≤ 18446744073709551615) :
    Calls Tryz.prog 139 #[.int .u64 x] w fun e w' => e = .returned (.int .i64 (Lib.bitLen x.toNat)) ∧ w' = w := Any.bits_Len64 Tryz.lays129 x w h0 h1
def Tryz.lays264_ren : Go.Shelf.Ren := ⟨fun | 264 => 116 | n => n, fun | 53 => 129 | 46 => 137 | n => n, fun | n => n⟩
theorem Tryz.lays264 : Go.Proofs.Lays.n264 Tryz.prog Tryz.lays264_ren := {
  mixed := by kernel_rfl
  f264 := Tryz.func116.trans (congrArg some (by kernel_rfl))
  t46 := Tryz.underlying137
  a46 := Tryz.isAgg137
  z46 := Tryz.sizeOf137
  v46 := Tryz.zeroValue137
  t53 := Tryz.underlying129
  a53 := Tryz.isAgg129
  z53 := Tryz.sizeOf129
  v53 := Tryz.zeroValue129 }
open Go.RowKit Go.Lib in
theorem Tryz.bits_Mul64 (x y : Nat) (hx : x < 18446744073709551616) (hy : y < 18446744073709551616) (w : World) :
    Calls Tryz.prog 116 #[.int .u64 x, .int .u64 y] w fun e w' => e = .returned (.tuple #[.int .u64 ((x * y / 18446744073709551616 : Nat) : Int), .int .u64 ((x * y % 18446744073709551616 : Nat) : Int)]) ∧ w' = w := Any.bits_Mul64 Tryz.lays264 x y hx hy w
theorem Tryz.bits_Add64 (x y c : Int) (hx : 0 ≤ x) (hy : 0 ≤ y) (hc0 : 0 ≤ c) (hc : c ≤ 1) (w : World) :
    (callFunc 140 #[.int .u64 x, .int .u64 y, .int .u64 c]).run Tryz.prog w =
      .ok (.value (.tuple #[.int .u64 ((x + y + c) % 18446744073709551616), .int .u64 ((x + y + c) / 18446744073709551616)])) w := by
  rw [run_callFunc_extern Tryz.func140 (by kernel_rfl) (by kernel_rfl) (by kernel_rfl) (e := add64Entry) (by kernel_rfl), run_add64 x y c hx hy hc0 hc]
  rfl
theorem Tryz.bits_Add64_0 (x y : Int) (hx : 0 ≤ x) (hy : 0 ≤ y) (w : World) :
    (callFunc 140 #[.int .u64 x, .int .u64 y, .int .u64 0]).run Tryz.prog w =
      .ok (.value (.tuple #[.int .u64 ((x + y) % 18446744073709551616), .int .u64 ((x + y) / 18446744073709551616)])) w := by
  simpa using Tryz.bits_Add64 x y 0 hx hy (Int.le_refl 0) (by decide) w
end Go.Proofs
set_option linter.unusedVariables false
set_option linter.unusedSimpArgs false
namespace Go.Proofs.YtciglhecjkeogaaGreatDoor
open Go.RowKit
def mulH (x y : Int) : Int := x * y / 18446744073709551616
def mulL (x y : Int) : Int := x * y % 18446744073709551616
theorem mul64_any (x y : Int) (h0 : 0 ≤ x) (h1 : x < 18446744073709551616) (g0 : 0 ≤ y) (g1 : y < 18446744073709551616) (w : World) :
    Calls Tryz.prog 116 #[.int .u64 x, .int .u64 y] w fun e w' => e = .returned (.tuple #[.int .u64 (mulH x y), .int .u64 (mulL x y)]) ∧ w = w' := by
  obtain ⟨m, rfl⟩ := Int.eq_ofNat_of_zero_le h0
  obtain ⟨n, rfl⟩ := Int.eq_ofNat_of_zero_le g0
  refine (Tryz.bits_Mul64 m n (by omega) (by omega) w).mono fun e w' ⟨he, hw⟩ => ⟨?_, hw.symm⟩
  rw [he]
  unfold mulH mulL
  rw [← Int.natCast_mul]
  rfl
theorem mul_split (x y : Int) : x * y = mulH x y * 18446744073709551616 + mulL x y ∧ 0 ≤ mulL x y ∧ mulL x y < 18446744073709551616 := by
  unfold mulH mulL
  generalize x * y = m
  omega
theorem mag_mul_le (a b : Int) (h1 : -9223372036854775808 ≤ a) (h2 : a ≤ 9223372036854775807) (g1 : -9223372036854775808 ≤ b) (g2 : b ≤ 9223372036854775807) :
    Mth.mag a * Mth.mag b ≤ 85070591730234615865843651857942052864 := by
  have := Int.mul_le_mul (Mth.mag_le a h1 h2) (Mth.mag_le b g1 g2) (Mth.mag_nonneg b) (by omega)
  omega
theorem neg_word (M H L : Int) (e : M = H * 18446744073709551616 + L) (l0 : 0 ≤ L) (l1 : L < 18446744073709551616) (hM : M ≤ 85070591730234615865843651857942052864) (h0 : 0 ≤ M) :
    0 ≤ H ∧ H < 9223372036854775807 := by omega
end Go.Proofs.YtciglhecjkeogaaGreatDoor
set_option linter.unusedVariables false
set_option linter.unusedSimpArgs false
namespace Go.Proofs.YtciglhecjkeogaaGreatDoor
open Go.RowKit
def dq (hi lo y : Int) : Int := (hi * 18446744073709551616 + lo) / y
def dr (hi lo y : Int) : Int := (hi * 18446744073709551616 + lo) % y
theorem ret_uu {a b c d : Int} (h : a = b) (g : c = d) : Ending.returned (.tuple #[.int .u64 a, .int .u64 c]) = .returned (.tuple #[.int .u64 b, .int .u64 d]) := by rw [h, g]
theorem div64_low (lo y : Int) (l0 : 0 ≤ lo) (l1 : lo < 18446744073709551616) (y0 : 0 < y) (y1 : y < 18446744073709551616) (w : World) :
    Calls Tryz.prog 128 #[.int .u64 0, .int .u64 lo, .int .u64 y] w fun e w' => e = .returned (.tuple #[.int .u64 (lo / y), .int .u64 (lo % y)]) ∧ ∃ n, w' = w.drewN n := by
  have b1 : (y == 0) = false := beq_eq_false_iff_ne.2 (by omega)
  have b2 : decide (y ≤ 0) = false := decide_eq_false (by omega)
  go_enter Tryz.func128, Tryz.ntmps128
  go_wp2
  go_quiet (fail)
  go_wp2
  go_ret2
  exact ⟨rfl, _, rfl⟩
theorem lz_any (y : Int) (y0 : 0 < y) (y1 : y < 18446744073709551616) :
    ∃ s : Int, 0 ≤ s ∧ s ≤ 63 ∧ 9223372036854775808 ≤ y * 2 ^ s.toNat ∧ y * 2 ^ s.toNat < 18446744073709551616 ∧
      ∀ w, Calls Tryz.prog 138 #[.int .u64 y] w fun e w' => e = .returned (.int .i64 s) ∧ w = w' := by
  obtain ⟨n, rfl⟩ := Int.eq_ofNat_of_zero_le (Int.le_of_lt y0)
  have b := Lib.bitLenAux_bounds 64 n (by omega) (by omega)
  have b4 := Lib.bitLen_le n 64 (by omega) (by omega)
  have e : Lib.bitLenAux 64 n = Lib.bitLen n := rfl
  rw [e] at b
  obtain ⟨c1, c2, c3⟩ := b
  have es : ((64 : Int) - (Lib.bitLen n : Int)).toNat = 64 - Lib.bitLen n := by omega
  have ep : ((2 : Int) ^ (64 - Lib.bitLen n)) = ((2 ^ (64 - Lib.bitLen n) : Nat) : Int) := (Int.natCast_pow 2 _).symm
  refine ⟨64 - (Lib.bitLen n : Int), by omega, by omega, ?_, ?_, fun w => ?_⟩
  · rw [es, ep, ← Int.natCast_mul]
    have m := Nat.mul_le_mul_right (2 ^ (64 - Lib.bitLen n)) c2
    rw [← Nat.pow_add, show Lib.bitLen n - 1 + (64 - Lib.bitLen n) = 63 from by omega] at m
    omega
  · rw [es, ep, ← Int.natCast_mul]
    have m := Nat.mul_lt_mul_of_pos_right c3 (Nat.two_pow_pos (64 - Lib.bitLen n))
    rw [← Nat.pow_add, show Lib.bitLen n + (64 - Lib.bitLen n) = 64 from by omega] at m
    omega
  · exact (Tryz.bits_LeadingZeros64 (n : Int) w (by omega) (by omega)).mono fun e w' ⟨h1, h2⟩ => ⟨h1, h2.symm⟩
theorem and_mask (x : Int) (h0 : 0 ≤ x) (h1 : x < 18446744073709551616) : bits .and .u64 x 4294967295 = x % 4294967296 := by
  obtain ⟨n, rfl⟩ := Int.eq_ofNat_of_zero_le h0
  have h := bits_and_u64_nat n 4294967295 (by omega) (by omega)
  have e : n &&& 4294967295 = n % 4294967296 := Nat.and_two_pow_sub_one_eq_mod n 32
  rw [e] at h
  exact h
theorem shift_words (hi lo s : Int) (h0 : 0 ≤ hi) (l0 : 0 ≤ lo) (l1 : lo < 18446744073709551616) (s0 : 0 ≤ s) (s1 : s ≤ 63) (hb : hi * 2 ^ s.toNat + 2 ^ s.toNat ≤ 18446744073709551616) :
    ∃ U L : Int, bits .or .u64 (hi * 2 ^ s.toNat) (lo / 2 ^ (64 - s).toNat) = U ∧ IntKind.u64.wrap (lo * 2 ^ s.toNat) = L ∧ 0 ≤ L ∧ L < 18446744073709551616 ∧ 0 ≤ U ∧
      U * 18446744073709551616 + L = (hi * 18446744073709551616 + lo) * 2 ^ s.toNat := by
  obtain ⟨h, rfl⟩ := Int.eq_ofNat_of_zero_le h0
  obtain ⟨l, rfl⟩ := Int.eq_ofNat_of_zero_le l0
  obtain ⟨k, rfl⟩ := Int.eq_ofNat_of_zero_le s0
  have e2 : ((64 : Int) - (k : Int)).toNat = 64 - k := by omega
  rw [e2, Int.toNat_natCast] at *
  have pk : 0 < 2 ^ k := Nat.two_pow_pos k
  have pj : 0 < 2 ^ (64 - k) := Nat.two_pow_pos (64 - k)
  have pp : 2 ^ (64 - k) * 2 ^ k = 18446744073709551616 := by rw [← Nat.pow_add, show 64 - k + k = 64 from by omega]
  have ek : ((2 : Int) ^ k) = ((2 ^ k : Nat) : Int) := (Int.natCast_pow 2 _).symm
  have ej : ((2 : Int) ^ (64 - k)) = ((2 ^ (64 - k) : Nat) : Int) := (Int.natCast_pow 2 _).symm
  have lk : l / 2 ^ (64 - k) < 2 ^ k := by rw [Nat.div_lt_iff_lt_mul pj, Nat.mul_comm, pp]; omega
  have t := Nat.two_pow_add_eq_or_of_lt lk h
  have d1 : l * 2 ^ k / 18446744073709551616 = l / 2 ^ (64 - k) := by
    rw [← pp, Nat.mul_div_mul_right _ _ pk]
  rw [ek, ej]
  rw [ek] at hb
  generalize 2 ^ k = p at *
  generalize 2 ^ (64 - k) = j at *
  rw [Nat.mul_comm p h] at t
  simp only [← Int.natCast_mul, ← Int.natCast_ediv] at *
  have o := bits_or_u64_nat (h * p) (l / j) (by omega) (by omega)
  rw [← t] at o
  have wE : IntKind.u64.wrap ((l * p : Nat) : Int) = ((l * p % 18446744073709551616 : Nat) : Int) := by
    rw [IntKind.wrap_u64]; omega
  refine ⟨_, _, o, wE, by omega, by omega, by omega, ?_⟩
  have d3 : (h * 18446744073709551616 + l) * p = h * p * 18446744073709551616 + l * p := by
    rw [Nat.add_mul, Nat.mul_right_comm]
  have d4 : ((h : Int) * 18446744073709551616 + (l : Int)) * (p : Int) = (((h * 18446744073709551616 + l) * p : Nat) : Int) := by
    rw [Int.natCast_mul, Int.natCast_add, Int.natCast_mul]; rfl
  rw [d4, d3]
  omega
theorem rest_word (U l1 T Y V : Int) (hV : (U * 4294967296 + l1) % Y = V) (hT : (U * 4294967296 + l1) / Y = T) (v1 : V < 18446744073709551616) (v0 : 0 ≤ V) :
    IntKind.u64.wrap (IntKind.u64.wrap (IntKind.u64.wrap (U * 4294967296) + l1) - IntKind.u64.wrap (T * Y)) = V := by
  have d := Int.emod_add_mul_ediv (U * 4294967296 + l1) Y
  rw [hV, hT, Int.mul_comm Y T] at d
  simp only [IntKind.wrap_u64]
  omega
theorem digit_ways (a b y0 c T : Int) (tt : a * y0 > 4294967296 * b + c ↔ T < a) (g2 : 0 ≤ y0) (g2' : y0 < 4294967296) (hT : T < 4294967296 ∧ T ≤ a ∧ 0 ≤ T) :
    decide (4294967296 ≤ a) = true ∧ T < a ∨ decide (4294967296 ≤ a) = false ∧ a * y0 < 18446744073709551616 ∧ (T < a ∧ decide (4294967296 * b + c < a * y0) = true ∨ a = T ∧ decide (4294967296 * b + c < a * y0) = false) := by
  by_cases h : 4294967296 ≤ a
  · left; exact ⟨decide_eq_true h, by omega⟩
  · right
    refine ⟨decide_eq_false h, ?_, ?_⟩
    · have := Int.mul_le_mul (show a ≤ 4294967295 by omega) (show y0 ≤ 4294967295 by omega) g2 (by omega)
      omega
    · by_cases h2 : T < a
      · left; exact ⟨h2, decide_eq_true (tt.2 h2)⟩
      · right; exact ⟨by omega, decide_eq_false (fun h3 => h2 (tt.1 h3))⟩
def Dig (U y1 T a b : Int) : Prop := a * y1 + b = U ∧ T ≤ a ∧ a ≤ 4294967297 ∧ 0 ≤ b ∧ b < 4294967296
set_option maxHeartbeats 2000000 in
theorem div64_high (hi lo y : Int) (h0 : 0 < hi) (h1 : hi < y) (l0 : 0 ≤ lo) (l1 : lo < 18446744073709551616) (y1 : y < 18446744073709551616) (w : World) :
    Calls Tryz.prog 128 #[.int .u64 hi, .int .u64 lo, .int .u64 y] w fun e w' => e = .returned (.tuple #[.int .u64 (dq hi lo y), .int .u64 (dr hi lo y)]) ∧ w = w' := by
  obtain ⟨s, s0, s1, sa, sb, hs⟩ := lz_any y (by omega) y1
  have b1 : (y == 0) = false := beq_eq_false_iff_ne.2 (by omega)
  have b2 : decide (y ≤ hi) = false := decide_eq_false (by omega)
  have b3 : (hi == 0) = false := beq_eq_false_iff_ne.2 (by omega)
  have Hs := Lib.hid hs
  clear hs
  have pp : (0 : Int) < 2 ^ s.toNat := Int.pow_pos (by omega)
  have ph : (hi + 1) * 2 ^ s.toNat ≤ y * 2 ^ s.toNat := Int.mul_le_mul_of_nonneg_right (by omega) (by omega)
  rw [Int.add_mul, Int.one_mul] at ph
  have ph0 : 0 ≤ hi * 2 ^ s.toNat := Int.mul_nonneg (by omega) (by omega)
  obtain ⟨U, L, eU, eL, L0, L1, U0, eN⟩ := shift_words hi lo s (by omega) l0 l1 s0 s1 (by omega)
  have UY : U < y * 2 ^ s.toNat := by
    have m : (hi * 18446744073709551616 + lo) * 2 ^ s.toNat < y * 2 ^ s.toNat * 18446744073709551616 := by
      rw [Int.mul_right_comm]
      exact Int.mul_lt_mul_of_pos_right (by omega) pp
    rw [← eN] at m
    omega
  obtain ⟨eQ, eR⟩ := Mth.shifted (hi * 18446744073709551616 + lo) y (2 ^ s.toNat) pp
  have ph1 : hi * 2 ^ s.toNat < 18446744073709551616 := by omega
  obtain ⟨Y, eY⟩ : ∃ Y, y * 2 ^ s.toNat = Y := ⟨_, rfl⟩
  rw [eY] at sa sb UY eQ eR
  obtain ⟨y1', ey1⟩ : ∃ Y1, Y / 4294967296 = Y1 := ⟨_, rfl⟩
  obtain ⟨y0', ey0⟩ : ∃ Y0, bits .and .u64 Y 4294967295 = Y0 := ⟨_, rfl⟩
  obtain ⟨c1, ec1⟩ : ∃ c1, L / 4294967296 = c1 := ⟨_, rfl⟩
  obtain ⟨c0, ec0⟩ : ∃ c0, bits .and .u64 L 4294967295 = c0 := ⟨_, rfl⟩
  have fy0 := and_mask Y (by omega) sb
  have fc0 := and_mask L L0 L1
  rw [ey0] at fy0; rw [ec0] at fc0
  have hY : Y = y1' * 4294967296 + y0' := by omega
  have hL : L = c1 * 4294967296 + c0 := by omega
  have g1 : 2147483648 ≤ y1' := by omega
  have g1' : y1' < 4294967296 := by omega
  have g2 : 0 ≤ y0' := by omega
  have g2' : y0' < 4294967296 := by omega
  have k1 : 0 ≤ c1 := by omega
  have k1' : c1 < 4294967296 := by omega
  have k2 : 0 ≤ c0 := by omega
  have k2' : c0 < 4294967296 := by omega
  obtain ⟨q0, q1, r0, r1, t1⟩ := Mth.digit_guess U c1 y1' y0' Y hY g1 g2 g2' U0 UY k1 k1'
  have tn := Mth.digit_nonneg U c1 Y (by omega) U0 k1
  have ts := Mth.digit_small U c1 Y (by omega) UY k1'
  obtain ⟨D1, D2⟩ := Mth.two_digits U c1 c0 Y (by omega) k2 k2'
  obtain ⟨T, eT⟩ : ∃ T, (U * 4294967296 + c1) / Y = T := ⟨_, rfl⟩
  obtain ⟨V, eV⟩ : ∃ V, (U * 4294967296 + c1) % Y = V := ⟨_, rfl⟩
  have V0 : 0 ≤ V := by rw [← eV]; exact Int.emod_nonneg _ (by omega)
  have VY : V < Y := by rw [← eV]; exact Int.emod_lt_of_pos _ (by omega)
  rw [eT] at t1 tn ts
  have fV := rest_word U c1 T Y V eV eT (by omega) V0
  obtain ⟨Q0, Q1, R0, R1, T1⟩ := Mth.digit_guess V c0 y1' y0' Y hY g1 g2 g2' V0 VY k2 k2'
  have Tn := Mth.digit_nonneg V c0 Y (by omega) V0 k2
  have Ts := Mth.digit_small V c0 Y (by omega) VY k2'
  rw [eT, eV] at D1
  rw [eV] at D2
  obtain ⟨S, eS⟩ : ∃ S, (V * 4294967296 + c0) / Y = S := ⟨_, rfl⟩
  obtain ⟨X, eX⟩ : ∃ X, (V * 4294967296 + c0) % Y = X := ⟨_, rfl⟩
  have X0 : 0 ≤ X := by rw [← eX]; exact Int.emod_nonneg _ (by omega)
  have XY : X < Y := by rw [← eX]; exact Int.emod_lt_of_pos _ (by omega)
  rw [eS] at T1 Tn Ts D1
  rw [eX] at D2
  have fX := rest_word V c0 S Y X eX eS (by omega) X0
  have eM : (U * 4294967296 + c1) * 4294967296 + c0 = (hi * 18446744073709551616 + lo) * 2 ^ s.toNat := by rw [← eN]; omega
  rw [eM] at D1 D2
  have F1 : T * 4294967296 + S = dq hi lo y := by rw [D1, eQ]; rfl
  have F2 : X / 2 ^ s.toNat = dr hi lo y := by rw [D2, eR, Int.mul_ediv_cancel _ (by omega)]; rfl
  have HF1 := Lib.hid F1; have HF2 := Lib.hid F2
  have step1 : ∀ a b : Int, a * y1' + b = U → (a * y0' > 4294967296 * b + c1 ↔ T < a) := fun a b h => by
    rw [← eT]; exact Mth.digit_test U c1 a b y1' y0' Y hY (by omega) h
  have last1 : ∀ a b : Int, a * y1' + b = U → 4294967296 ≤ b → 0 ≤ a → a ≤ 4294967296 → T ≤ a → T = a := fun a b h h2 h3 h4 h5 => by
    rw [← eT] at h5 ⊢; exact Mth.digit_last U c1 a b y1' y0' Y hY (by omega) h h2 g2 g2' h3 h4 k1 h5
  have step2 : ∀ a b : Int, a * y1' + b = V → (a * y0' > 4294967296 * b + c0 ↔ S < a) := fun a b h => by
    rw [← eS]; exact Mth.digit_test V c0 a b y1' y0' Y hY (by omega) h
  have last2 : ∀ a b : Int, a * y1' + b = V → 4294967296 ≤ b → 0 ≤ a → a ≤ 4294967296 → S ≤ a → S = a := fun a b h h2 h3 h4 h5 => by
    rw [← eS] at h5 ⊢; exact Mth.digit_last V c0 a b y1' y0' Y hY (by omega) h h2 g2 g2' h3 h4 k2 h5
  have St1 := Lib.hid step1; have La1 := Lib.hid last1; have St2 := Lib.hid step2; have La2 := Lib.hid last2
  clear step1 last1 step2 last2 F1 F2 D1 D2 eM eT eV eS eX eQ eR eN hY hL fy0 fc0 ph pp
  have q2 : 0 ≤ U / y1' * y1' := Int.mul_nonneg q0 (by omega)
  have Q2 : 0 ≤ V / y1' * y1' := Int.mul_nonneg Q0 (by omega)
  go_enter Tryz.func128, Tryz.ntmps128
  go_wp2_with (go_at_call 138; refine (Hs.out _).mono ?_; rintro e w' ⟨rfl, rfl⟩)
  go_loop [15, 16] (fun q r => ∃ a b : Int, q = .int .u64 a ∧ r = .int .u64 b ∧ Dig U y1' T a b) (fun q _ => (intOf q).toNat)
  case atStart => exact ⟨_, _, rfl, rfl, by omega, t1, q1, r0, by omega⟩
  case round =>
    obtain ⟨a, b, rfl, rfl, he, ha, ha', hb, hb'⟩ := hrel
    have tt := St1.out a b he
    have He := Lib.hid he
    have p0 : 0 ≤ a * y0' := Int.mul_nonneg (by omega) (by omega)
    clear he
    have ways : (T < a ∧ b + y1' < 4294967296) ∨ (a = T + 1 ∧ 4294967296 ≤ b + y1') ∨ a = T := by
      by_cases hlt : T < a
      · by_cases hbr : 4294967296 ≤ b + y1'
        · have hT := La1.out (a - 1) (b + y1') (by rw [Int.sub_mul, Int.one_mul]; have := He.out; omega) hbr (by omega) (by omega) (by omega)
          right; left; exact ⟨by omega, hbr⟩
        · left; exact ⟨hlt, by omega⟩
      · right; right; omega
    have hbig := digit_ways a b y0' c1 T tt g2 g2' (by omega)
    clear tt
    rcases hbig with ⟨d1, hlt⟩ | ⟨d1, pb, ⟨hlt, d2⟩ | ⟨hq, d2⟩⟩
    · rcases ways with ⟨-, hr⟩ | ⟨rfl, hr⟩ | hq
      · go_wp2
        go_round
        case rel => exact ⟨_, _, rfl, rfl, by rw [Int.sub_mul, Int.one_mul]; have := He.out; omega, by omega, by omega, by omega, by omega⟩
        case measure => simp [intOf]; omega
      · clear hlt
        go_wp2
        clear d1 p0 He
        go_loop [18, 16] (fun q r => ∃ a b : Int, q = .int .u64 a ∧ r = .int .u64 b ∧ Dig V y1' S a b) (fun q _ => (intOf q).toNat)
        case atStart => exact ⟨_, _, rfl, rfl, by omega, T1, Q1, R0, by omega⟩
        case round =>
          obtain ⟨a, b, rfl, rfl, he, ha, ha', hb, hb'⟩ := hrel
          have tt := St2.out a b he
          have He := Lib.hid he
          have p0 : 0 ≤ a * y0' := Int.mul_nonneg (by omega) (by omega)
          clear he
          have ways : (S < a ∧ b + y1' < 4294967296) ∨ (a = S + 1 ∧ 4294967296 ≤ b + y1') ∨ a = S := by
            by_cases hlt : S < a
            · by_cases hbr : 4294967296 ≤ b + y1'
              · have hT := La2.out (a - 1) (b + y1') (by rw [Int.sub_mul, Int.one_mul]; have := He.out; omega) hbr (by omega) (by omega) (by omega)
                right; left; exact ⟨by omega, hbr⟩
              · left; exact ⟨hlt, by omega⟩
            · right; right; omega
          have hbig := digit_ways a b y0' c0 S tt g2 g2' (by omega)
          clear tt
          rcases hbig with ⟨d1, hlt⟩ | ⟨d1, pb, ⟨hlt, d2⟩ | ⟨hq, d2⟩⟩
          · rcases ways with ⟨-, hr⟩ | ⟨rfl, hr⟩ | hq
            · go_wp2
              go_round
              case rel => exact ⟨_, _, rfl, rfl, by rw [Int.sub_mul, Int.one_mul]; have := He.out; omega, by omega, by omega, by omega, by omega⟩
              case measure => simp [intOf]; omega
            · clear hlt
              go_wp2
              go_ret2
              exact ⟨ret_uu HF1.out HF2.out, rfl⟩
            · omega
          · rcases ways with ⟨-, hr⟩ | ⟨rfl, hr⟩ | hq
            · go_wp2
              go_round
              case rel => exact ⟨_, _, rfl, rfl, by rw [Int.sub_mul, Int.one_mul]; have := He.out; omega, by omega, by omega, by omega, by omega⟩
              case measure => simp [intOf]; omega
            · clear hlt
              go_wp2
              go_ret2
              exact ⟨ret_uu HF1.out HF2.out, rfl⟩
            · omega
          · subst hq
            clear ways
            go_wp2
            go_ret2
            exact ⟨ret_uu HF1.out HF2.out, rfl⟩
      · omega
    · rcases ways with ⟨-, hr⟩ | ⟨rfl, hr⟩ | hq
      · go_wp2
        go_round
        case rel => exact ⟨_, _, rfl, rfl, by rw [Int.sub_mul, Int.one_mul]; have := He.out; omega, by omega, by omega, by omega, by omega⟩
        case measure => simp [intOf]; omega
      · clear hlt
        go_wp2
        clear d1 pb d2 p0 He
        go_loop [18, 16] (fun q r => ∃ a b : Int, q = .int .u64 a ∧ r = .int .u64 b ∧ Dig V y1' S a b) (fun q _ => (intOf q).toNat)
        case atStart => exact ⟨_, _, rfl, rfl, by omega, T1, Q1, R0, by omega⟩
        case round =>
          obtain ⟨a, b, rfl, rfl, he, ha, ha', hb, hb'⟩ := hrel
          have tt := St2.out a b he
          have He := Lib.hid he
          have p0 : 0 ≤ a * y0' := Int.mul_nonneg (by omega) (by omega)
          clear he
          have ways : (S < a ∧ b + y1' < 4294967296) ∨ (a = S + 1 ∧ 4294967296 ≤ b + y1') ∨ a = S := by
            by_cases hlt : S < a
            · by_cases hbr : 4294967296 ≤ b + y1'
              · have hT := La2.out (a - 1) (b + y1') (by rw [Int.sub_mul, Int.one_mul]; have := He.out; omega) hbr (by omega) (by omega) (by omega)
                right; left; exact ⟨by omega, hbr⟩
              · left; exact ⟨hlt, by omega⟩
            · right; right; omega
          have hbig := digit_ways a b y0' c0 S tt g2 g2' (by omega)
          clear tt
          rcases hbig with ⟨d1, hlt⟩ | ⟨d1, pb, ⟨hlt, d2⟩ | ⟨hq, d2⟩⟩
          · rcases ways with ⟨-, hr⟩ | ⟨rfl, hr⟩ | hq
            · go_wp2
              go_round
              case rel => exact ⟨_, _, rfl, rfl, by rw [Int.sub_mul, Int.one_mul]; have := He.out; omega, by omega, by omega, by omega, by omega⟩
              case measure => simp [intOf]; omega
            · clear hlt
              go_wp2
              go_ret2
              exact ⟨ret_uu HF1.out HF2.out, rfl⟩
            · omega
          · rcases ways with ⟨-, hr⟩ | ⟨rfl, hr⟩ | hq
            · go_wp2
              go_round
              case rel => exact ⟨_, _, rfl, rfl, by rw [Int.sub_mul, Int.one_mul]; have := He.out; omega, by omega, by omega, by omega, by omega⟩
              case measure => simp [intOf]; omega
            · clear hlt
              go_wp2
              go_ret2
              exact ⟨ret_uu HF1.out HF2.out, rfl⟩
            · omega
          · subst hq
            clear ways
            go_wp2
            go_ret2
            exact ⟨ret_uu HF1.out HF2.out, rfl⟩
      · omega
    · subst hq
      clear ways
      go_wp2
      clear d1 pb d2 p0 He
      go_loop [18, 16] (fun q r => ∃ a b : Int, q = .int .u64 a ∧ r = .int .u64 b ∧ Dig V y1' S a b) (fun q _ => (intOf q).toNat)
      case atStart => exact ⟨_, _, rfl, rfl, by omega, T1, Q1, R0, by omega⟩
      case round =>
        obtain ⟨a, b, rfl, rfl, he, ha, ha', hb, hb'⟩ := hrel
        have tt := St2.out a b he
        have He := Lib.hid he
        have p0 : 0 ≤ a * y0' := Int.mul_nonneg (by omega) (by omega)
        clear he
        have ways : (S < a ∧ b + y1' < 4294967296) ∨ (a = S + 1 ∧ 4294967296 ≤ b + y1') ∨ a = S := by
          by_cases hlt : S < a
          · by_cases hbr : 4294967296 ≤ b + y1'
            · have hT := La2.out (a - 1) (b + y1') (by rw [Int.sub_mul, Int.one_mul]; have := He.out; omega) hbr (by omega) (by omega) (by omega)
              right; left; exact ⟨by omega, hbr⟩
            · left; exact ⟨hlt, by omega⟩
          · right; right; omega
        have hbig := digit_ways a b y0' c0 S tt g2 g2' (by omega)
        clear tt
        rcases hbig with ⟨d1, hlt⟩ | ⟨d1, pb, ⟨hlt, d2⟩ | ⟨hq, d2⟩⟩
        · rcases ways with ⟨-, hr⟩ | ⟨rfl, hr⟩ | hq
          · go_wp2
            go_round
            case rel => exact ⟨_, _, rfl, rfl, by rw [Int.sub_mul, Int.one_mul]; have := He.out; omega, by omega, by omega, by omega, by omega⟩
            case measure => simp [intOf]; omega
          · clear hlt
            go_wp2
            go_ret2
            exact ⟨ret_uu HF1.out HF2.out, rfl⟩
          · omega
        · rcases ways with ⟨-, hr⟩ | ⟨rfl, hr⟩ | hq
          · go_wp2
            go_round
            case rel => exact ⟨_, _, rfl, rfl, by rw [Int.sub_mul, Int.one_mul]; have := He.out; omega, by omega, by omega, by omega, by omega⟩
            case measure => simp [intOf]; omega
          · clear hlt
            go_wp2
            go_ret2
            exact ⟨ret_uu HF1.out HF2.out, rfl⟩
          · omega
        · subst hq
          clear ways
          go_wp2
          go_ret2
          exact ⟨ret_uu HF1.out HF2.out, rfl⟩
end Go.Proofs.YtciglhecjkeogaaGreatDoor

