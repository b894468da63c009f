
/- Plain arithmetic for layer 1: the quotient of two words by one word (Knuth's two digits), Newton's root, and how a number with a rest is rounded. No program in sight. -/
set_option linter.unusedVariables false
set_option linter.unusedSimpArgs false
namespace Go.Proofs.Ytijakijjeoaikaa.Mth

/-! ### quotients -/

/-- The digit that the division looks for is q as soon as q is not too large and not too small. -/
theorem digit_test (u c q r y1 y0 Y : Int) (hY : Y = y1 * 4294967296 + y0) (hY0 : 0 < Y) (he : q * y1 + r = u) :
    q * y0 > 4294967296 * r + c ↔ (u * 4294967296 + c) / Y < q := by
  rw [Int.ediv_lt_iff_lt_mul hY0]
  have e : q * Y = q * y1 * 4294967296 + q * y0 := by rw [hY, Int.mul_add, Int.mul_assoc]
  rw [e]
  have e2 : q * y1 = u - r := by omega
  rw [e2]
  constructor <;> intro h <;> omega

theorem digit_small (u c Y : Int) (hY0 : 0 < Y) (hu : u < Y) (hc : c < 4294967296) : (u * 4294967296 + c) / Y < 4294967296 := by
  rw [Int.ediv_lt_iff_lt_mul hY0]
  have : 4294967296 * Y = Y * 4294967296 := Int.mul_comm _ _
  omega

theorem digit_nonneg (u c Y : Int) (hY0 : 0 < Y) (hu : 0 ≤ u) (hc : 0 ≤ c) : 0 ≤ (u * 4294967296 + c) / Y :=
  Int.ediv_nonneg (by omega) (by omega)

/-- The first guess. -/
theorem digit_guess (u c y1 y0 Y : Int) (hY : Y = y1 * 4294967296 + y0) (h1 : 2147483648 ≤ y1) (h0 : 0 ≤ y0) (h0' : y0 < 4294967296) (hu : 0 ≤ u) (hu' : u < Y) (hc : 0 ≤ c) (hc' : c < 4294967296) :
    0 ≤ u / y1 ∧ u / y1 ≤ 4294967297 ∧ 0 ≤ u - u / y1 * y1 ∧ u - u / y1 * y1 < y1 ∧ (u * 4294967296 + c) / Y ≤ u / y1 := by
  have hy : 0 < y1 := by omega
  have d := Int.emod_add_mul_ediv u y1
  have m1 := Int.emod_nonneg u (by omega : y1 ≠ 0)
  have m2 := Int.emod_lt_of_pos u hy
  have dc : y1 * (u / y1) = u / y1 * y1 := Int.mul_comm _ _
  have q0 : 0 ≤ u / y1 := Int.ediv_nonneg hu (by omega)
  refine ⟨q0, ?_, by omega, by omega, ?_⟩
  · have : u / y1 < 4294967298 := by
      rw [Int.ediv_lt_iff_lt_mul hy]; omega
    omega
  · have : (u * 4294967296 + c) / Y < u / y1 + 1 := by
      rw [Int.ediv_lt_iff_lt_mul (by omega : 0 < Y)]
      have e : (u / y1 + 1) * Y = (u / y1 * y1 + y1) * 4294967296 + (u / y1 * y0 + y0) := by
        rw [hY, Int.add_mul, Int.mul_add, ← Int.mul_assoc]; omega
      have p : 0 ≤ u / y1 * y0 := Int.mul_nonneg q0 h0
      rw [e]; omega
    omega

/-- One step down that leaves the loop. -/
theorem digit_last (u c q r y1 y0 Y : Int) (hY : Y = y1 * 4294967296 + y0) (hY0 : 0 < Y) (he : q * y1 + r = u) (hr : 4294967296 ≤ r) (h0 : 0 ≤ y0) (h0' : y0 < 4294967296) (hq0 : 0 ≤ q) (hq : q ≤ 4294967296) (hc : 0 ≤ c)
    (hT : (u * 4294967296 + c) / Y ≤ q) : (u * 4294967296 + c) / Y = q := by
  have t := digit_test u c q r y1 y0 Y hY hY0 he
  have b : q * y0 ≤ 4294967296 * 4294967295 := by
    have := Int.mul_le_mul hq (by omega : y0 ≤ 4294967295) h0 (by omega)
    exact this
  have : ¬ (u * 4294967296 + c) / Y < q := by rw [← t]; omega
  omega

/-- Two digits make the quotient, and the second rest is the rest. -/
theorem two_digits (u c1 c0 Y : Int) (hY0 : 0 < Y) (hc0 : 0 ≤ c0) (hc0' : c0 < 4294967296) :
    (u * 4294967296 + c1) / Y * 4294967296 + ((u * 4294967296 + c1) % Y * 4294967296 + c0) / Y = ((u * 4294967296 + c1) * 4294967296 + c0) / Y ∧
    ((u * 4294967296 + c1) % Y * 4294967296 + c0) % Y = ((u * 4294967296 + c1) * 4294967296 + c0) % Y := by
  generalize u * 4294967296 + c1 = x
  have d := Int.emod_add_mul_ediv x Y
  have e : x * 4294967296 + c0 = (x % Y * 4294967296 + c0) + Y * (x / Y * 4294967296) := by
    rw [← Int.mul_assoc]; omega
  rw [e]
  refine ⟨?_, ?_⟩
  · rw [Int.add_mul_ediv_left _ _ (by omega)]; omega
  · rw [Int.add_mul_emod_self_left]

/-- The words of a quotient are shifted together. -/
theorem shifted (n y s : Int) (hs : 0 < s) : n * s / (y * s) = n / y ∧ n * s % (y * s) = n % y * s := by
  refine ⟨Int.mul_ediv_mul_of_pos_left _ _ hs, ?_⟩
  rw [Int.mul_comm n s, Int.mul_comm y s, Int.mul_emod_mul_of_pos _ _ hs, Int.mul_comm]

/-! ### roots -/

/-- The floor of the square root. -/
def isq : Nat → Nat
  | 0 => 0
  | n + 1 => if (isq n + 1) * (isq n + 1) ≤ n + 1 then isq n + 1 else isq n

theorem sq_succ (r : Nat) : (r + 1) * (r + 1) = r * r + 2 * r + 1 := by
  rw [Nat.add_mul, Nat.mul_add]; omega

theorem isq_spec (n : Nat) : isq n * isq n ≤ n ∧ n < (isq n + 1) * (isq n + 1) := by
  induction n with
  | zero => simp [isq]
  | succ n ih =>
    unfold isq
    have e := sq_succ (isq n + 1)
    split <;> omega

theorem sq_lt {r k : Nat} (h : r * r < (k + 1) * (k + 1)) : r ≤ k := by
  rcases Nat.lt_or_ge k r with c | c
  · have := Nat.mul_le_mul c c
    simp only [Nat.succ_eq_add_one] at this
    omega
  · exact c

theorem isq_uniq (n r : Nat) (h1 : r * r ≤ n) (h2 : n < (r + 1) * (r + 1)) : isq n = r := by
  have s := isq_spec n
  have a : isq n ≤ r := sq_lt (by omega)
  have b : r ≤ isq n := sq_lt (by omega)
  omega

/-- The floor of the square root of an integer that is not negative. -/
def rt (n : Int) : Int := (isq n.toNat : Int)

theorem rt_nonneg (n : Int) : 0 ≤ rt n := by unfold rt; omega

theorem rt_spec (n : Int) (hn : 0 ≤ n) : rt n * rt n ≤ n ∧ n < (rt n + 1) * (rt n + 1) := by
  obtain ⟨m, rfl⟩ := Int.eq_ofNat_of_zero_le hn
  have s := isq_spec m
  unfold rt
  rw [Int.toNat_natCast]
  refine ⟨?_, ?_⟩
  · have := s.1; exact_mod_cast this
  · have := s.2; exact_mod_cast this

theorem rt_uniq (n r : Int) (hr : 0 ≤ r) (h1 : r * r ≤ n) (h2 : n < (r + 1) * (r + 1)) : rt n = r := by
  have hn : 0 ≤ n := Int.le_trans (Int.mul_nonneg hr hr) h1
  obtain ⟨m, rfl⟩ := Int.eq_ofNat_of_zero_le hn
  obtain ⟨k, rfl⟩ := Int.eq_ofNat_of_zero_le hr
  unfold rt
  rw [Int.toNat_natCast, isq_uniq m k (by exact_mod_cast h1) (by exact_mod_cast h2)]

theorem isq_le_of {r x : Int} (hr : 0 ≤ r) (hx : 0 ≤ x) (h : r * r < (x + 1) * (x + 1)) : r ≤ x := by
  obtain ⟨m, rfl⟩ := Int.eq_ofNat_of_zero_le hx
  obtain ⟨k, rfl⟩ := Int.eq_ofNat_of_zero_le hr
  have : k ≤ m := sq_lt (by exact_mod_cast h)
  omega

theorem rt_pos (n : Int) (hn : 1 ≤ n) : 1 ≤ rt n := by
  have s := rt_spec n (by omega)
  exact isq_le_of (by omega) (rt_nonneg n) (by omega)

/-- Newton's step does not fall below the root. -/
theorem newton_ge (n x r : Int) (hx : 0 < x) (h1 : r * r ≤ n) : r ≤ (x + n / x) / 2 := by
  rcases Int.lt_or_le ((x + n / x) / 2) r with c | c
  · exfalso
    have c' : n / x + 1 ≤ 2 * r - x := by omega
    have l : n < (n / x + 1) * x := Int.lt_ediv_add_one_mul_self n hx
    have m : (n / x + 1) * x ≤ (2 * r - x) * x := Int.mul_le_mul_of_nonneg_right c' (by omega)
    have e : (2 * r - x) * x = r * r - (r - x) * (r - x) := by
      simp only [Int.sub_mul, Int.mul_sub, Int.mul_assoc, Int.mul_comm x r]; omega
    have p : 0 ≤ (r - x) * (r - x) := by
      rcases Int.le_total 0 (r - x) with q | q
      · exact Int.mul_nonneg q q
      · exact Int.mul_nonneg_of_nonpos_of_nonpos q q
    omega
  · exact c

/-- Newton's steps stop at the root. -/
theorem newton_stop (n x : Int) (hx : 0 < x) (h : x ≤ (x + n / x) / 2) : x * x ≤ n := by
  have q : x ≤ n / x := by omega
  exact (Int.le_ediv_iff_mul_le hx).1 q

theorem newton_word (n x r : Int) (hr : 0 ≤ r) (hx : r ≤ x) (hx0 : 0 < x) (h2 : n < (r + 1) * (r + 1)) (hb : r < 9223372036854775808) :
    n / x ≤ r + 2 ∧ n < x * 18446744073709551616 := by
  have e : (r + 1) * (r + 1) = r * (r + 2) + 1 := by
    simp only [Int.add_mul, Int.mul_add]; omega
  have m : r * (r + 2) ≤ x * (r + 2) := Int.mul_le_mul_of_nonneg_right hx (by omega)
  refine ⟨?_, ?_⟩
  · have : n / x < r + 3 := by
      rw [Int.ediv_lt_iff_lt_mul hx0]
      have e2 : (r + 3) * x = x * (r + 2) + x := by
        rw [Int.mul_comm, show r + 3 = (r + 2) + 1 from by omega, Int.mul_add]; omega
      omega
    omega
  · have m2 : x * (r + 2) ≤ x * 9223372036854775809 := Int.mul_le_mul_of_nonneg_left (by omega) (by omega)
    omega

/-! ### rounding -/

/-- The size of an integer. -/
def mag (x : Int) : Int := if x < 0 then -x else x

theorem mag_nonneg (x : Int) : 0 ≤ mag x := by unfold mag; split <;> omega
theorem mag_le (x : Int) (h1 : -9223372036854775808 ≤ x) (h2 : x ≤ 9223372036854775807) : mag x ≤ 9223372036854775808 := by unfold mag; split <;> omega

/-- Whether a number with a rest (0: none, 1: less than a half, 2: a half, 3: more) is rounded away from nought. -/
def away (mode : Int) (neg : Bool) (rest : Int) : Bool :=
  if mode = 0 then neg && decide (rest ≠ 0) else if mode = 1 then !neg && decide (rest ≠ 0) else (decide (rest = 3) || (decide (rest = 2) && !neg))

/-- The rounded number. -/
def rnd (mode : Int) (neg : Bool) (q rest : Int) : Int :=
  if neg then -(q + (if away mode neg rest then 1 else 0)) else q + (if away mode neg rest then 1 else 0)

/-- Whether there is such a mode and such an int. -/
def rok (mode : Int) (neg : Bool) (q rest : Int) : Bool :=
  decide (mode = 0 ∨ mode = 1 ∨ mode = 2) && decide (-9223372036854775808 ≤ rnd mode neg q rest ∧ rnd mode neg q rest ≤ 9223372036854775807)

/-- The result of a rounding. -/
def rv (mode : Int) (neg : Bool) (q rest : Int) : Int := if rok mode neg q rest then rnd mode neg q rest else 0

end Go.Proofs.Ytijakijjeoaikaa.Mth
