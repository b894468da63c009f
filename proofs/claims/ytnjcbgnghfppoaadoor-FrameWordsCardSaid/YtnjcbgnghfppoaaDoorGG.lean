import Derived.Test.YtnjcbgnghfppoaaDoorGA

/- Plain facts on numbers in millionths: rounded quotients in closed form, and what the functions of package fixed return. -/
set_option linter.unusedVariables false
set_option linter.unusedSimpArgs false
namespace Go.Proofs.YtnjcbgnghfppoaaDoor
open Go.RowKit

theorem ediv_eq {x y k : Int} (hy : 0 < y) (h1 : k * y ≤ x) (h2 : x < k * y + y) : x / y = k := by
  have a : x / y < k + 1 := (Int.ediv_lt_iff_lt_mul hy).2 (by rw [Int.add_mul]; omega)
  have b : k ≤ x / y := (Int.le_ediv_iff_mul_le hy).2 h1
  omega

/-- A quotient, rounded by a mode. -/
def qv (m N c : Int) : Int := if m = 0 then N / c else if m = 1 then -((-N) / c) else (2 * N + c) / (2 * c)

theorem prod_mag (a b : Int) : Mth.mag a * Mth.mag b = a * b ∧ (decide (a < 0) != decide (b < 0)) = false ∨ Mth.mag a * Mth.mag b = -(a * b) ∧ (decide (a < 0) != decide (b < 0)) = true := by
  unfold Mth.mag
  by_cases ca : a < 0 <;> by_cases cb : b < 0 <;> simp [ca, cb, Int.neg_mul, Int.mul_neg]

theorem rnd_qv (m N c P : Int) (neg : Bool) (hc : 0 < c) (m0 : 0 ≤ m) (m2 : m ≤ 2) (hP : 0 ≤ P) (h : P = N ∧ neg = false ∨ P = -N ∧ neg = true) :
    Mth.rnd m neg (P / c) (restQ (P % c) c) = qv m N c := by
  have d := Int.emod_add_mul_ediv P c
  have l0 := Int.emod_nonneg P (show c ≠ 0 by omega)
  have l1 := Int.emod_lt_of_pos P hc
  have q0 : 0 ≤ P / c := Int.ediv_nonneg hP (by omega)
  generalize P / c = q at *
  generalize P % c = l at *
  rw [Int.mul_comm] at d
  have e1 : (q + 1) * c = q * c + c := by rw [Int.add_mul, Int.one_mul]
  have e2 : q * (2 * c) = 2 * (q * c) := by rw [← Int.mul_assoc, Int.mul_comm q 2, Int.mul_assoc]
  have e3 : (q + 1) * (2 * c) = 2 * (q * c) + 2 * c := by rw [Int.add_mul, e2, Int.one_mul]
  have e4 : (-q) * c = -(q * c) := Int.neg_mul q c
  have e5 : (-(q + 1)) * c = -(q * c) - c := by rw [Int.neg_mul, e1]; omega
  have e6 : (-q) * (2 * c) = -(2 * (q * c)) := by rw [Int.neg_mul, e2]
  have e7 : (-(q + 1)) * (2 * c) = -(2 * (q * c)) - 2 * c := by rw [Int.neg_mul, e3]; omega
  unfold qv Mth.rnd Mth.away restQ
  rcases h with ⟨rfl, rfl⟩ | ⟨h, rfl⟩
  · have : m = 0 ∨ m = 1 ∨ m = 2 := by omega
    rcases this with rfl | rfl | rfl
    · simp only [Bool.false_and, Bool.false_eq_true, if_false, if_true, Int.add_zero]
      exact (ediv_eq hc (by omega) (by omega)).symm
    · by_cases z : l = 0
      · subst z
        simp only [if_true, Bool.false_eq_true, if_false, Int.one_ne_zero, ne_eq, not_true_eq_false, decide_false, Bool.and_false, Int.add_zero]
        rw [ediv_eq (x := -P) (k := -q) hc (by omega) (by omega)]; omega
      · rw [ediv_eq (x := -P) (k := -(q + 1)) hc (by omega) (by omega)]
        have : (if l = 0 then (0 : Int) else if l < c - l then 1 else if l = c - l then 2 else 3) ≠ 0 := by rw [if_neg z]; split <;> (try split) <;> omega
        simp [this]
    · by_cases g : 2 * l < c
      · rw [if_neg (show ¬ (2 : Int) = 0 by omega), if_neg (show ¬ (2 : Int) = 1 by omega), ediv_eq (x := 2 * P + c) (k := q) (by omega) (by omega) (by omega)]
        by_cases z : l = 0
        · simp [z]
        · simp [z, show l < c - l by omega]
      · rw [if_neg (show ¬ (2 : Int) = 0 by omega), if_neg (show ¬ (2 : Int) = 1 by omega), ediv_eq (x := 2 * P + c) (k := q + 1) (by omega) (by omega) (by omega)]
        have z : ¬ l = 0 := by omega
        have y : ¬ l < c - l := by omega
        by_cases x : l = c - l
        · simp only [if_neg z, if_neg y, if_pos x]; simp
        · simp only [if_neg z, if_neg y, if_neg x]; simp
  · have hN : N = -P := by omega
    subst hN
    have : m = 0 ∨ m = 1 ∨ m = 2 := by omega
    rcases this with rfl | rfl | rfl
    · by_cases z : l = 0
      · subst z
        simp only [if_true, ne_eq, not_true_eq_false, decide_false, Bool.and_false, Bool.false_eq_true, if_false, Int.add_zero]
        rw [ediv_eq (x := -P) (k := -q) hc (by omega) (by omega)]
      · have : (if l = 0 then (0 : Int) else if l < c - l then 1 else if l = c - l then 2 else 3) ≠ 0 := by rw [if_neg z]; split <;> (try split) <;> omega
        simp only [this, if_true, ne_eq, not_false_eq_true, decide_true, Bool.and_self]
        rw [ediv_eq (x := -P) (k := -(q + 1)) hc (by omega) (by omega)]
    · simp only [if_true, if_neg (show ¬ (1 : Int) = 0 by omega), Bool.not_true, Bool.false_and, Bool.false_eq_true, if_false, Int.add_zero, Int.neg_neg]
      rw [ediv_eq (x := P) (k := q) hc (by omega) (by omega)]
    · by_cases g : 2 * l ≤ c
      · rw [if_neg (show ¬ (2 : Int) = 0 by omega), if_neg (show ¬ (2 : Int) = 1 by omega), ediv_eq (x := 2 * -P + c) (k := -q) (by omega) (by omega) (by omega)]
        by_cases z : l = 0
        · simp [z]
        · by_cases x : l < c - l
          · simp [z, x]
          · simp only [if_neg z, if_neg x, if_pos (show l = c - l by omega)]; simp
      · rw [if_neg (show ¬ (2 : Int) = 0 by omega), if_neg (show ¬ (2 : Int) = 1 by omega), ediv_eq (x := 2 * -P + c) (k := -(q + 1)) (by omega) (by omega) (by omega)]
        simp only [if_neg (show ¬ l = 0 by omega), if_neg (show ¬ l < c - l by omega), if_neg (show ¬ l = c - l by omega)]; simp

/-- A quotient by a positive divisor in closed form. -/
theorem md_qv (a b c m : Int) (hc : 0 < c) (m0 : 0 ≤ m) (m2 : m ≤ 2) (r1 : -9223372036854775808 ≤ qv m (a * b) c) (r2 : qv m (a * b) c ≤ 9223372036854775807) :
    mdok a b c m = true ∧ mdv a b c m = qv m (a * b) c := by
  have e : Mth.rnd m (ng a b c) (mq a b c) (mr a b c) = qv m (a * b) c := by
    have hn : ng a b c = (decide (a < 0) != decide (b < 0)) := by unfold ng; rw [decide_eq_false (show ¬ c < 0 by omega)]; simp
    have hm : Mth.mag c = c := by unfold Mth.mag; rw [if_neg (by omega)]
    unfold mq mr
    rw [hm, hn]
    exact rnd_qv m (a * b) c _ _ hc m0 m2 (Int.mul_nonneg (Mth.mag_nonneg a) (Mth.mag_nonneg b)) (prod_mag a b)
  obtain ⟨x, y⟩ := rok_true m (ng a b c) (mq a b c) (mr a b c) _ m0 m2 e r1 r2
  unfold mdv mdok
  rw [if_neg (by omega), if_neg (by omega), x, y]
  exact ⟨rfl, rfl⟩

/-- The nearest quotient is near. -/
theorem md_near (a b c : Int) (h : mdok a b c 2 = true) : 2 * (mdv a b c 2 * c - a * b) ≤ Mth.mag c ∧ 2 * (a * b - mdv a b c 2 * c) ≤ Mth.mag c := by
  obtain ⟨hc, e⟩ := md_ok h
  have pc := mag_pos hc
  rw [e]
  have hP : 0 ≤ Mth.mag a * Mth.mag b := Int.mul_nonneg (Mth.mag_nonneg a) (Mth.mag_nonneg b)
  have d := Int.emod_add_mul_ediv (Mth.mag a * Mth.mag b) (Mth.mag c)
  have l0 := Int.emod_nonneg (Mth.mag a * Mth.mag b) (show Mth.mag c ≠ 0 by omega)
  have l1 := Int.emod_lt_of_pos (Mth.mag a * Mth.mag b) pc
  have pm := prod_mag a b
  unfold mq mr ng
  have cs := mag_sign c
  generalize (decide (a < 0) != decide (b < 0)) = s at *
  generalize Mth.mag a * Mth.mag b = P at *
  generalize Mth.mag c = C at *
  generalize P / C = q at *
  generalize P % C = l at *
  rw [Int.mul_comm] at d
  have e1 : (q + 1) * C = q * C + C := by rw [Int.add_mul, Int.one_mul]
  have key : ∃ k : Int, (k = q ∨ k = q + 1) ∧ Mth.rnd 2 (s != decide (c < 0)) q (restQ l C) = (if (s != decide (c < 0)) = true then -k else k) ∧ 2 * (k * C - P) ≤ C ∧ 2 * (P - k * C) ≤ C := by
    unfold Mth.rnd Mth.away restQ
    generalize (s != decide (c < 0)) = n
    by_cases z : l = 0
    · refine ⟨q, .inl rfl, ?_, by omega, by omega⟩
      cases n <;> simp [z]
    · by_cases g : l < C - l
      · refine ⟨q, .inl rfl, ?_, by omega, by omega⟩
        cases n <;> simp [z, g]
      · by_cases x : l = C - l
        · cases n
          · refine ⟨q + 1, .inr rfl, ?_, by omega, by omega⟩
            simp only [if_neg z, if_neg g, if_pos x]; simp
          · refine ⟨q, .inl rfl, ?_, by omega, by omega⟩
            simp only [if_neg z, if_neg g, if_pos x]; simp
        · refine ⟨q + 1, .inr rfl, ?_, by omega, by omega⟩
          simp only [if_neg z, if_neg g, if_neg x]
          cases n <;> simp
  obtain ⟨k, _, ek, u, v⟩ := key
  rw [ek]
  clear ek e h d e1
  have f1 : (-k) * C = -(k * C) := Int.neg_mul k C
  have f2 : k * (-C) = -(k * C) := Int.mul_neg k C
  have f3 : (-k) * (-C) = k * C := Int.neg_mul_neg k C
  rcases cs with ⟨rfl, cc⟩ | ⟨cs, cc⟩
  · rw [decide_eq_false (by omega)]
    rcases pm with ⟨pm, rfl⟩ | ⟨pm, rfl⟩ <;> simp <;> omega
  · have : c = -C := by omega
    subst this
    rw [decide_eq_true (by omega)]
    rcases pm with ⟨pm, rfl⟩ | ⟨pm, rfl⟩ <;> simp <;> omega

/-! ### what the functions of package fixed return -/

/-- Whether a number is valid. -/
def vld (n : Int) : Bool := decide (-1000000000000000 ≤ n ∧ n ≤ 1000000000000000)
theorem vld_t {n : Int} (h1 : -1000000000000000 ≤ n) (h2 : n ≤ 1000000000000000) : vld n = true := decide_eq_true ⟨h1, h2⟩
theorem vld_f {n : Int} (h : n < -1000000000000000 ∨ 1000000000000000 < n) : vld n = false := decide_eq_false (by omega)
theorem vld_bd {n : Int} (h : vld n = true) : -1000000000000000 ≤ n ∧ n ≤ 1000000000000000 := of_decide_eq_true h
theorem vld_nb {n : Int} (h : vld n = false) : n < -1000000000000000 ∨ 1000000000000000 < n := by have := of_decide_eq_false h; omega
theorem vld_cases (n : Int) : vld n = true ∧ -1000000000000000 ≤ n ∧ n ≤ 1000000000000000 ∨ vld n = false ∧ (n < -1000000000000000 ∨ 1000000000000000 < n) := by
  cases h : vld n
  · exact .inr ⟨rfl, vld_nb h⟩
  · exact .inl ⟨rfl, vld_bd h⟩

def both (a b : Int) : Bool := vld a && vld b
def tv (n : Int) (ok : Bool) : Int := if (ok && vld n) = true then n else 0
def te (n : Int) (ok : Bool) : Int := if (ok && vld n) = true then 0 else 3

def addv (a b : Int) : Int := if both a b = true then tv (a + b) true else 0
def adde (a b : Int) : Int := if both a b = true then te (a + b) true else 1
def subv (a b : Int) : Int := if both a b = true then tv (a - b) true else 0
def sube (a b : Int) : Int := if both a b = true then te (a - b) true else 1
def mulv (a b : Int) : Int := if both a b = true then tv (mdv a b 1000000 2) (mdok a b 1000000 2) else 0
def mule (a b : Int) : Int := if both a b = true then te (mdv a b 1000000 2) (mdok a b 1000000 2) else 1
/-- The error of the operands of a division. -/
def dve (a b : Int) : Int := if both a b = true then (if b = 0 then 4 else 0) else 1
def divv (a b : Int) : Int := if dve a b = 0 then tv (mdv a 1000000 b 2) (mdok a 1000000 b 2) else 0
def dive (a b : Int) : Int := if dve a b = 0 then te (mdv a 1000000 b 2) (mdok a 1000000 b 2) else dve a b
def modv (a b : Int) : Int := if dve a b = 0 then a % b else 0
def sqv (a : Int) : Int := if vld a = true then (if a < 0 then 0 else tv (rtv a 1000000 2) (rtok a 1000000 2)) else 0
def sqe (a : Int) : Int := if vld a = true then (if a < 0 then 5 else te (rtv a 1000000 2) (rtok a 1000000 2)) else 1
def arge (a : Int) : Int := if vld a = true then 0 else 1
def roundv (a : Int) : Int := if vld a = true then (a + 500000) / 1000000 * 1000000 else 0
def flv (a : Int) : Int := a / 1000000 * 1000000
def clv (a : Int) : Int := -((-a) / 1000000 * 1000000)
def fixv (a : Int) : Int := if vld a = true then (if a < 0 then clv a else flv a) else 0
def fupv (a : Int) : Int := if vld a = true then (if a < 0 then flv a else clv a) else 0
def whole (a : Int) : Bool := vld a && decide (a % 1000000 = 0)
def wholev (a : Int) : Int := if whole a = true then a / 1000000 else 0
/-- A length in micrometers. -/
def ln (a u : Int) : Int := if u = 20 then (2 * (a * 254) + 10000) / 20000 else (2 * a + 1000) / 2000
def lene (a u : Int) : Int := if vld a = true ∧ (u = 20 ∨ u = 21) then (if -1048576 ≤ ln a u ∧ ln a u ≤ 1048576 then 0 else 3) else 1
def lenv (a u : Int) : Int := if lene a u = 0 then ln a u else 0

/-- The rounded integer of a number. -/
theorem md_int (a m : Int) (m0 : 0 ≤ m) (m2 : m ≤ 2) (h : vld a = true) :
    mdok a 1 1000000 m = true ∧ mdv a 1 1000000 m = qv m a 1000000 ∧ -1000000000 ≤ qv m a 1000000 ∧ qv m a 1000000 ≤ 1000000000 := by
  have b := vld_bd h
  have r : -1000000000 ≤ qv m a 1000000 ∧ qv m a 1000000 ≤ 1000000000 := by
    unfold qv; split
    · omega
    · split <;> omega
  have := md_qv a 1 1000000 m (by omega) m0 m2 (by rw [Int.mul_one]; omega) (by rw [Int.mul_one]; omega)
  rw [Int.mul_one] at this
  exact ⟨this.1, this.2, r⟩

theorem qv_0 (N c : Int) : qv 0 N c = N / c := rfl
theorem qv_1 (N c : Int) : qv 1 N c = -((-N) / c) := rfl
theorem qv_2 (N c : Int) : qv 2 N c = (2 * N + c) / (2 * c) := rfl

/-- The length of a number of units. -/
theorem md_len (a u : Int) (h : vld a = true) : mdok a (if u = 20 then 25400 else 1000) 1000000 2 = true ∧ mdv a (if u = 20 then 25400 else 1000) 1000000 2 = ln a u := by
  have b := vld_bd h
  have e : qv 2 (a * (if u = 20 then 25400 else 1000)) 1000000 = ln a u ∧ -9223372036854775808 ≤ ln a u ∧ ln a u ≤ 9223372036854775807 := by
    rw [qv_2]; unfold ln; split <;> omega
  have := md_qv a (if u = 20 then 25400 else 1000) 1000000 2 (by omega) (by omega) (by omega) (by rw [e.1]; exact e.2.1) (by rw [e.1]; exact e.2.2)
  rw [e.1] at this
  exact this

end Go.Proofs.YtnjcbgnghfppoaaDoor

/- The walks of package fixed on numbers: Valid to Length. -/
set_option linter.unusedVariables false
set_option linter.unusedSimpArgs false
namespace Go.Proofs.YtnjcbgnghfppoaaDoor
open Go.RowKit

theorem ret_ii {a b c d : Int} (h : a = b) (g : c = d) : Ending.returned (.tuple #[.int .i64 a, .int .i64 c]) = .returned (.tuple #[.int .i64 b, .int .i64 d]) := by rw [h, g]
theorem ret_bl {a b : Bool} (h : a = b) : Ending.returned (.bool a) = .returned (.bool b) := by rw [h]

theorem fxValid (n : Int) (w : World) : Calls Tryd.prog 100 #[.int .i64 n] w fun e w' => e = .returned (.bool (vld n)) ∧ w = w' := by
  by_cases h1 : n < -1000000000000000
  · rw [vld_f (.inl h1)]
    go_enter Tryd.func100, Tryd.ntmps100
    go_wp2
    go_ret
    exact ⟨ret_bl (by first | rfl | (simp; omega)), rfl⟩
  · by_cases h2 : 1000000000000000 < n
    · rw [vld_f (.inr h2)]
      go_enter Tryd.func100, Tryd.ntmps100
      go_wp2
      go_ret
      exact ⟨ret_bl (by first | rfl | (simp; omega)), rfl⟩
    · rw [vld_t (by omega) (by omega)]
      go_enter Tryd.func100, Tryd.ntmps100
      go_wp2
      go_ret
      exact ⟨ret_bl (by first | rfl | (simp; omega)), rfl⟩

theorem dve_cases (a b : Int) : dve a b = 0 ∧ vld a = true ∧ vld b = true ∧ b ≠ 0 ∨ dve a b = 4 ∧ vld a = true ∧ vld b = true ∧ b = 0 ∨ dve a b = 1 ∧ (vld a = false ∨ vld b = false) := by
  unfold dve both
  cases ha : vld a
  · exact .inr (.inr ⟨rfl, .inl rfl⟩)
  · cases hb : vld b
    · exact .inr (.inr ⟨rfl, .inr rfl⟩)
    · by_cases z : b = 0
      · exact .inr (.inl ⟨by simp [z], rfl, rfl, z⟩)
      · exact .inl ⟨by simp [z], rfl, rfl, z⟩

/-- The rounded number. -/
def intv (m a : Int) : Int := if vld a = true then qv m a 1000000 * 1000000 else 0

/-- Whether there is such a unit. -/
def unit (u : Int) : Bool := decide (u = 20 ∨ u = 21)
theorem fxUnit (u : Int) (w : World) : Calls Tryd.prog 99 #[.int .i64 u] w fun e w' => e = .returned (.tuple #[.int .i64 (if u = 20 then 25400 else if u = 21 then 1000 else 0), .bool (unit u)]) ∧ w = w' := by
  by_cases c : u = 20
  · subst c
    rw [if_pos rfl, show unit 20 = true from rfl]
    go_enter Tryd.func99, Tryd.ntmps99
    go_wp2
    go_ret2
    exact ⟨rfl, rfl⟩
  · by_cases d : u = 21
    · subst d
      rw [if_neg (by decide), if_pos rfl, show unit 21 = true from rfl]
      go_enter Tryd.func99, Tryd.ntmps99
      go_wp2
      go_ret2
      exact ⟨rfl, rfl⟩
    · rw [if_neg c, if_neg d, show unit u = false from decide_eq_false (by omega)]
      have c' : (u == 20) = false := beq_eq_false_iff_ne.2 c
      have d' : (u == 21) = false := beq_eq_false_iff_ne.2 d
      go_enter Tryd.func99, Tryd.ntmps99
      go_wp2
      go_ret2
      exact ⟨rfl, rfl⟩

theorem fxLength (a u : Int) (w : World) : Calls Tryd.prog 84 #[.int .i64 a, .int .i64 u] w fun e w' => e = .returned (.tuple #[.int .i64 (lenv a u), .int .i64 (lene a u)]) ∧ Qw w w' := by
  have q0 := Qw.refl w
  by_cases hu : u = 20 ∨ u = 21
  · have eu : unit u = true := decide_eq_true hu
    cases h : vld a
    · have e : lene a u = 1 := if_neg (by rw [h]; simp)
      rw [show lenv a u = 0 from if_neg (by omega), e]
      clear e
      rcases hu with rfl | rfl
      · clear eu
        go_enter Tryd.func84, Tryd.ntmps84
        go_wp2_with (first | (go_at_call 99; refine (fxUnit _ _).mono ?_; rintro e w' ⟨rfl, rfl⟩) | (go_at_call 100; refine (fxValid _ _).mono ?_; rintro e w' ⟨rfl, rfl⟩))
        go_ret2
        exact ⟨rfl, q0⟩
      · clear eu
        go_enter Tryd.func84, Tryd.ntmps84
        go_wp2_with (first | (go_at_call 99; refine (fxUnit _ _).mono ?_; rintro e w' ⟨rfl, rfl⟩) | (go_at_call 100; refine (fxValid _ _).mono ?_; rintro e w' ⟨rfl, rfl⟩))
        go_ret2
        exact ⟨rfl, q0⟩
    · obtain ⟨a1, a2⟩ := vld_bd h
      obtain ⟨k, v⟩ := md_len a u h
      have c1 := fun w => muldivW a (if u = 20 then 25400 else 1000) 1000000 2 (by omega) (by omega) (by split <;> omega) (by split <;> omega) (by omega) (by omega) w
      rw [k, v] at c1
      have C1 := Lib.hid c1
      have e : lene a u = if -1048576 ≤ ln a u ∧ ln a u ≤ 1048576 then 0 else 3 := if_pos ⟨h, hu⟩
      have e2 : lenv a u = if -1048576 ≤ ln a u ∧ ln a u ≤ 1048576 then ln a u else 0 := by unfold lenv; rw [e]; split <;> simp
      rw [e, e2]
      clear k v c1 e e2
      generalize ln a u = x at *
      by_cases c1 : x < -1048576
      · rw [if_neg (by omega), if_neg (by omega)]
        rcases hu with rfl | rfl
        · clear eu
          rw [if_pos rfl] at C1
          go_enter Tryd.func84, Tryd.ntmps84
          go_wp2_with (first | (go_at_call 99; refine (fxUnit _ _).mono ?_; rintro e w' ⟨rfl, rfl⟩) | (go_at_call 100; refine (fxValid _ _).mono ?_; rintro e w' ⟨rfl, rfl⟩) | (go_at_call 101; refine (C1.out _).mono ?_; rintro e w' ⟨rfl, h⟩; replace q0 := Qw.trans q0 h; clear h))
          go_ret2
          exact ⟨rfl, q0⟩
        · clear eu
          rw [if_neg (by decide)] at C1
          go_enter Tryd.func84, Tryd.ntmps84
          go_wp2_with (first | (go_at_call 99; refine (fxUnit _ _).mono ?_; rintro e w' ⟨rfl, rfl⟩) | (go_at_call 100; refine (fxValid _ _).mono ?_; rintro e w' ⟨rfl, rfl⟩) | (go_at_call 101; refine (C1.out _).mono ?_; rintro e w' ⟨rfl, h⟩; replace q0 := Qw.trans q0 h; clear h))
          go_ret2
          exact ⟨rfl, q0⟩
      · by_cases c2 : 1048576 < x
        · rw [if_neg (by omega), if_neg (by omega)]
          rcases hu with rfl | rfl
          · clear eu
            rw [if_pos rfl] at C1
            go_enter Tryd.func84, Tryd.ntmps84
            go_wp2_with (first | (go_at_call 99; refine (fxUnit _ _).mono ?_; rintro e w' ⟨rfl, rfl⟩) | (go_at_call 100; refine (fxValid _ _).mono ?_; rintro e w' ⟨rfl, rfl⟩) | (go_at_call 101; refine (C1.out _).mono ?_; rintro e w' ⟨rfl, h⟩; replace q0 := Qw.trans q0 h; clear h))
            go_ret2
            exact ⟨rfl, q0⟩
          · clear eu
            rw [if_neg (by decide)] at C1
            go_enter Tryd.func84, Tryd.ntmps84
            go_wp2_with (first | (go_at_call 99; refine (fxUnit _ _).mono ?_; rintro e w' ⟨rfl, rfl⟩) | (go_at_call 100; refine (fxValid _ _).mono ?_; rintro e w' ⟨rfl, rfl⟩) | (go_at_call 101; refine (C1.out _).mono ?_; rintro e w' ⟨rfl, h⟩; replace q0 := Qw.trans q0 h; clear h))
            go_ret2
            exact ⟨rfl, q0⟩
        · rw [if_pos (by omega), if_pos (by omega)]
          rcases hu with rfl | rfl
          · clear eu
            rw [if_pos rfl] at C1
            go_enter Tryd.func84, Tryd.ntmps84
            go_wp2_with (first | (go_at_call 99; refine (fxUnit _ _).mono ?_; rintro e w' ⟨rfl, rfl⟩) | (go_at_call 100; refine (fxValid _ _).mono ?_; rintro e w' ⟨rfl, rfl⟩) | (go_at_call 101; refine (C1.out _).mono ?_; rintro e w' ⟨rfl, h⟩; replace q0 := Qw.trans q0 h; clear h))
            go_ret2
            exact ⟨rfl, q0⟩
          · clear eu
            rw [if_neg (by decide)] at C1
            go_enter Tryd.func84, Tryd.ntmps84
            go_wp2_with (first | (go_at_call 99; refine (fxUnit _ _).mono ?_; rintro e w' ⟨rfl, rfl⟩) | (go_at_call 100; refine (fxValid _ _).mono ?_; rintro e w' ⟨rfl, rfl⟩) | (go_at_call 101; refine (C1.out _).mono ?_; rintro e w' ⟨rfl, h⟩; replace q0 := Qw.trans q0 h; clear h))
            go_ret2
            exact ⟨rfl, q0⟩
  · have eu : unit u = false := decide_eq_false hu
    have e : lene a u = 1 := if_neg (fun h => hu h.2)
    rw [show lenv a u = 0 from if_neg (by omega), e]
    clear e
    go_enter Tryd.func84, Tryd.ntmps84
    go_wp2_with (go_at_call 99; refine (fxUnit _ _).mono ?_; rintro e w' ⟨rfl, rfl⟩)
    go_ret2
    exact ⟨rfl, q0⟩

end Go.Proofs.YtnjcbgnghfppoaaDoor
