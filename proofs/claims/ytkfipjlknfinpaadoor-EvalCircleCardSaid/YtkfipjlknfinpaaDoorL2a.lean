import Derived.Test.YtkfipjlknfinpaaDoorL1a
import Derived.Lib.ItoaNum
import Derived.IntWalk
import Derived.Lib.MinMax
import Derived.Outline

/- Plain facts on numbers in millionths: rounded quotients in closed form, and what the functions of package fixed return. -/
set_option linter.unusedVariables false
set_option linter.unusedSimpArgs false
namespace Go.Proofs.YtkfipjlknfinpaaDoor
open Go.RowKit

theorem ediv_eq {x y k : Int} (hy : 0 < y) (h1 : k * y ≤ x) (h2 : x < k * y + y) : x / y = k := by
  have a : x / y < k + 1 := (Int.ediv_lt_iff_lt_mul hy).2 (by rw [Int.add_mul]; omega)
  have b : k ≤ x / y := (Int.le_ediv_iff_mul_le hy).2 h1
  omega

/-- A quotient, rounded by a mode. -/
def qv (m N c : Int) : Int := if m = 0 then N / c else if m = 1 then -((-N) / c) else (2 * N + c) / (2 * c)

theorem prod_mag (a b : Int) : Mth.mag a * Mth.mag b = a * b ∧ (decide (a < 0) != decide (b < 0)) = false ∨ Mth.mag a * Mth.mag b = -(a * b) ∧ (decide (a < 0) != decide (b < 0)) = true := by
  unfold Mth.mag
  by_cases ca : a < 0 <;> by_cases cb : b < 0 <;> simp [ca, cb, Int.neg_mul, Int.mul_neg]

theorem rnd_qv (m N c P : Int) (neg : Bool) (hc : 0 < c) (m0 : 0 ≤ m) (m2 : m ≤ 2) (hP : 0 ≤ P) (h : P = N ∧ neg = false ∨ P = -N ∧ neg = true) :
    Mth.rnd m neg (P / c) (restQ (P % c) c) = qv m N c := by
  have d := Int.emod_add_mul_ediv P c
  have l0 := Int.emod_nonneg P (show c ≠ 0 by omega)
  have l1 := Int.emod_lt_of_pos P hc
  have q0 : 0 ≤ P / c := Int.ediv_nonneg hP (by omega)
  generalize P / c = q at *
  generalize P % c = l at *
  rw [Int.mul_comm] at d
  have e1 : (q + 1) * c = q * c + c := by rw [Int.add_mul, Int.one_mul]
  have e2 : q * (2 * c) = 2 * (q * c) := by rw [← Int.mul_assoc, Int.mul_comm q 2, Int.mul_assoc]
  have e3 : (q + 1) * (2 * c) = 2 * (q * c) + 2 * c := by rw [Int.add_mul, e2, Int.one_mul]
  have e4 : (-q) * c = -(q * c) := Int.neg_mul q c
  have e5 : (-(q + 1)) * c = -(q * c) - c := by rw [Int.neg_mul, e1]; omega
  have e6 : (-q) * (2 * c) = -(2 * (q * c)) := by rw [Int.neg_mul, e2]
  have e7 : (-(q + 1)) * (2 * c) = -(2 * (q * c)) - 2 * c := by rw [Int.neg_mul, e3]; omega
  unfold qv Mth.rnd Mth.away restQ
  rcases h with ⟨rfl, rfl⟩ | ⟨h, rfl⟩
  · have : m = 0 ∨ m = 1 ∨ m = 2 := by omega
    rcases this with rfl | rfl | rfl
    · simp only [Bool.false_and, Bool.false_eq_true, if_false, if_true, Int.add_zero]
      exact (ediv_eq hc (by omega) (by omega)).symm
    · by_cases z : l = 0
      · subst z
        simp only [if_true, Bool.false_eq_true, if_false, Int.one_ne_zero, ne_eq, not_true_eq_false, decide_false, Bool.and_false, Int.add_zero]
        rw [ediv_eq (x := -P) (k := -q) hc (by omega) (by omega)]; omega
      · rw [ediv_eq (x := -P) (k := -(q + 1)) hc (by omega) (by omega)]
        have : (if l = 0 then (0 : Int) else if l < c - l then 1 else if l = c - l then 2 else 3) ≠ 0 := by rw [if_neg z]; split <;> (try split) <;> omega
        simp [this]
    · by_cases g : 2 * l < c
      · rw [if_neg (show ¬ (2 : Int) = 0 by omega), if_neg (show ¬ (2 : Int) = 1 by omega), ediv_eq (x := 2 * P + c) (k := q) (by omega) (by omega) (by omega)]
        by_cases z : l = 0
        · simp [z]
        · simp [z, show l < c - l by omega]
      · rw [if_neg (show ¬ (2 : Int) = 0 by omega), if_neg (show ¬ (2 : Int) = 1 by omega), ediv_eq (x := 2 * P + c) (k := q + 1) (by omega) (by omega) (by omega)]
        have z : ¬ l = 0 := by omega
        have y : ¬ l < c - l := by omega
        by_cases x : l = c - l
        · simp only [if_neg z, if_neg y, if_pos x]; simp
        · simp only [if_neg z, if_neg y, if_neg x]; simp
  · have hN : N = -P := by omega
    subst hN
    have : m = 0 ∨ m = 1 ∨ m = 2 := by omega
    rcases this with rfl | rfl | rfl
    · by_cases z : l = 0
      · subst z
        simp only [if_true, ne_eq, not_true_eq_false, decide_false, Bool.and_false, Bool.false_eq_true, if_false, Int.add_zero]
        rw [ediv_eq (x := -P) (k := -q) hc (by omega) (by omega)]
      · have : (if l = 0 then (0 : Int) else if l < c - l then 1 else if l = c - l then 2 else 3) ≠ 0 := by rw [if_neg z]; split <;> (try split) <;> omega
        simp only [this, if_true, ne_eq, not_false_eq_true, decide_true, Bool.and_self]
        rw [ediv_eq (x := -P) (k := -(q + 1)) hc (by omega) (by omega)]
    · simp only [if_true, if_neg (show ¬ (1 : Int) = 0 by omega), Bool.not_true, Bool.false_and, Bool.false_eq_true, if_false, Int.add_zero, Int.neg_neg]
      rw [ediv_eq (x := P) (k := q) hc (by omega) (by omega)]
    · by_cases g : 2 * l ≤ c
      · rw [if_neg (show ¬ (2 : Int) = 0 by omega), if_neg (show ¬ (2 : Int) = 1 by omega), ediv_eq (x := 2 * -P + c) (k := -q) (by omega) (by omega) (by omega)]
        by_cases z : l = 0
        · simp [z]
        · by_cases x : l < c - l
          · simp [z, x]
          · simp only [if_neg z, if_neg x, if_pos (show l = c - l by omega)]; simp
      · rw [if_neg (show ¬ (2 : Int) = 0 by omega), if_neg (show ¬ (2 : Int) = 1 by omega), ediv_eq (x := 2 * -P + c) (k := -(q + 1)) (by omega) (by omega) (by omega)]
        simp only [if_neg (show ¬ l = 0 by omega), if_neg (show ¬ l < c - l by omega), if_neg (show ¬ l = c - l by omega)]; simp

/-- A quotient by a positive divisor in closed form. -/
theorem md_qv (a b c m : Int) (hc : 0 < c) (m0 : 0 ≤ m) (m2 : m ≤ 2) (r1 : -9223372036854775808 ≤ qv m (a * b) c) (r2 : qv m (a * b) c ≤ 9223372036854775807) :
    mdok a b c m = true ∧ mdv a b c m = qv m (a * b) c := by
  have e : Mth.rnd m (ng a b c) (mq a b c) (mr a b c) = qv m (a * b) c := by
    have hn : ng a b c = (decide (a < 0) != decide (b < 0)) := by unfold ng; rw [decide_eq_false (show ¬ c < 0 by omega)]; simp
    have hm : Mth.mag c = c := by unfold Mth.mag; rw [if_neg (by omega)]
    unfold mq mr
    rw [hm, hn]
    exact rnd_qv m (a * b) c _ _ hc m0 m2 (Int.mul_nonneg (Mth.mag_nonneg a) (Mth.mag_nonneg b)) (prod_mag a b)
  obtain ⟨x, y⟩ := rok_true m (ng a b c) (mq a b c) (mr a b c) _ m0 m2 e r1 r2
  unfold mdv mdok
  rw [if_neg (by omega), if_neg (by omega), x, y]
  exact ⟨rfl, rfl⟩

/-- The nearest quotient is near. -/
theorem md_near (a b c : Int) (h : mdok a b c 2 = true) : 2 * (mdv a b c 2 * c - a * b) ≤ Mth.mag c ∧ 2 * (a * b - mdv a b c 2 * c) ≤ Mth.mag c := by
  obtain ⟨hc, e⟩ := md_ok h
  have pc := mag_pos hc
  rw [e]
  have hP : 0 ≤ Mth.mag a * Mth.mag b := Int.mul_nonneg (Mth.mag_nonneg a) (Mth.mag_nonneg b)
  have d := Int.emod_add_mul_ediv (Mth.mag a * Mth.mag b) (Mth.mag c)
  have l0 := Int.emod_nonneg (Mth.mag a * Mth.mag b) (show Mth.mag c ≠ 0 by omega)
  have l1 := Int.emod_lt_of_pos (Mth.mag a * Mth.mag b) pc
  have pm := prod_mag a b
  unfold mq mr ng
  have cs := mag_sign c
  generalize (decide (a < 0) != decide (b < 0)) = s at *
  generalize Mth.mag a * Mth.mag b = P at *
  generalize Mth.mag c = C at *
  generalize P / C = q at *
  generalize P % C = l at *
  rw [Int.mul_comm] at d
  have e1 : (q + 1) * C = q * C + C := by rw [Int.add_mul, Int.one_mul]
  have key : ∃ k : Int, (k = q ∨ k = q + 1) ∧ Mth.rnd 2 (s != decide (c < 0)) q (restQ l C) = (if (s != decide (c < 0)) = true then -k else k) ∧ 2 * (k * C - P) ≤ C ∧ 2 * (P - k * C) ≤ C := by
    unfold Mth.rnd Mth.away restQ
    generalize (s != decide (c < 0)) = n
    by_cases z : l = 0
    · refine ⟨q, .inl rfl, ?_, by omega, by omega⟩
      cases n <;> simp [z]
    · by_cases g : l < C - l
      · refine ⟨q, .inl rfl, ?_, by omega, by omega⟩
        cases n <;> simp [z, g]
      · by_cases x : l = C - l
        · cases n
          · refine ⟨q + 1, .inr rfl, ?_, by omega, by omega⟩
            simp only [if_neg z, if_neg g, if_pos x]; simp
          · refine ⟨q, .inl rfl, ?_, by omega, by omega⟩
            simp only [if_neg z, if_neg g, if_pos x]; simp
        · refine ⟨q + 1, .inr rfl, ?_, by omega, by omega⟩
          simp only [if_neg z, if_neg g, if_neg x]
          cases n <;> simp
  obtain ⟨k, _, ek, u, v⟩ := key
  rw [ek]
  clear ek e h d e1
  have f1 : (-k) * C = -(k * C) := Int.neg_mul k C
  have f2 : k * (-C) = -(k * C) := Int.mul_neg k C
  have f3 : (-k) * (-C) = k * C := Int.neg_mul_neg k C
  rcases cs with ⟨rfl, cc⟩ | ⟨cs, cc⟩
  · rw [decide_eq_false (by omega)]
    rcases pm with ⟨pm, rfl⟩ | ⟨pm, rfl⟩ <;> simp <;> omega
  · have : c = -C := by omega
    subst this
    rw [decide_eq_true (by omega)]
    rcases pm with ⟨pm, rfl⟩ | ⟨pm, rfl⟩ <;> simp <;> omega

/-! ### what the functions of package fixed return -/

/-- Whether a number is valid. -/
def vld (n : Int) : Bool := decide (-1000000000000000 ≤ n ∧ n ≤ 1000000000000000)
theorem vld_t {n : Int} (h1 : -1000000000000000 ≤ n) (h2 : n ≤ 1000000000000000) : vld n = true := decide_eq_true ⟨h1, h2⟩
theorem vld_f {n : Int} (h : n < -1000000000000000 ∨ 1000000000000000 < n) : vld n = false := decide_eq_false (by omega)
theorem vld_bd {n : Int} (h : vld n = true) : -1000000000000000 ≤ n ∧ n ≤ 1000000000000000 := of_decide_eq_true h
theorem vld_nb {n : Int} (h : vld n = false) : n < -1000000000000000 ∨ 1000000000000000 < n := by have := of_decide_eq_false h; omega
theorem vld_cases (n : Int) : vld n = true ∧ -1000000000000000 ≤ n ∧ n ≤ 1000000000000000 ∨ vld n = false ∧ (n < -1000000000000000 ∨ 1000000000000000 < n) := by
  cases h : vld n
  · exact .inr ⟨rfl, vld_nb h⟩
  · exact .inl ⟨rfl, vld_bd h⟩

def both (a b : Int) : Bool := vld a && vld b
def tv (n : Int) (ok : Bool) : Int := if (ok && vld n) = true then n else 0
def te (n : Int) (ok : Bool) : Int := if (ok && vld n) = true then 0 else 3

def addv (a b : Int) : Int := if both a b = true then tv (a + b) true else 0
def adde (a b : Int) : Int := if both a b = true then te (a + b) true else 1
def subv (a b : Int) : Int := if both a b = true then tv (a - b) true else 0
def sube (a b : Int) : Int := if both a b = true then te (a - b) true else 1
def mulv (a b : Int) : Int := if both a b = true then tv (mdv a b 1000000 2) (mdok a b 1000000 2) else 0
def mule (a b : Int) : Int := if both a b = true then te (mdv a b 1000000 2) (mdok a b 1000000 2) else 1
/-- The error of the operands of a division. -/
def dve (a b : Int) : Int := if both a b = true then (if b = 0 then 4 else 0) else 1
def divv (a b : Int) : Int := if dve a b = 0 then tv (mdv a 1000000 b 2) (mdok a 1000000 b 2) else 0
def dive (a b : Int) : Int := if dve a b = 0 then te (mdv a 1000000 b 2) (mdok a 1000000 b 2) else dve a b
def modv (a b : Int) : Int := if dve a b = 0 then a % b else 0
def sqv (a : Int) : Int := if vld a = true then (if a < 0 then 0 else tv (rtv a 1000000 2) (rtok a 1000000 2)) else 0
def sqe (a : Int) : Int := if vld a = true then (if a < 0 then 5 else te (rtv a 1000000 2) (rtok a 1000000 2)) else 1
def arge (a : Int) : Int := if vld a = true then 0 else 1
def roundv (a : Int) : Int := if vld a = true then (a + 500000) / 1000000 * 1000000 else 0
def flv (a : Int) : Int := a / 1000000 * 1000000
def clv (a : Int) : Int := -((-a) / 1000000 * 1000000)
def fixv (a : Int) : Int := if vld a = true then (if a < 0 then clv a else flv a) else 0
def fupv (a : Int) : Int := if vld a = true then (if a < 0 then flv a else clv a) else 0
def whole (a : Int) : Bool := vld a && decide (a % 1000000 = 0)
def wholev (a : Int) : Int := if whole a = true then a / 1000000 else 0
/-- A length in micrometers. -/
def ln (a u : Int) : Int := if u = 20 then (2 * (a * 254) + 10000) / 20000 else (2 * a + 1000) / 2000
def lene (a u : Int) : Int := if vld a = true ∧ (u = 20 ∨ u = 21) then (if -1048576 ≤ ln a u ∧ ln a u ≤ 1048576 then 0 else 3) else 1
def lenv (a u : Int) : Int := if lene a u = 0 then ln a u else 0

/-- The rounded integer of a number. -/
theorem md_int (a m : Int) (m0 : 0 ≤ m) (m2 : m ≤ 2) (h : vld a = true) :
    mdok a 1 1000000 m = true ∧ mdv a 1 1000000 m = qv m a 1000000 ∧ -1000000000 ≤ qv m a 1000000 ∧ qv m a 1000000 ≤ 1000000000 := by
  have b := vld_bd h
  have r : -1000000000 ≤ qv m a 1000000 ∧ qv m a 1000000 ≤ 1000000000 := by
    unfold qv; split
    · omega
    · split <;> omega
  have := md_qv a 1 1000000 m (by omega) m0 m2 (by rw [Int.mul_one]; omega) (by rw [Int.mul_one]; omega)
  rw [Int.mul_one] at this
  exact ⟨this.1, this.2, r⟩

theorem qv_0 (N c : Int) : qv 0 N c = N / c := rfl
theorem qv_1 (N c : Int) : qv 1 N c = -((-N) / c) := rfl
theorem qv_2 (N c : Int) : qv 2 N c = (2 * N + c) / (2 * c) := rfl

/-- The length of a number of units. -/
theorem md_len (a u : Int) (h : vld a = true) : mdok a (if u = 20 then 25400 else 1000) 1000000 2 = true ∧ mdv a (if u = 20 then 25400 else 1000) 1000000 2 = ln a u := by
  have b := vld_bd h
  have e : qv 2 (a * (if u = 20 then 25400 else 1000)) 1000000 = ln a u ∧ -9223372036854775808 ≤ ln a u ∧ ln a u ≤ 9223372036854775807 := by
    rw [qv_2]; unfold ln; split <;> omega
  have := md_qv a (if u = 20 then 25400 else 1000) 1000000 2 (by omega) (by omega) (by omega) (by rw [e.1]; exact e.2.1) (by rw [e.1]; exact e.2.2)
  rw [e.1] at this
  exact this

end Go.Proofs.YtkfipjlknfinpaaDoor

/- The walks of package fixed on numbers: Valid to Length. -/
set_option linter.unusedVariables false
set_option linter.unusedSimpArgs false
namespace Go.Proofs.YtkfipjlknfinpaaDoor
open Go.RowKit

theorem ret_ii {a b c d : Int} (h : a = b) (g : c = d) : Ending.returned (.tuple #[.int .i64 a, .int .i64 c]) = .returned (.tuple #[.int .i64 b, .int .i64 d]) := by rw [h, g]
theorem ret_bl {a b : Bool} (h : a = b) : Ending.returned (.bool a) = .returned (.bool b) := by rw [h]

theorem fxValid (n : Int) (w : World) : Calls Tryd.prog 39 #[.int .i64 n] w fun e w' => e = .returned (.bool (vld n)) ∧ w = w' := by
  by_cases h1 : n < -1000000000000000
  · rw [vld_f (.inl h1)]
    go_enter Tryd.func39, Tryd.ntmps39
    go_wp2
    go_ret
    exact ⟨ret_bl (by first | rfl | (simp; omega)), rfl⟩
  · by_cases h2 : 1000000000000000 < n
    · rw [vld_f (.inr h2)]
      go_enter Tryd.func39, Tryd.ntmps39
      go_wp2
      go_ret
      exact ⟨ret_bl (by first | rfl | (simp; omega)), rfl⟩
    · rw [vld_t (by omega) (by omega)]
      go_enter Tryd.func39, Tryd.ntmps39
      go_wp2
      go_ret
      exact ⟨ret_bl (by first | rfl | (simp; omega)), rfl⟩

theorem fxResult (n : Int) (ok : Bool) (w : World) : Calls Tryd.prog 56 #[.int .i64 n, .bool ok] w fun e w' => e = .returned (.tuple #[.int .i64 (tv n ok), .int .i64 (te n ok)]) ∧ w = w' := by
  cases ok
  · rw [show tv n false = 0 from rfl, show te n false = 3 from rfl]
    go_enter Tryd.func56, Tryd.ntmps56
    go_wp2
    go_ret2
    exact ⟨rfl, rfl⟩
  · cases h : vld n
    · have e1 : tv n true = 0 := by unfold tv; rw [h]; rfl
      have e2 : te n true = 3 := by unfold te; rw [h]; rfl
      rw [e1, e2]
      clear e1 e2
      go_enter Tryd.func56, Tryd.ntmps56
      go_wp2_with (go_at_call 39; refine (fxValid _ _).mono ?_; rintro e w' ⟨rfl, rfl⟩)
      go_ret2
      exact ⟨rfl, rfl⟩
    · have e1 : tv n true = n := by unfold tv; rw [h]; rfl
      have e2 : te n true = 0 := by unfold te; rw [h]; rfl
      rw [e1, e2]
      clear e1 e2
      go_enter Tryd.func56, Tryd.ntmps56
      go_wp2_with (go_at_call 39; refine (fxValid _ _).mono ?_; rintro e w' ⟨rfl, rfl⟩)
      go_ret2
      exact ⟨rfl, rfl⟩

theorem fxAdd (a b : Int) (w : World) : Calls Tryd.prog 59 #[.int .i64 a, .int .i64 b] w fun e w' => e = .returned (.tuple #[.int .i64 (addv a b), .int .i64 (adde a b)]) ∧ w = w' := by
  rcases vld_cases a with ⟨ha, a1, a2⟩ | ⟨ha, _⟩
  · rcases vld_cases b with ⟨hb, b1, b2⟩ | ⟨hb, _⟩
    · have e : both a b = true := by unfold both; rw [ha, hb]; rfl
      rw [show addv a b = tv (a + b) true from if_pos e, show adde a b = te (a + b) true from if_pos e]
      clear e
      go_enter Tryd.func59, Tryd.ntmps59
      go_wp2_with (first | (go_at_call 39; refine (fxValid _ _).mono ?_; rintro e w' ⟨rfl, rfl⟩) | (go_at_call 56; refine (fxResult _ _ _).mono ?_; rintro e w' ⟨rfl, rfl⟩))
      go_ret2
      exact ⟨rfl, rfl⟩
    · have e : both a b = false := by unfold both; rw [ha, hb]; rfl
      rw [show addv a b = 0 from if_neg (by rw [e]; decide), show adde a b = 1 from if_neg (by rw [e]; decide)]
      clear e
      go_enter Tryd.func59, Tryd.ntmps59
      go_wp2_with (go_at_call 39; refine (fxValid _ _).mono ?_; rintro e w' ⟨rfl, rfl⟩)
      go_ret2
      exact ⟨rfl, rfl⟩
  · have e : both a b = false := by unfold both; rw [ha]; rfl
    rw [show addv a b = 0 from if_neg (by rw [e]; decide), show adde a b = 1 from if_neg (by rw [e]; decide)]
    clear e
    go_enter Tryd.func59, Tryd.ntmps59
    go_wp2_with (go_at_call 39; refine (fxValid _ _).mono ?_; rintro e w' ⟨rfl, rfl⟩)
    go_ret2
    exact ⟨rfl, rfl⟩

theorem fxSub (a b : Int) (w : World) : Calls Tryd.prog 60 #[.int .i64 a, .int .i64 b] w fun e w' => e = .returned (.tuple #[.int .i64 (subv a b), .int .i64 (sube a b)]) ∧ w = w' := by
  rcases vld_cases a with ⟨ha, a1, a2⟩ | ⟨ha, _⟩
  · rcases vld_cases b with ⟨hb, b1, b2⟩ | ⟨hb, _⟩
    · have e : both a b = true := by unfold both; rw [ha, hb]; rfl
      rw [show subv a b = tv (a - b) true from if_pos e, show sube a b = te (a - b) true from if_pos e]
      clear e
      go_enter Tryd.func60, Tryd.ntmps60
      go_wp2_with (first | (go_at_call 39; refine (fxValid _ _).mono ?_; rintro e w' ⟨rfl, rfl⟩) | (go_at_call 56; refine (fxResult _ _ _).mono ?_; rintro e w' ⟨rfl, rfl⟩))
      go_ret2
      exact ⟨rfl, rfl⟩
    · have e : both a b = false := by unfold both; rw [ha, hb]; rfl
      rw [show subv a b = 0 from if_neg (by rw [e]; decide), show sube a b = 1 from if_neg (by rw [e]; decide)]
      clear e
      go_enter Tryd.func60, Tryd.ntmps60
      go_wp2_with (go_at_call 39; refine (fxValid _ _).mono ?_; rintro e w' ⟨rfl, rfl⟩)
      go_ret2
      exact ⟨rfl, rfl⟩
  · have e : both a b = false := by unfold both; rw [ha]; rfl
    rw [show subv a b = 0 from if_neg (by rw [e]; decide), show sube a b = 1 from if_neg (by rw [e]; decide)]
    clear e
    go_enter Tryd.func60, Tryd.ntmps60
    go_wp2_with (go_at_call 39; refine (fxValid _ _).mono ?_; rintro e w' ⟨rfl, rfl⟩)
    go_ret2
    exact ⟨rfl, rfl⟩

theorem fxMul (a b : Int) (w : World) : Calls Tryd.prog 61 #[.int .i64 a, .int .i64 b] w fun e w' => e = .returned (.tuple #[.int .i64 (mulv a b), .int .i64 (mule a b)]) ∧ Qw w w' := by
  have q0 := Qw.refl w
  rcases vld_cases a with ⟨ha, a1, a2⟩ | ⟨ha, _⟩
  · rcases vld_cases b with ⟨hb, b1, b2⟩ | ⟨hb, _⟩
    · have e : both a b = true := by unfold both; rw [ha, hb]; rfl
      rw [show mulv a b = tv (mdv a b 1000000 2) (mdok a b 1000000 2) from if_pos e, show mule a b = te (mdv a b 1000000 2) (mdok a b 1000000 2) from if_pos e]
      clear e
      go_enter Tryd.func61, Tryd.ntmps61
      go_wp2_with (first | (go_at_call 39; refine (fxValid _ _).mono ?_; rintro e w' ⟨rfl, rfl⟩) | (go_at_call 77; refine (muldivW _ _ _ _ (by omega) (by omega) (by omega) (by omega) (by omega) (by omega) _).mono ?_; rintro e w' ⟨rfl, h⟩; replace q0 := Qw.trans q0 h; clear h) | (go_at_call 56; refine (fxResult _ _ _).mono ?_; rintro e w' ⟨rfl, rfl⟩))
      go_ret2
      exact ⟨rfl, q0⟩
    · have e : both a b = false := by unfold both; rw [ha, hb]; rfl
      rw [show mulv a b = 0 from if_neg (by rw [e]; decide), show mule a b = 1 from if_neg (by rw [e]; decide)]
      clear e
      go_enter Tryd.func61, Tryd.ntmps61
      go_wp2_with (go_at_call 39; refine (fxValid _ _).mono ?_; rintro e w' ⟨rfl, rfl⟩)
      go_ret2
      exact ⟨rfl, q0⟩
  · have e : both a b = false := by unfold both; rw [ha]; rfl
    rw [show mulv a b = 0 from if_neg (by rw [e]; decide), show mule a b = 1 from if_neg (by rw [e]; decide)]
    clear e
    go_enter Tryd.func61, Tryd.ntmps61
    go_wp2_with (go_at_call 39; refine (fxValid _ _).mono ?_; rintro e w' ⟨rfl, rfl⟩)
    go_ret2
    exact ⟨rfl, q0⟩

theorem fxCheck (a b : Int) (w : World) : Calls Tryd.prog 82 #[.int .i64 a, .int .i64 b] w fun e w' => e = .returned (.int .i64 (dve a b)) ∧ w = w' := by
  rcases vld_cases a with ⟨ha, a1, a2⟩ | ⟨ha, _⟩
  · rcases vld_cases b with ⟨hb, b1, b2⟩ | ⟨hb, _⟩
    · by_cases z : b = 0
      · have e : dve a b = 4 := by unfold dve both; rw [ha, hb]; simp [z]
        rw [e]
        clear e
        subst z
        go_enter Tryd.func82, Tryd.ntmps82
        go_wp2_with (go_at_call 39; refine (fxValid _ _).mono ?_; rintro e w' ⟨rfl, rfl⟩)
        go_ret
        exact ⟨rfl, rfl⟩
      · have e : dve a b = 0 := by unfold dve both; rw [ha, hb]; simp [z]
        rw [e]
        clear e
        have zb : (b == 0) = false := beq_eq_false_iff_ne.2 z
        go_enter Tryd.func82, Tryd.ntmps82
        go_wp2_with (go_at_call 39; refine (fxValid _ _).mono ?_; rintro e w' ⟨rfl, rfl⟩)
        go_ret
        exact ⟨rfl, rfl⟩
    · have e : dve a b = 1 := by unfold dve both; rw [ha, hb]; rfl
      rw [e]
      clear e
      go_enter Tryd.func82, Tryd.ntmps82
      go_wp2_with (go_at_call 39; refine (fxValid _ _).mono ?_; rintro e w' ⟨rfl, rfl⟩)
      go_ret
      exact ⟨rfl, rfl⟩
  · have e : dve a b = 1 := by unfold dve both; rw [ha]; rfl
    rw [e]
    clear e
    go_enter Tryd.func82, Tryd.ntmps82
    go_wp2_with (go_at_call 39; refine (fxValid _ _).mono ?_; rintro e w' ⟨rfl, rfl⟩)
    go_ret
    exact ⟨rfl, rfl⟩

theorem dve_cases (a b : Int) : dve a b = 0 ∧ vld a = true ∧ vld b = true ∧ b ≠ 0 ∨ dve a b = 4 ∧ vld a = true ∧ vld b = true ∧ b = 0 ∨ dve a b = 1 ∧ (vld a = false ∨ vld b = false) := by
  unfold dve both
  cases ha : vld a
  · exact .inr (.inr ⟨rfl, .inl rfl⟩)
  · cases hb : vld b
    · exact .inr (.inr ⟨rfl, .inr rfl⟩)
    · by_cases z : b = 0
      · exact .inr (.inl ⟨by simp [z], rfl, rfl, z⟩)
      · exact .inl ⟨by simp [z], rfl, rfl, z⟩

theorem fxDiv (a b : Int) (w : World) : Calls Tryd.prog 62 #[.int .i64 a, .int .i64 b] w fun e w' => e = .returned (.tuple #[.int .i64 (divv a b), .int .i64 (dive a b)]) ∧ Qw w w' := by
  have q0 := Qw.refl w
  rcases dve_cases a b with ⟨h, ha, hb, z⟩ | ⟨h, hh⟩ | ⟨h, hh⟩
  · have a1 := vld_bd ha
    have b1 := vld_bd hb
    obtain ⟨a1, a2⟩ := a1
    obtain ⟨b1, b2⟩ := b1
    rw [show divv a b = tv (mdv a 1000000 b 2) (mdok a 1000000 b 2) from if_pos h, show dive a b = te (mdv a 1000000 b 2) (mdok a 1000000 b 2) from if_pos h]
    go_enter Tryd.func62, Tryd.ntmps62
    go_wp2_with (first | (go_at_call 82; refine (fxCheck _ _ _).mono ?_; rintro e w' ⟨rfl, rfl⟩) | (go_at_call 77; refine (muldivW _ _ _ _ (by omega) (by omega) (by omega) (by omega) (by omega) (by omega) _).mono ?_; rintro e w' ⟨rfl, h⟩; replace q0 := Qw.trans q0 h; clear h) | (go_at_call 56; refine (fxResult _ _ _).mono ?_; rintro e w' ⟨rfl, rfl⟩))
    go_ret2
    exact ⟨rfl, q0⟩
  · clear hh
    rw [show divv a b = 0 from if_neg (by omega), show dive a b = 4 from (if_neg (by omega)).trans h]
    go_enter Tryd.func62, Tryd.ntmps62
    go_wp2_with (go_at_call 82; refine (fxCheck _ _ _).mono ?_; rintro e w' ⟨rfl, rfl⟩)
    go_ret2
    exact ⟨rfl, q0⟩
  · clear hh
    rw [show divv a b = 0 from if_neg (by omega), show dive a b = 1 from (if_neg (by omega)).trans h]
    go_enter Tryd.func62, Tryd.ntmps62
    go_wp2_with (go_at_call 82; refine (fxCheck _ _ _).mono ?_; rintro e w' ⟨rfl, rfl⟩)
    go_ret2
    exact ⟨rfl, q0⟩

theorem fxMod (a b : Int) (w : World) : Calls Tryd.prog 63 #[.int .i64 a, .int .i64 b] w fun e w' => e = .returned (.tuple #[.int .i64 (modv a b), .int .i64 (dve a b)]) ∧ w = w' := by
  rcases dve_cases a b with ⟨h, ha, hb, z⟩ | ⟨h, hh⟩ | ⟨h, hh⟩
  · obtain ⟨a1, a2⟩ := vld_bd ha
    obtain ⟨b1, b2⟩ := vld_bd hb
    rw [show modv a b = a % b from if_pos h, h]
    by_cases cb : b < 0
    · have mx : max b (-b) = -b := by omega
      have nz : (-b == 0) = false := beq_eq_false_iff_ne.2 (by omega)
      have t := tmod_of a (-b) (by omega)
      rw [Int.emod_neg, Int.tmod_neg] at t
      obtain ⟨t0, t1, t2, t3, t4⟩ := t
      have u0 : b < a.tmod b := by have := Int.lt_tmod_of_pos a (b := -b) (by omega); rw [Int.tmod_neg] at this; omega
      have u1 : a.tmod b < -b := by omega
      have T := Lib.hid (And.intro t2 (And.intro t3 t4))
      clear t2 t3 t4
      go_enter Tryd.func63, Tryd.ntmps63
      go_wp2_with (go_at_call 82; refine (fxCheck _ _ _).mono ?_; rintro e w' ⟨rfl, rfl⟩)
      all_goals
        go_ret2
        refine ⟨ret_ii ?_ rfl, rfl⟩
        have t := T.out
        omega
    · have mx : max b (-b) = b := by omega
      have nz : (b == 0) = false := beq_eq_false_iff_ne.2 (by omega)
      obtain ⟨t0, t1, t2, t3, t4⟩ := tmod_of a b (by omega)
      have u0 : -b < a.tmod b := Int.lt_tmod_of_pos a (by omega)
      have u1 : a.tmod b < b := by omega
      have T := Lib.hid (And.intro t2 (And.intro t3 t4))
      clear t2 t3 t4
      go_enter Tryd.func63, Tryd.ntmps63
      go_wp2_with (go_at_call 82; refine (fxCheck _ _ _).mono ?_; rintro e w' ⟨rfl, rfl⟩)
      all_goals
        go_ret2
        refine ⟨ret_ii ?_ rfl, rfl⟩
        have t := T.out
        omega
  · clear hh
    rw [show modv a b = 0 from if_neg (by omega), h]
    go_enter Tryd.func63, Tryd.ntmps63
    go_wp2_with (go_at_call 82; refine (fxCheck _ _ _).mono ?_; rintro e w' ⟨rfl, rfl⟩)
    go_ret2
    exact ⟨rfl, rfl⟩
  · clear hh
    rw [show modv a b = 0 from if_neg (by omega), h]
    go_enter Tryd.func63, Tryd.ntmps63
    go_wp2_with (go_at_call 82; refine (fxCheck _ _ _).mono ?_; rintro e w' ⟨rfl, rfl⟩)
    go_ret2
    exact ⟨rfl, rfl⟩

theorem fxSqrt (a : Int) (w : World) : Calls Tryd.prog 47 #[.int .i64 a] w fun e w' => e = .returned (.tuple #[.int .i64 (sqv a), .int .i64 (sqe a)]) ∧ Qw w w' := by
  have q0 := Qw.refl w
  cases h : vld a
  · rw [show sqv a = 0 from if_neg (by rw [h]; decide), show sqe a = 1 from if_neg (by rw [h]; decide)]
    go_enter Tryd.func47, Tryd.ntmps47
    go_wp2_with (go_at_call 39; refine (fxValid _ _).mono ?_; rintro e w' ⟨rfl, rfl⟩)
    go_ret2
    exact ⟨rfl, q0⟩
  · obtain ⟨a1, a2⟩ := vld_bd h
    by_cases c : a < 0
    · rw [show sqv a = 0 from (if_pos h).trans (if_pos c), show sqe a = 5 from (if_pos h).trans (if_pos c)]
      go_enter Tryd.func47, Tryd.ntmps47
      go_wp2_with (go_at_call 39; refine (fxValid _ _).mono ?_; rintro e w' ⟨rfl, rfl⟩)
      go_ret2
      exact ⟨rfl, q0⟩
    · rw [show sqv a = tv (rtv a 1000000 2) (rtok a 1000000 2) from (if_pos h).trans (if_neg c), show sqe a = te (rtv a 1000000 2) (rtok a 1000000 2) from (if_pos h).trans (if_neg c)]
      go_enter Tryd.func47, Tryd.ntmps47
      go_wp2_with (first | (go_at_call 39; refine (fxValid _ _).mono ?_; rintro e w' ⟨rfl, rfl⟩) | (go_at_call 57; refine (rootW _ _ _ (by omega) (by omega) (by omega) (by omega) _).mono ?_; rintro e w' ⟨rfl, h⟩; replace q0 := Qw.trans q0 h; clear h) | (go_at_call 56; refine (fxResult _ _ _).mono ?_; rintro e w' ⟨rfl, rfl⟩))
      go_ret2
      exact ⟨rfl, q0⟩

/-- The rounded number. -/
def intv (m a : Int) : Int := if vld a = true then qv m a 1000000 * 1000000 else 0

theorem fxInteger (a m : Int) (m0 : 0 ≤ m) (m2 : m ≤ 2) (w : World) : Calls Tryd.prog 58 #[.int .i64 a, .int .i64 m] w fun e w' => e = .returned (.tuple #[.int .i64 (intv m a), .int .i64 (arge a)]) ∧ Qw w w' := by
  have q0 := Qw.refl w
  cases h : vld a
  · rw [show arge a = 1 from if_neg (by rw [h]; decide), show intv m a = 0 from if_neg (by rw [h]; decide)]
    go_enter Tryd.func58, Tryd.ntmps58
    go_wp2_with (go_at_call 39; refine (fxValid _ _).mono ?_; rintro e w' ⟨rfl, rfl⟩)
    go_ret2
    exact ⟨rfl, q0⟩
  · obtain ⟨a1, a2⟩ := vld_bd h
    obtain ⟨k, v, r1, r2⟩ := md_int a m m0 m2 h
    have c1 := fun w => muldivW a 1 1000000 m (by omega) (by omega) (by omega) (by omega) (by omega) (by omega) w
    rw [k, v] at c1
    have C1 := Lib.hid c1
    clear k v c1
    rw [show arge a = 0 from if_pos h, show intv m a = qv m a 1000000 * 1000000 from if_pos h]
    generalize qv m a 1000000 = x at *
    have t1 : tv (x * 1000000) true = x * 1000000 := by unfold tv; rw [vld_t (by omega) (by omega)]; rfl
    have t2 : te (x * 1000000) true = 0 := by unfold te; rw [vld_t (by omega) (by omega)]; rfl
    have c2 := fun w => fxResult (x * 1000000) true w
    rw [t1, t2] at c2
    have C2 := Lib.hid c2
    clear t1 t2 c2
    go_enter Tryd.func58, Tryd.ntmps58
    go_wp2_with (first | (go_at_call 39; refine (fxValid _ _).mono ?_; rintro e w' ⟨rfl, rfl⟩) | (go_at_call 77; refine (C1.out _).mono ?_; rintro e w' ⟨rfl, h⟩; replace q0 := Qw.trans q0 h; clear h) | (go_at_call 56; refine (C2.out _).mono ?_; rintro e w' ⟨rfl, rfl⟩))
    go_ret2
    exact ⟨rfl, q0⟩

theorem fxRound (a : Int) (w : World) : Calls Tryd.prog 48 #[.int .i64 a] w fun e w' => e = .returned (.tuple #[.int .i64 (roundv a), .int .i64 (arge a)]) ∧ Qw w w' := by
  have q0 := Qw.refl w
  have e : roundv a = intv 2 a := by unfold roundv intv; rw [qv_2]; split <;> omega
  rw [e]
  clear e
  go_enter Tryd.func48, Tryd.ntmps48
  go_wp2_with (go_at_call 58; refine (fxInteger _ _ (by omega) (by omega) _).mono ?_; rintro e w' ⟨rfl, h⟩; replace q0 := Qw.trans q0 h; clear h)
  go_ret2
  exact ⟨rfl, q0⟩

theorem fxFix (a : Int) (w : World) : Calls Tryd.prog 49 #[.int .i64 a] w fun e w' => e = .returned (.tuple #[.int .i64 (fixv a), .int .i64 (arge a)]) ∧ Qw w w' := by
  have q0 := Qw.refl w
  by_cases c : a < 0
  · have e : fixv a = intv 1 a := by unfold fixv intv; rw [qv_1, if_pos c]; first | rfl | (unfold clv; split <;> omega)
    rw [e]
    clear e
    go_enter Tryd.func49, Tryd.ntmps49
    go_wp2_with (go_at_call 58; refine (fxInteger _ _ (by omega) (by omega) _).mono ?_; rintro e w' ⟨rfl, h⟩; replace q0 := Qw.trans q0 h; clear h)
    go_ret2
    exact ⟨rfl, q0⟩
  · have e : fixv a = intv 0 a := by unfold fixv intv; rw [qv_0, if_neg c]; first | rfl | (unfold clv; split <;> omega)
    rw [e]
    clear e
    go_enter Tryd.func49, Tryd.ntmps49
    go_wp2_with (go_at_call 58; refine (fxInteger _ _ (by omega) (by omega) _).mono ?_; rintro e w' ⟨rfl, h⟩; replace q0 := Qw.trans q0 h; clear h)
    go_ret2
    exact ⟨rfl, q0⟩

theorem fxFup (a : Int) (w : World) : Calls Tryd.prog 50 #[.int .i64 a] w fun e w' => e = .returned (.tuple #[.int .i64 (fupv a), .int .i64 (arge a)]) ∧ Qw w w' := by
  have q0 := Qw.refl w
  by_cases c : a < 0
  · have e : fupv a = intv 0 a := by unfold fupv intv; rw [qv_0, if_pos c]; first | rfl | (unfold clv; split <;> omega)
    rw [e]
    clear e
    go_enter Tryd.func50, Tryd.ntmps50
    go_wp2_with (go_at_call 58; refine (fxInteger _ _ (by omega) (by omega) _).mono ?_; rintro e w' ⟨rfl, h⟩; replace q0 := Qw.trans q0 h; clear h)
    go_ret2
    exact ⟨rfl, q0⟩
  · have e : fupv a = intv 1 a := by unfold fupv intv; rw [qv_1, if_neg c]; first | rfl | (unfold clv; split <;> omega)
    rw [e]
    clear e
    go_enter Tryd.func50, Tryd.ntmps50
    go_wp2_with (go_at_call 58; refine (fxInteger _ _ (by omega) (by omega) _).mono ?_; rintro e w' ⟨rfl, h⟩; replace q0 := Qw.trans q0 h; clear h)
    go_ret2
    exact ⟨rfl, q0⟩

theorem fxWhole (a : Int) (w : World) : Calls Tryd.prog 52 #[.int .i64 a] w fun e w' => e = .returned (.tuple #[.int .i64 (wholev a), .bool (whole a)]) ∧ w = w' := by
  cases h : vld a
  · have e : whole a = false := by unfold whole; rw [h]; rfl
    rw [show wholev a = 0 from if_neg (by rw [e]; decide), e]
    clear e
    go_enter Tryd.func52, Tryd.ntmps52
    go_wp2_with (go_at_call 39; refine (fxValid _ _).mono ?_; rintro e w' ⟨rfl, rfl⟩)
    go_ret2
    exact ⟨rfl, rfl⟩
  · obtain ⟨a1, a2⟩ := vld_bd h
    have t := tmod_of a 1000000 (by omega)
    by_cases c : a % 1000000 = 0
    · have e : whole a = true := by unfold whole; rw [h, decide_eq_true c]; rfl
      have d : a.tdiv 1000000 = a / 1000000 := by
        obtain ⟨k, hk⟩ : ∃ k, a = 1000000 * k := ⟨a / 1000000, by omega⟩
        rw [hk, Int.mul_tdiv_cancel_left _ (by decide), Int.mul_ediv_cancel_left _ (by decide)]
      rw [show wholev a = a / 1000000 from if_pos e, e]
      have z : a.tmod 1000000 = 0 := Int.tmod_eq_zero_of_dvd (Int.dvd_of_emod_eq_zero c)
      clear e t
      by_cases s : 0 ≤ a
      · clear z d
        go_enter Tryd.func52, Tryd.ntmps52
        go_wp2_with (go_at_call 39; refine (fxValid _ _).mono ?_; rintro e w' ⟨rfl, rfl⟩)
        go_ret2
        exact ⟨rfl, rfl⟩
      · clear c
        have D := Lib.hid d
        clear d
        go_enter Tryd.func52, Tryd.ntmps52
        go_wp2_with (go_at_call 39; refine (fxValid _ _).mono ?_; rintro e w' ⟨rfl, rfl⟩)
        go_ret2
        exact ⟨ret_ib (by have := D.out; omega) rfl, rfl⟩
    · have e : whole a = false := by unfold whole; rw [h, decide_eq_false c]; rfl
      rw [show wholev a = 0 from if_neg (by rw [e]; decide), e]
      have z : (a.tmod 1000000 == 0) = false := beq_eq_false_iff_ne.2 (by omega)
      have z' : (a % 1000000 == 0) = false := beq_eq_false_iff_ne.2 c
      clear e t
      by_cases s : 0 ≤ a
      · clear z
        go_enter Tryd.func52, Tryd.ntmps52
        go_wp2_with (go_at_call 39; refine (fxValid _ _).mono ?_; rintro e w' ⟨rfl, rfl⟩)
        go_ret2
        exact ⟨rfl, rfl⟩
      · clear z'
        go_enter Tryd.func52, Tryd.ntmps52
        go_wp2_with (go_at_call 39; refine (fxValid _ _).mono ?_; rintro e w' ⟨rfl, rfl⟩)
        go_ret2
        exact ⟨rfl, rfl⟩

/-- Whether there is such a unit. -/
def unit (u : Int) : Bool := decide (u = 20 ∨ u = 21)
end Go.Proofs.YtkfipjlknfinpaaDoor

/- Plain facts on the texts of numbers: digits, what Parse accepts, what Format writes. -/
set_option linter.unusedVariables false
set_option linter.unusedSimpArgs false
namespace Go.Proofs.YtkfipjlknfinpaaDoor

/-! ### digits -/

theorem getD_of (l : List UInt8) (i : Nat) (h : i < l.length) : l.getD i 0 = l[i] := by rw [List.getD_eq_getElem?_getD, List.getElem?_eq_getElem h]; rfl
theorem pow10_nat (k : Nat) : (10 : Int) ^ k = ((10 ^ k : Nat) : Int) := by rw [Int.natCast_pow]; rfl
theorem pow10_le {a b : Nat} (h : a ≤ b) : (10 : Int) ^ a ≤ 10 ^ b := by
  have := Nat.pow_le_pow_right (show 0 < 10 by decide) h
  rw [pow10_nat, pow10_nat]; exact Int.ofNat_le.2 this

def isd (c : UInt8) : Bool := decide (48 ≤ (c.toNat : Int) ∧ (c.toNat : Int) ≤ 57)
theorem isd_t {c : UInt8} (h : isd c = true) : 48 ≤ (c.toNat : Int) ∧ (c.toNat : Int) ≤ 57 := of_decide_eq_true h
theorem isd_f {c : UInt8} (h : isd c = false) : (c.toNat : Int) < 48 ∨ 57 < (c.toNat : Int) := by have := of_decide_eq_false h; omega

/-- The number that digits write behind n. -/
def vl (n : Int) : List UInt8 → Int
  | [] => n
  | c :: l => vl (n * 10 + ((c.toNat : Int) - 48)) l

theorem vl_append (l k : List UInt8) : ∀ n, vl n (l ++ k) = vl (vl n l) k := by
  induction l with
  | nil => intro n; rfl
  | cons c l ih => intro n; exact ih _

theorem vl_snoc (n : Int) (l : List UInt8) (c : UInt8) : vl n (l ++ [c]) = vl n l * 10 + ((c.toNat : Int) - 48) := by rw [vl_append]; rfl

theorem vl_bd (l : List UInt8) : ∀ n : Int, 0 ≤ n → (∀ c ∈ l, isd c = true) → n ≤ vl n l ∧ vl n l < (n + 1) * 10 ^ l.length := by
  induction l with
  | nil => intro n h _; simp [vl]; omega
  | cons c l ih =>
    intro n h hd
    have d := isd_t (hd c (List.mem_cons_self ..))
    obtain ⟨x, y⟩ := ih (n * 10 + ((c.toNat : Int) - 48)) (by omega) (fun c hc => hd c (List.mem_cons_of_mem _ hc))
    refine ⟨by show n ≤ vl _ l; omega, ?_⟩
    show vl _ l < _
    refine Int.lt_of_lt_of_le y ?_
    rw [List.length_cons, Int.pow_succ, Int.mul_comm ((10 : Int) ^ l.length) 10, ← Int.mul_assoc]
    exact Int.mul_le_mul_of_nonneg_right (by omega) (Int.le_of_lt (Int.pow_pos (by decide)))

theorem vl_shift (l : List UInt8) : ∀ n : Int, vl n l = n * 10 ^ l.length + vl 0 l := by
  induction l with
  | nil => intro n; simp [vl]
  | cons c l ih =>
    intro n
    show vl _ l = _ + vl _ l
    rw [ih (n * 10 + _), ih (0 * 10 + _), List.length_cons, Int.pow_succ, Int.add_mul, Int.zero_mul, Int.zero_add, Int.mul_assoc, Int.mul_comm (10 : Int), Int.add_assoc]

/-- How many digits stand at the beginning, at most k. -/
def rk : List UInt8 → Nat → Nat
  | [], _ => 0
  | _ :: _, 0 => 0
  | c :: l, k + 1 => if isd c = true then rk l k + 1 else 0

theorem rk_le : ∀ (l : List UInt8) (k : Nat), rk l k ≤ k ∧ rk l k ≤ l.length
  | [], k => by simp [rk]
  | c :: l, 0 => by simp [rk]
  | c :: l, k + 1 => by
    have := rk_le l k
    unfold rk
    split <;> simp <;> omega

theorem rk_uniq : ∀ (l : List UInt8) (k j : Nat), j ≤ k → j ≤ l.length → (∀ i, i < j → isd (l.getD i 0) = true) → (j = k ∨ j = l.length ∨ isd (l.getD j 0) = false) → rk l k = j
  | [], k, j, _, h2, _, _ => by simp at h2; simp [rk, h2]
  | c :: l, 0, j, h1, _, _, _ => by simp [rk]; omega
  | c :: l, k + 1, 0, _, _, _, h4 => by
    unfold rk
    have : isd c = false := by
      rcases h4 with h | h | h
      · omega
      · simp at h
      · simpa using h
    rw [if_neg (by rw [this]; decide)]
  | c :: l, k + 1, j + 1, h1, h2, h3, h4 => by
    unfold rk
    rw [if_pos (by simpa using h3 0 (by omega)), rk_uniq l k j (by omega) (by simpa using h2) (fun i hi => by simpa using h3 (i + 1) (by omega)) (by
      rcases h4 with h | h | h
      · exact .inl (by omega)
      · exact .inr (.inl (by simpa using h))
      · exact .inr (.inr (by simpa using h)))]

theorem rk_dig : ∀ (l : List UInt8) (k i : Nat), i < rk l k → isd (l.getD i 0) = true
  | [], k, i, h => by simp [rk] at h
  | c :: l, 0, i, h => by simp [rk] at h
  | c :: l, k + 1, i, h => by
    unfold rk at h
    split at h
    · rename_i hc
      cases i with
      | zero => simpa using hc
      | succ i => simpa using rk_dig l k i (by omega)
    · omega

theorem all_take (l : List UInt8) (j : Nat) (hj : j ≤ l.length) (h : ∀ i, i < j → isd (l.getD i 0) = true) : ∀ c ∈ l.take j, isd c = true := by
  intro c hc
  obtain ⟨i, hi, rfl⟩ := List.getElem_of_mem hc
  have hi' : i < j := by simp at hi; omega
  have := h i hi'
  rw [getD_of _ _ (by omega)] at this
  rw [List.getElem_take]; exact this

/-! ### what Parse returns -/

/-- The digits before the point; whether there is a point; the digits behind it; where the text should end. -/
def pw (l : List UInt8) : Nat := rk l 9
def pdot (l : List UInt8) : Bool := decide (pw l < l.length) && (l.getD (pw l) 0 == 46)
def pf (l : List UInt8) : Nat := if pdot l = true then rk (l.drop (pw l + 1)) 6 else 0
def pend (l : List UInt8) : Nat := if pdot l = true then pw l + 1 + pf l else pw l
def pok (l : List UInt8) : Bool := decide (pend l = l.length) && decide (pw l + pf l ≠ 0)
def pnum (l : List UInt8) : Int := vl (vl 0 (l.take (pw l))) ((l.drop (pw l + 1)).take (pf l)) * 10 ^ (6 - pf l)
def prv (l : List UInt8) : Int := if pok l = true then pnum l else 0
def pre (l : List UInt8) : Int := if pok l = true then 0 else 2

theorem pf_le (l : List UInt8) : pf l ≤ 6 := by unfold pf; split; exact (rk_le _ _).1; omega
theorem pw_le (l : List UInt8) : pw l ≤ 9 ∧ pw l ≤ l.length := rk_le l 9
theorem pf_none {l : List UInt8} (h : pdot l = false) : pf l = 0 ∧ pend l = pw l := by unfold pend pf; rw [h]; exact ⟨rfl, rfl⟩

/-- The digits before the point. -/
theorem whole_bd (l : List UInt8) : 0 ≤ vl 0 (l.take (pw l)) ∧ vl 0 (l.take (pw l)) ≤ 999999999 := by
  have b := pw_le l
  obtain ⟨x, y⟩ := vl_bd (l.take (pw l)) 0 (by omega) (all_take l _ b.2 (rk_dig l 9))
  refine ⟨x, ?_⟩
  have : (10 : Int) ^ (l.take (pw l)).length ≤ 10 ^ 9 := pow10_le (by rw [List.length_take]; omega)
  have e : (10 : Int) ^ 9 = 1000000000 := by decide
  omega

/-! ### the form of an accepted text -/

/-- Digits, at most so many. -/
def Dgs (D : List UInt8) (k : Nat) : Prop := D.length ≤ k ∧ ∀ c ∈ D, isd c = true

theorem Dgs.at {D : List UInt8} {k : Nat} (h : Dgs D k) {i : Nat} (hi : i < D.length) : isd (D.getD i 0) = true := by
  rw [getD_of _ _ hi]; exact h.2 _ (List.getElem_mem hi)

theorem getD_left (a b : List UInt8) (i : Nat) (h : i < a.length) : (a ++ b).getD i 0 = a.getD i 0 := by
  rw [List.getD_eq_getElem?_getD, List.getD_eq_getElem?_getD, List.getElem?_append_left h]
theorem getD_mid (a b : List UInt8) (c : UInt8) : (a ++ c :: b).getD a.length 0 = c := by
  rw [List.getD_eq_getElem?_getD, List.getElem?_append_right (Nat.le_refl _)]; simp

theorem parse_plain {D : List UInt8} (h : Dgs D 9) : pw D = D.length ∧ pf D = 0 ∧ pend D = D.length := by
  have e : pw D = D.length := rk_uniq D 9 _ h.1 (Nat.le_refl _) (fun i hi => h.at hi) (.inr (.inl rfl))
  have d : pdot D = false := by unfold pdot; rw [e]; simp
  obtain ⟨x, y⟩ := pf_none d
  exact ⟨e, x, by omega⟩

theorem parse_point {D F : List UInt8} (h : Dgs D 9) (g : Dgs F 6) : pw (D ++ 46 :: F) = D.length ∧ pf (D ++ 46 :: F) = F.length ∧ pend (D ++ 46 :: F) = (D ++ 46 :: F).length := by
  have e : pw (D ++ 46 :: F) = D.length := rk_uniq _ 9 _ h.1 (by simp) (fun i hi => by rw [getD_left _ _ _ hi]; exact h.at hi) (.inr (.inr (by rw [getD_mid]; decide)))
  have d : pdot (D ++ 46 :: F) = true := by unfold pdot; rw [e, getD_mid]; simp
  have dr : (D ++ 46 :: F).drop (D.length + 1) = F := by rw [show D ++ 46 :: F = (D ++ [46]) ++ F by simp]; rw [List.drop_left' (by simp)]
  have f : pf (D ++ 46 :: F) = F.length := by
    unfold pf; rw [if_pos d, e, dr]
    exact rk_uniq F 6 _ g.1 (Nat.le_refl _) (fun i hi => g.at hi) (.inr (.inl rfl))
  refine ⟨e, f, ?_⟩
  unfold pend; rw [if_pos d, e, f]; simp; omega

theorem pnum_plain {D : List UInt8} (h : Dgs D 9) : pnum D = vl 0 D * 1000000 := by
  obtain ⟨e, f, _⟩ := parse_plain h
  unfold pnum; rw [e, f]; simp [vl]

theorem pnum_point {D F : List UInt8} (h : Dgs D 9) (g : Dgs F 6) : pnum (D ++ 46 :: F) = vl (vl 0 D) F * 10 ^ (6 - F.length) := by
  obtain ⟨e, f, _⟩ := parse_point h g
  have dr : (D ++ 46 :: F).drop (D.length + 1) = F := by rw [show D ++ 46 :: F = (D ++ [46]) ++ F by simp]; rw [List.drop_left' (by simp)]
  unfold pnum; rw [e, f, dr, List.take_left' rfl, List.take_of_length_le (Nat.le_refl _)]

/-- A text that is accepted is of the form. -/
theorem pok_form {l : List UInt8} (h : pok l = true) : (Dgs l 9 ∧ l ≠ []) ∨ ∃ D F, l = D ++ 46 :: F ∧ Dgs D 9 ∧ Dgs F 6 ∧ D.length + F.length ≠ 0 := by
  unfold pok at h
  simp only [Bool.and_eq_true, decide_eq_true_eq] at h
  obtain ⟨h1, h2⟩ := h
  have b := pw_le l
  cases d : pdot l
  · obtain ⟨x, y⟩ := pf_none d
    refine .inl ⟨⟨by omega, ?_⟩, by rintro rfl; simp [pw, rk] at h2; omega⟩
    have := all_take l (pw l) b.2 (rk_dig l 9)
    rwa [List.take_of_length_le (by omega)] at this
  · have d' := d
    unfold pdot at d'
    simp only [Bool.and_eq_true, decide_eq_true_eq, beq_iff_eq] at d'
    obtain ⟨d1, d2⟩ := d'
    have e1 : pf l = rk (l.drop (pw l + 1)) 6 := by unfold pf; rw [if_pos d]
    have e2 : pend l = pw l + 1 + pf l := by unfold pend; rw [if_pos d]
    have sp : l = l.take (pw l) ++ 46 :: l.drop (pw l + 1) := by
      rw [← d2, getD_of _ _ d1, ← List.drop_eq_getElem_cons d1, List.take_append_drop]
    have lf : (l.drop (pw l + 1)).length = pf l := by rw [List.length_drop]; omega
    refine .inr ⟨l.take (pw l), l.drop (pw l + 1), sp, ⟨by rw [List.length_take]; omega, all_take l _ b.2 (rk_dig l 9)⟩, ⟨by rw [lf]; exact pf_le l, ?_⟩, by rw [lf, List.length_take]; omega⟩
    have := all_take (l.drop (pw l + 1)) (pf l) (by omega) (fun i hi => rk_dig _ 6 i (by omega))
    rwa [List.take_of_length_le (by omega)] at this

theorem pok_plain {D : List UInt8} (h : Dgs D 9) (h0 : D ≠ []) : pok D = true := by
  obtain ⟨e, f, g⟩ := parse_plain h
  have : D.length ≠ 0 := by intro x; exact h0 (List.eq_nil_of_length_eq_zero x)
  unfold pok; rw [e, f, g]; simp [h0]

theorem pok_point {D F : List UInt8} (h : Dgs D 9) (g : Dgs F 6) (h0 : D.length + F.length ≠ 0) : pok (D ++ 46 :: F) = true := by
  obtain ⟨e, f, k⟩ := parse_point h g
  unfold pok; rw [e, f, k, decide_eq_true rfl, decide_eq_true h0]; rfl

end Go.Proofs.YtkfipjlknfinpaaDoor

/- The walks of fixed.digits and fixed.Parse. -/
set_option linter.unusedVariables false
set_option linter.unusedSimpArgs false
namespace Go.Proofs.YtkfipjlknfinpaaDoor
open Go.RowKit

/-- The digits that are read. -/
def rdl (l : List UInt8) (a c : Int) : Nat := rk (l.drop a.toNat) c.toNat
def rdv (n : Int) (l : List UInt8) (a c : Int) : Int := vl n ((l.drop a.toNat).take (rdl l a c))

/-- After j digits: they are digits, and n is what they write. -/
def DigK (n0 : Int) (l : List UInt8) (A C j : Nat) (v : Int) : Prop :=
  j ≤ C ∧ A + j ≤ l.length ∧ (∀ i, i < j → isd ((l.drop A).getD i 0) = true) ∧ v = vl n0 ((l.drop A).take j)

theorem DigK.bd {n0 : Int} {l : List UInt8} {A C j : Nat} {v : Int} (h : DigK n0 l A C j v) (h0 : 0 ≤ n0) (h1 : n0 ≤ 999999999) (hj : j ≤ 8) : 0 ≤ v ∧ v ≤ 100000000000000000 := by
  obtain ⟨k1, k2, k3, rfl⟩ := h
  obtain ⟨x, y⟩ := vl_bd ((l.drop A).take j) n0 h0 (all_take _ _ (by rw [List.length_drop]; omega) k3)
  refine ⟨by omega, ?_⟩
  have p := pow10_le (show ((l.drop A).take j).length ≤ 8 by rw [List.length_take]; omega)
  have e : (10 : Int) ^ 8 = 100000000 := by decide
  have m : (n0 + 1) * 10 ^ ((l.drop A).take j).length ≤ 1000000000 * 100000000 := Int.mul_le_mul (by omega) (by omega) (Int.le_of_lt (Int.pow_pos (by decide))) (by decide)
  omega

theorem DigK.succ {n0 : Int} {l : List UInt8} {A C j : Nat} {v : Int} (h : DigK n0 l A C j v) (hc : j < C) (hl : A + j < l.length) (hd : isd l[A + j] = true) :
    DigK n0 l A C (j + 1) (v * 10 + ((l[A + j].toNat : Int) - 48)) := by
  obtain ⟨k1, k2, k3, rfl⟩ := h
  have g : (l.drop A).getD j 0 = l[A + j] := by rw [getD_of _ _ (by rw [List.length_drop]; omega), List.getElem_drop]
  refine ⟨hc, hl, ?_, ?_⟩
  · intro i hi
    by_cases e : i = j
    · subst e; rw [g]; exact hd
    · exact k3 i (by omega)
  · rw [List.take_succ_eq_append_getElem (by rw [List.length_drop]; omega), vl_snoc, List.getElem_drop]

theorem DigK.done {n0 : Int} {l : List UInt8} {A C j : Nat} {v : Int} (h : DigK n0 l A C j v) (e : j = C ∨ A + j = l.length ∨ ∃ h : A + j < l.length, isd l[A + j] = false) :
    rk (l.drop A) C = j ∧ v = vl n0 ((l.drop A).take (rk (l.drop A) C)) := by
  obtain ⟨k1, k2, k3, rfl⟩ := h
  have r : rk (l.drop A) C = j := rk_uniq _ _ _ k1 (by rw [List.length_drop]; omega) k3 (by
    rcases e with e | e | ⟨e, f⟩
    · exact .inl e
    · exact .inr (.inl (by rw [List.length_drop]; omega))
    · exact .inr (.inr (by rw [getD_of _ _ (by rw [List.length_drop]; omega), List.getElem_drop]; exact f)))
  exact ⟨r, by rw [r]⟩

end Go.Proofs.YtkfipjlknfinpaaDoor

/- The walk of fixed.Parse. -/
set_option linter.unusedVariables false
set_option linter.unusedSimpArgs false
namespace Go.Proofs.YtkfipjlknfinpaaDoor
open Go.RowKit

theorem scaled (v : Int) (f j : Nat) (h0 : 0 ≤ v) (h1 : v < 1000000000 * 10 ^ f) (hj : j + f < 6) : 0 ≤ v * 10 ^ j ∧ v * 10 ^ j ≤ 100000000000000 := by
  have p : (0 : Int) < 10 ^ j := Int.pow_pos (by decide)
  refine ⟨Int.mul_nonneg h0 (Int.le_of_lt p), ?_⟩
  have m : v * 10 ^ j ≤ 1000000000 * 10 ^ f * 10 ^ j := Int.mul_le_mul_of_nonneg_right (by omega) (Int.le_of_lt p)
  rw [Int.mul_assoc, ← Int.pow_add] at m
  have q := pow10_le (show f + j ≤ 5 by omega)
  have e : (10 : Int) ^ 5 = 100000 := by decide
  omega

/-- The value of the digits on both sides. -/
theorem both_bd (l : List UInt8) (h : pdot l = true) (hl : pw l < l.length) : 0 ≤ vl (vl 0 (l.take (pw l))) ((l.drop (pw l + 1)).take (pf l)) ∧ vl (vl 0 (l.take (pw l))) ((l.drop (pw l + 1)).take (pf l)) < 1000000000 * 10 ^ pf l := by
  obtain ⟨b0, b1⟩ := whole_bd l
  have e : pf l = rk (l.drop (pw l + 1)) 6 := if_pos h
  have le := (rk_le (l.drop (pw l + 1)) 6).2
  rw [← e] at le
  obtain ⟨x, y⟩ := vl_bd ((l.drop (pw l + 1)).take (pf l)) _ b0 (all_take _ _ le (fun i hi => rk_dig _ 6 i (by omega)))
  rw [List.length_take, Nat.min_eq_left le] at y
  refine ⟨by omega, Int.lt_of_lt_of_le y (Int.mul_le_mul_of_nonneg_right (by omega) (Int.le_of_lt (Int.pow_pos (by decide))))⟩

theorem pr_ok {l : List UInt8} (h : pend l = l.length) (h2 : pw l + pf l ≠ 0) : prv l = pnum l ∧ pre l = 0 := by
  have : pok l = true := by unfold pok; rw [decide_eq_true h, decide_eq_true h2]; rfl
  exact ⟨if_pos this, if_pos this⟩
theorem pr_no {l : List UInt8} (h : pend l ≠ l.length ∨ pw l + pf l = 0) : prv l = 0 ∧ pre l = 2 := by
  have : pok l = false := by
    unfold pok
    rcases h with h | h
    · rw [decide_eq_false h]; rfl
    · rw [decide_eq_false (show ¬ pw l + pf l ≠ 0 by omega), Bool.and_false]
  unfold prv pre
  rw [this]; exact ⟨rfl, rfl⟩

end Go.Proofs.YtkfipjlknfinpaaDoor
