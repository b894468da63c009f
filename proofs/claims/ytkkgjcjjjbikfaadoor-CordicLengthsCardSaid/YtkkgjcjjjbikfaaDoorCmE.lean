
/- Plain: sine and cosine as the algorithm computes them are those of a turn by their angle, up to 80 units of 2^-30. -/
import Derived.Test.YtkkgjcjjjbikfaaDoorCmD
set_option linter.unusedVariables false
set_option linter.unusedSimpArgs false
namespace Go.Proofs.YtkkgjcjjjbikfaaDoor.Cm

/-! ### the steps -/

/-- The point and the angle that is left, after i steps. -/
def rs (r : Int) : Nat → Int × Int × Int
  | 0 => (652032874, 0, r * 1000)
  | i + 1 => if 0 ≤ (rs r i).2.2 then (lx i (rs r i).1 (rs r i).2.1, ly i (rs r i).1 (rs r i).2.1, (rs r i).2.2 - T i)
    else (rx i (rs r i).1 (rs r i).2.1, ry i (rs r i).1 (rs r i).2.1, (rs r i).2.2 + T i)

theorem rs_succ (r : Int) (i : Nat) : rs r (i + 1) = if 0 ≤ (rs r i).2.2 then (lx i (rs r i).1 (rs r i).2.1, ly i (rs r i).1 (rs r i).2.1, (rs r i).2.2 - T i)
    else (rx i (rs r i).1 (rs r i).2.1, ry i (rs r i).1 (rs r i).2.1, (rs r i).2.2 + T i) := rfl

/-- What may be left of the angle. -/
def zb : Nat → Int
  | 0 => 45000000000
  | i + 1 => max (T i) (zb i - T i)
theorem zb_end : zb 26 = 1708 := by decide +kernel
theorem zb_le : (List.range 27).all (fun i => decide (0 ≤ zb i) && decide (zb i ≤ 45000000000)) = true := by decide +kernel
theorem zb_bd (i : Nat) (hi : i ≤ 26) : 0 ≤ zb i ∧ zb i ≤ 45000000000 := by
  have := List.all_eq_true.1 zb_le i (List.mem_range.2 (by omega))
  simpa only [Bool.and_eq_true, decide_eq_true_eq] using this

theorem rs_z (r : Int) (h1 : -45000000 ≤ r) (h2 : r ≤ 45000000) : ∀ i : Nat, i ≤ 26 → -zb i ≤ (rs r i).2.2 ∧ (rs r i).2.2 ≤ zb i := by
  intro i
  induction i with
  | zero => intro _; simp only [rs, zb]; omega
  | succ i ih =>
    intro hi
    have k := ih (by omega)
    have t := bd_T i (by omega)
    rw [rs, zb]
    by_cases c : 0 ≤ (rs r i).2.2
    · rw [if_pos c]; dsimp only; omega
    · rw [if_neg c]; dsimp only; omega

theorem rs_inv {S : Int} {C Z : Int → Int} (t : Turn S C Z) (r : Int) (h1 : -45000000 ≤ r) (h2 : r ≤ 45000000) : ∀ i : Nat, i ≤ 26 →
    Inv S C Z 652032874 0 652032874 i (rs r i).1 (rs r i).2.1 (r * 1000 - (rs r i).2.2) := by
  have hM : nm 652032874 0 652032874 := ⟨by decide, by decide⟩
  intro i
  induction i with
  | zero =>
    intro _
    have := inv_zero t 652032874 0 652032874 (by decide)
    simp only [rs]
    rwa [Int.sub_self]
  | succ i ih =>
    intro hi
    have k := ih (by omega)
    have z := rs_z r h1 h2 i (by omega)
    have zz := zb_bd i (by omega)
    rw [rs]
    by_cases c : 0 ≤ (rs r i).2.2
    · rw [if_pos c]
      have := inv_left t hM (by omega) k (by omega) (by omega)
      dsimp only
      rwa [show r * 1000 - (rs r i).2.2 + T i = r * 1000 - ((rs r i).2.2 - T i) by omega] at this
    · rw [if_neg c]
      have := inv_right t hM (by omega) k (by omega) (by omega)
      dsimp only
      rwa [show r * 1000 - (rs r i).2.2 - T i = r * 1000 - ((rs r i).2.2 + T i) by omega] at this

/-- From the invariant to bounds: the point stays within the stretched length. -/
theorem inv_len {S : Int} {C Z : Int → Int} (t : Turn S C Z) {x0 y0 M : Int} (hM : nm x0 y0 M) {i : Nat} (hi : i ≤ 26) {x y n : Int} (h : Inv S C Z x0 y0 M i x y n)
    (h1 : -10000000000000 ≤ n) (h2 : n ≤ 10000000000000) : nm (1099511627776 * x) (1099511627776 * y) (H i * M + (A i * M + B i)) := by
  have hH : 0 ≤ H i := by
    by_cases c : i < 26
    · exact H_nonneg i c
    · obtain rfl : i = 26 := by omega
      decide
  have k1 := nm_scale hH (nm_mul hM (nm_unit t.rot n (by omega) (by omega)))
  have k2 := nm_add h k1
  refine nm_cancel t.rot.pos (nm_congr k2 ?_ ?_ ?_)
  · rw [Int.sub_add_cancel]; simp only [Int.mul_assoc, Int.mul_comm, Int.mul_left_comm]
  · rw [Int.sub_add_cancel]; simp only [Int.mul_assoc, Int.mul_comm, Int.mul_left_comm]
  · simp only [Int.mul_add, Int.add_mul, Int.mul_assoc, Int.mul_comm, Int.mul_left_comm]; omega

def okL (i : Nat) : Bool := decide (H i ≤ 1810632051965) && decide (A i ≤ 476) && decide (B i ≤ 47008012629411)
theorem okL_all : (List.range 27).all okL = true := by decide +kernel
theorem len_bd {S : Int} {C Z : Int → Int} (t : Turn S C Z) {x0 y0 M : Int} (hM : nm x0 y0 M) {i : Nat} (hi : i ≤ 26) {x y n : Int} (h : Inv S C Z x0 y0 M i x y n)
    (h1 : -10000000000000 ≤ n) (h2 : n ≤ 10000000000000) (hb : M ≤ 1729382256910270464) : -4000000000000000000 ≤ x ∧ x ≤ 4000000000000000000 ∧ -4000000000000000000 ≤ y ∧ y ≤ 4000000000000000000 := by
  have k := inv_len t hM hi h h1 h2
  have l := List.all_eq_true.1 okL_all i (List.mem_range.2 (by omega))
  simp only [okL, Bool.and_eq_true, decide_eq_true_eq] at l
  have m1 := Int.mul_le_mul_of_nonneg_right l.1.1 hM.1
  have m2 := Int.mul_le_mul_of_nonneg_right l.1.2 hM.1
  have a := nm_re k
  have b := nm_im k
  omega

/-! ### near a turn -/

theorem turn_step {S : Int} {C Z : Int → Int} (t : Turn S C Z) (n : Int) (h1 : -10000000000000 ≤ n) (h2 : n ≤ 10000000000000) :
    nm (18446744073709551616 * (C (n + 1) - C n)) (18446744073709551616 * (Z (n + 1) - Z n)) (321956421 * S) := by
  have k := nm_mul (nm_unit t.rot n (by omega) (by omega)) t.step
  have a := t.rot.addC n 1 (by omega) (by omega) (by omega) (by omega) (by omega) (by omega)
  have b := t.rot.addZ n 1 (by omega) (by omega) (by omega) (by omega) (by omega) (by omega)
  have p := t.rot.pos
  generalize C (n + 1) = c' at *
  generalize Z (n + 1) = z' at *
  generalize C n = c at *
  generalize Z n = z at *
  generalize C 1 = c1 at *
  generalize Z 1 = z1 at *
  refine nm_cancel p (nm_congr k ?_ ?_ ?_)
  · rw [show S * (18446744073709551616 * (c' - c)) = 18446744073709551616 * (S * (c' - c)) from Int.mul_left_comm _ _ _, Int.mul_left_comm c, Int.mul_left_comm z]
    simp only [Int.mul_sub, Int.mul_add]
    rw [Int.mul_comm S c]
    omega
  · rw [show S * (18446744073709551616 * (z' - z)) = 18446744073709551616 * (S * (z' - z)) from Int.mul_left_comm _ _ _, Int.mul_left_comm c, Int.mul_left_comm z]
    simp only [Int.mul_sub, Int.mul_add]
    rw [Int.mul_comm S z]
    omega
  · simp only [Int.mul_assoc, Int.mul_comm, Int.mul_left_comm]

theorem turn_steps {S : Int} {C Z : Int → Int} (t : Turn S C Z) (n : Int) (h1 : -10000000000000 ≤ n) (h2 : n ≤ 9999999990000) : ∀ k : Nat, k ≤ 10000 →
    nm (18446744073709551616 * (C (n + k) - C n)) (18446744073709551616 * (Z (n + k) - Z n)) (k * 321956421 * S) := by
  intro k
  induction k with
  | zero => intro _; exact nm_congr nm_zero (by simp) (by simp) (by simp)
  | succ k ih =>
    intro hk
    have a := nm_add (ih (by omega)) (turn_step t (n + k) (by omega) (by omega))
    rw [show n + (k : Int) + 1 = n + ((k + 1 : Nat) : Int) by omega] at a
    refine nm_congr a (by omega) (by omega) ?_
    have e : ((k + 1 : Nat) : Int) * 321956421 = k * 321956421 + 321956421 := by omega
    rw [e, Int.add_mul]

theorem turn_near {S : Int} {C Z : Int → Int} (t : Turn S C Z) (n m b : Int) (h1 : -10000000000 * 900 ≤ n) (h2 : n ≤ 10000000000 * 900) (hb : b ≤ 10000) (hm1 : n - m ≤ b) (hm2 : m - n ≤ b) :
    nm (18446744073709551616 * (C n - C m)) (18446744073709551616 * (Z n - Z m)) (b * 321956421 * S) := by
  have p := Int.le_of_lt t.rot.pos
  by_cases c : m ≤ n
  · obtain ⟨k, hk⟩ := Int.eq_ofNat_of_zero_le (show 0 ≤ n - m by omega)
    have a := turn_steps t m (by omega) (by omega) k (by omega)
    rw [show m + (k : Int) = n by omega] at a
    exact nm_mono a (Int.mul_le_mul_of_nonneg_right (by omega) p)
  · obtain ⟨k, hk⟩ := Int.eq_ofNat_of_zero_le (show 0 ≤ m - n by omega)
    have a := turn_steps t n (by omega) (by omega) k (by omega)
    rw [show n + (k : Int) = m by omega] at a
    refine nm_mono (nm_congr (nm_neg a) (by omega) (by omega) rfl) (Int.mul_le_mul_of_nonneg_right (by omega) p)

theorem turn_quarter {S : Int} {C Z : Int → Int} (t : Turn S C Z) (n : Int) (h1 : -10000000000000 ≤ n) (h2 : n ≤ 10000000000000) :
    nm (18446744073709551616 * (C (n + 90000000000) + Z n)) (18446744073709551616 * (Z (n + 90000000000) - C n)) (16 * S) := by
  have k := nm_mul (nm_unit t.rot n (by omega) (by omega)) t.quarter
  have a := t.rot.addC n 90000000000 (by omega) (by omega) (by omega) (by omega) (by omega) (by omega)
  have b := t.rot.addZ n 90000000000 (by omega) (by omega) (by omega) (by omega) (by omega) (by omega)
  have p := t.rot.pos
  generalize C (n + 90000000000) = c' at *
  generalize Z (n + 90000000000) = z' at *
  generalize C n = c at *
  generalize Z n = z at *
  generalize C 90000000000 = c1 at *
  generalize Z 90000000000 = z1 at *
  refine nm_cancel p (nm_congr k ?_ ?_ ?_)
  · rw [show S * (18446744073709551616 * (c' + z)) = 18446744073709551616 * (S * (c' + z)) from Int.mul_left_comm _ _ _, Int.mul_left_comm c, Int.mul_left_comm z]
    simp only [Int.mul_sub, Int.mul_add]
    rw [Int.mul_comm S z]
    omega
  · rw [show S * (18446744073709551616 * (z' - c)) = 18446744073709551616 * (S * (z' - c)) from Int.mul_left_comm _ _ _, Int.mul_left_comm c, Int.mul_left_comm z]
    simp only [Int.mul_sub, Int.mul_add]
    rw [Int.mul_comm S c]
    omega
  · simp only [Int.mul_assoc, Int.mul_comm, Int.mul_left_comm]

/-- The point (x, y) is (2^30, 0), turned by n, up to e units of 2^-34. -/
def Pr (S : Int) (C Z : Int → Int) (x y n e : Int) : Prop := nm (17179869184 * (S * x) - 18446744073709551616 * C n) (17179869184 * (S * y) - 18446744073709551616 * Z n) (S * e)

theorem pr_quarter {S : Int} {C Z : Int → Int} (t : Turn S C Z) {x y n e : Int} (h : Pr S C Z x y n e) (h1 : -10000000000000 ≤ n) (h2 : n ≤ 10000000000000) : Pr S C Z (-y) x (n + 90000000000) (e + 16) := by
  have k := nm_sub (nm_quarter h) (turn_quarter t n h1 h2)
  refine nm_congr k ?_ ?_ ?_
  · rw [Int.mul_neg]; omega
  · omega
  · rw [Int.mul_add]; omega

theorem pr_back {S : Int} {C Z : Int → Int} (t : Turn S C Z) {x y n e : Int} (h : Pr S C Z x y n e) (h1 : -9000000000000 ≤ n) (h2 : n ≤ 10000000000000) : Pr S C Z y (-x) (n - 90000000000) (e + 16) := by
  have q := turn_quarter t (n - 90000000000) (by omega) (by omega)
  rw [show n - 90000000000 + 90000000000 = n by omega] at q
  have k := nm_neg (nm_quarter (nm_add h q))
  refine nm_congr k ?_ ?_ ?_
  · omega
  · rw [Int.mul_neg]; omega
  · rw [Int.mul_add]; omega

/-- Quarter turns. -/
def qt : Nat → Int × Int → Int × Int
  | 0, p => p
  | k + 1, p => (-(qt k p).2, (qt k p).1)

theorem pr_qt {S : Int} {C Z : Int → Int} (t : Turn S C Z) {p : Int × Int} {n e : Int} (h : Pr S C Z p.1 p.2 n e) (h1 : -9000000000000 ≤ n) (h2 : n ≤ 9000000000000) : ∀ k : Nat, k ≤ 10 → Pr S C Z (qt k p).1 (qt k p).2 (n + 90000000000 * k) (e + 16 * k) := by
  intro k
  induction k with
  | zero => intro _; exact nm_congr h (by simp [qt]) (by simp [qt]) (by simp)
  | succ k ih =>
    intro hk
    have a := pr_quarter t (ih (by omega)) (by omega) (by omega)
    rw [show n + 90000000000 * (k : Int) + 90000000000 = n + 90000000000 * ((k + 1 : Nat) : Int) by omega, show e + 16 * (k : Int) + 16 = e + 16 * ((k + 1 : Nat) : Int) by omega] at a
    exact a

theorem pr_full {S : Int} {C Z : Int → Int} (t : Turn S C Z) {x y n e : Int} (h : Pr S C Z x y n e) (h1 : -8000000000000 ≤ n) (h2 : n ≤ 8000000000000) : Pr S C Z x y (n + 360000000000) (e + 64) := by
  have a := pr_quarter t (pr_quarter t (pr_quarter t (pr_quarter t h (by omega) (by omega)) (by omega) (by omega)) (by omega) (by omega)) (by omega) (by omega)
  rwa [Int.neg_neg, Int.neg_neg, show n + 90000000000 + 90000000000 + 90000000000 + 90000000000 = n + 360000000000 by omega, show e + 16 + 16 + 16 + 16 = e + 64 by omega] at a

theorem pr_unfull {S : Int} {C Z : Int → Int} (t : Turn S C Z) {x y n e : Int} (h : Pr S C Z x y n e) (h1 : -8000000000000 ≤ n) (h2 : n ≤ 8000000000000) : Pr S C Z x y (n - 360000000000) (e + 64) := by
  have a := pr_back t (pr_back t (pr_back t (pr_back t h (by omega) (by omega)) (by omega) (by omega)) (by omega) (by omega)) (by omega) (by omega)
  rwa [Int.neg_neg, Int.neg_neg, show n - 90000000000 - 90000000000 - 90000000000 - 90000000000 = n - 360000000000 by omega, show e + 16 + 16 + 16 + 16 = e + 64 by omega] at a

/-! ### sine and cosine -/

/-- The point before the quarter turns. -/
def bs (rest : Int) : Int × Int := if rest = 0 then (1073741824, 0) else ((rs rest 26).1, (rs rest 26).2.1)
/-- The quarter turns of an angle, and what is left of it. -/
def kk (a : Int) : Int := (a % 360000000 + 45000000) / 90000000
def rest (a : Int) : Int := a % 360000000 - kk a * 90000000
/-- Cosine and sine. -/
def sc (a : Int) : Int × Int := qt (kk a).toNat (bs (rest a))

theorem kk_bd (a : Int) : 0 ≤ kk a ∧ kk a ≤ 4 ∧ -45000000 ≤ rest a ∧ rest a < 45000000 ∧ rest a + kk a * 90000000 = a % 360000000 := by
  unfold rest kk
  omega

theorem bs_pr {S : Int} {C Z : Int → Int} (t : Turn S C Z) (r : Int) (h1 : -45000000 ≤ r) (h2 : r ≤ 45000000) : Pr S C Z (bs r).1 (bs r).2 (r * 1000) 1300000000000 := by
  have p := t.rot.pos
  unfold bs
  by_cases c : r = 0
  · subst c
    rw [if_pos rfl]
    unfold Pr
    rw [Int.zero_mul, t.rot.zeroC, t.rot.zeroZ]
    refine nm_mono (nm_congr nm_zero ?_ ?_ rfl) (Int.mul_nonneg (Int.le_of_lt p) (by decide))
    · dsimp only; omega
    · simp
  · rw [if_neg c]
    have h := rs_inv t r h1 h2 26 (by decide)
    have z := rs_z r h1 h2 26 (by decide)
    rw [zb_end] at z
    generalize (rs r 26).2.2 = zz at *
    generalize (rs r 26).1 = x at *
    generalize (rs r 26).2.1 = y at *
    have u := nm_unit t.rot (r * 1000 - zz) (by omega) (by omega)
    have nr := turn_near t (r * 1000 - zz) (r * 1000) 1708 (by omega) (by omega) (by omega) (by omega) (by omega)
    unfold Inv at h
    unfold Pr
    rw [show H 26 = 1810632051964 from rfl, show A 26 = 476 from rfl, show B 26 = 47008012629411 from rfl] at h
    generalize C (r * 1000 - zz) = c1 at *
    generalize Z (r * 1000 - zz) = z1 at *
    generalize C (r * 1000) = c2 at *
    generalize Z (r * 1000) = z2 at *
    have g := nm_add (nm_sub (nm_scale (show (0 : Int) ≤ 17179869184 by decide) h) (nm_scale (show (0 : Int) ≤ 17179869184 by decide) (nm_scale (show (0 : Int) ≤ 118807038888 by decide) u))) (nm_scale (show (0 : Int) ≤ 1099511627776 by decide) nr)
    refine nm_cancel (k := 1099511627776) (by decide) (nm_mono (nm_congr g ?_ ?_ rfl) ?_)
    · rw [Int.mul_assoc]; generalize S * x = X; omega
    · rw [Int.mul_assoc]; generalize S * y = Y; omega
    · omega

theorem sc_pr0 {S : Int} {C Z : Int → Int} (t : Turn S C Z) (a : Int) : Pr S C Z (sc a).1 (sc a).2 ((a % 360000000) * 1000) 1300000000064 := by
  obtain ⟨k0, k1, r0, r1, e⟩ := kk_bd a
  have b := bs_pr t (rest a) r0 (by omega)
  have q := pr_qt t b (by omega) (by omega) (kk a).toNat (by omega)
  unfold Pr at q ⊢
  rw [show (sc a) = qt (kk a).toNat (bs (rest a)) from rfl]
  rw [show rest a * 1000 + 90000000000 * ((kk a).toNat : Int) = a % 360000000 * 1000 by omega] at q
  exact nm_mono q (Int.mul_le_mul_of_nonneg_left (by omega) (Int.le_of_lt t.rot.pos))

theorem sc_pr {S : Int} {C Z : Int → Int} (t : Turn S C Z) (a : Int) (h1 : -360000000 ≤ a) (h2 : a < 720000000) : Pr S C Z (sc a).1 (sc a).2 (a * 1000) 1300000000128 := by
  have p := Int.le_of_lt t.rot.pos
  have h := sc_pr0 t a
  by_cases c : a < 0
  · have := pr_unfull t h (by omega) (by omega)
    rwa [show a % 360000000 * 1000 - 360000000000 = a * 1000 by omega] at this
  · by_cases d : a < 360000000
    · rw [show a % 360000000 = a by omega] at h
      exact nm_mono h (Int.mul_le_mul_of_nonneg_left (by omega) p)
    · have := pr_full t h (by omega) (by omega)
      rwa [show a % 360000000 * 1000 + 360000000000 = a * 1000 by omega] at this

theorem rs_bd (r : Int) (h1 : -45000000 ≤ r) (h2 : r ≤ 45000000) (i : Nat) (hi : i ≤ 26) :
    -4000000000000000000 ≤ (rs r i).1 ∧ (rs r i).1 ≤ 4000000000000000000 ∧ -4000000000000000000 ≤ (rs r i).2.1 ∧ (rs r i).2.1 ≤ 4000000000000000000 ∧ -45000000000 ≤ (rs r i).2.2 ∧ (rs r i).2.2 ≤ 45000000000 := by
  obtain ⟨S, C, Z, t⟩ := exists_turn
  have z := rs_z r h1 h2 i hi
  have b := zb_bd i hi
  have k := len_bd t (show nm 652032874 0 652032874 from ⟨by decide, by decide⟩) hi (rs_inv t r h1 h2 i hi) (by omega) (by omega) (by decide)
  omega

/-- Cosines and sines are at most 2^30 + 76. -/
theorem sc_bd (a : Int) : nm (sc a).1 (sc a).2 1073741900 := by
  obtain ⟨S, C, Z, t⟩ := exists_turn
  have h := sc_pr0 t a
  have u := nm_scale (show (0 : Int) ≤ 18446744073709551616 by decide) (nm_unit t.rot (a % 360000000 * 1000) (by omega) (by omega))
  unfold Pr at h
  have k := nm_add h u
  have p := t.rot.pos
  refine nm_cancel (k := 17179869184 * S) (by omega) (nm_mono (nm_congr k ?_ ?_ rfl) ?_)
  · rw [Int.mul_assoc]; omega
  · rw [Int.mul_assoc]; omega
  · omega

end Go.Proofs.YtkkgjcjjjbikfaaDoor.Cm
