import Derived.Test.YtciglhecjkeogaaGreatDoorZTX8
set_option linter.unusedVariables false
set_option linter.unusedSimpArgs false
namespace Go.Proofs.YtciglhecjkeogaaGreatDoor.Cm
theorem step_plain (S p h h' x y x' y' x0 y0 u1 u2 t1 t2 c z M E E' r1 r2 : Int) (hS : 0 < S) (hp : 0 < p) (hh : 0 ≤ h) (hM : nm x0 y0 M) (hu : nm u1 u2 S)
    (et1 : S * t1 = u1 * c - u2 * z) (et2 : S * t2 = u1 * z + u2 * c)
    (hd : nm (p * h * S - p * h' * c) (h * S - p * h' * z) (p * 16 * S))
    (ha : nm (1099511627776 * S * x - h * (x0 * u1 - y0 * u2)) (1099511627776 * S * y - h * (x0 * u2 + y0 * u1)) (S * E))
    (ex : p * x' = p * x - y + r1) (ey : p * y' = p * y + x + r2) (b1 : -p ≤ r1) (b2 : r1 ≤ p) (b3 : -p ≤ r2) (b4 : r2 ≤ p)
    (hE : (p + 1) * E + 1649267441664 * p + p * 16 * M ≤ p * E') :
    nm (1099511627776 * S * x' - h' * (x0 * t1 - y0 * t2)) (1099511627776 * S * y' - h' * (x0 * t2 + y0 * t1)) (S * E') := by
  have hS' : 0 ≤ S := Int.le_of_lt hS
  have hp' : 0 ≤ p := Int.le_of_lt hp
  -- the table
  have k1 : nm (p * h * u1 - h * u2 - p * h' * t1) (h * u1 + p * h * u2 - p * h' * t2) (p * 16 * S) := by
    refine nm_cancel hS (nm_congr (nm_mul hu hd) ?_ ?_ rfl)
    · have e : p * h' * (S * t1) = p * h' * (u1 * c - u2 * z) := by rw [et1]
      clear ha ex ey et1 et2 hd hE
      simp only [Int.mul_add, Int.add_mul, Int.sub_mul, Int.mul_sub, Int.mul_assoc, Int.mul_comm, Int.mul_left_comm] at e ⊢
      omega
    · have e : p * h' * (S * t2) = p * h' * (u1 * z + u2 * c) := by rw [et2]
      clear ha ex ey et1 et2 hd hE
      simp only [Int.mul_add, Int.add_mul, Int.sub_mul, Int.mul_sub, Int.mul_assoc, Int.mul_comm, Int.mul_left_comm] at e ⊢
      omega
  have k2 := nm_mul hM k1
  clear k1 hd hu et1 et2
  -- the point before
  have k3 : nm p 1 (p + 1) := ⟨by omega, by simp only [Int.mul_add, Int.add_mul]; omega⟩
  have k4 := nm_mul k3 ha
  clear k3 ha
  -- the floors
  have k5 : nm (2 * r1) (2 * r2) (3 * p) := nm_box (p := 2 * p) (by omega) (by omega) (by omega) (by omega) (by omega) (by
    have := sq_nonneg p
    have e1 : 2 * p * (2 * p) = 4 * (p * p) := by rw [show 2 * p = p + p by omega]; simp only [Int.mul_add, Int.add_mul]; omega
    have e2 : 3 * p * (3 * p) = 9 * (p * p) := by rw [show 3 * p = p + p + p by omega]; simp only [Int.mul_add, Int.add_mul]; omega
    omega)
  have k6 := nm_scale hS' (nm_scale (show (0 : Int) ≤ 549755813888 by decide) k5)
  clear k5
  have k7 := nm_add (nm_add k4 k2) k6
  clear k4 k2 k6
  refine nm_cancel hp (nm_mono (nm_congr k7 ?_ ?_ rfl) ?_)
  · have e : S * (p * x') = S * (p * x - y + r1) := by rw [ex]
    clear k7 ex ey hE hM
    rw [show S * (549755813888 * (2 * r1)) = S * (1099511627776 * r1) by rw [show (549755813888 : Int) * (2 * r1) = 1099511627776 * r1 by omega]]
    generalize hk : (1099511627776 : Int) = k
    have e' : k * (S * (p * x')) = k * (S * (p * x - y + r1)) := by rw [e]
    clear e hk
    simp only [Int.one_mul, Int.mul_one, Int.mul_add, Int.add_mul, Int.sub_mul, Int.mul_sub, Int.mul_assoc, Int.mul_comm, Int.mul_left_comm] at e' ⊢
    omega
  · have e : S * (p * y') = S * (p * y + x + r2) := by rw [ey]
    clear k7 ex ey hE hM
    rw [show S * (549755813888 * (2 * r2)) = S * (1099511627776 * r2) by rw [show (549755813888 : Int) * (2 * r2) = 1099511627776 * r2 by omega]]
    generalize hk : (1099511627776 : Int) = k
    have e' : k * (S * (p * y')) = k * (S * (p * y + x + r2)) := by rw [e]
    clear e hk
    simp only [Int.one_mul, Int.mul_one, Int.mul_add, Int.add_mul, Int.sub_mul, Int.mul_sub, Int.mul_assoc, Int.mul_comm, Int.mul_left_comm] at e' ⊢
    omega
  · have e := Int.mul_le_mul_of_nonneg_left hE hS'
    clear k7 ex ey hE hM
    rw [show (549755813888 : Int) * (3 * p) = 1649267441664 * p by omega]
    generalize (1649267441664 : Int) = k at *
    generalize (16 : Int) = k' at *
    simp only [Int.one_mul, Int.mul_one, Int.mul_add, Int.add_mul, Int.sub_mul, Int.mul_sub, Int.mul_assoc, Int.mul_comm, Int.mul_left_comm] at e ⊢
    omega
def tabA : List Int := [0, 16, 40, 66, 91, 113, 133, 152, 170, 187, 204, 221, 238, 255, 272, 289, 306, 323, 340, 357, 374, 391, 408, 425, 442, 459, 476]
def tabB : List Int := [0, 1649267441664, 4123168604160, 6803228196864, 9302899163136, 11533597802496, 13543290175488, 15404171526144, 17173784057856, 18890136593496, 20576298833195, 22245660316689, 23905789897180, 25560893713331, 27213281381279, 28864209789825, 30514358097267, 32164091151085, 33813603985291, 35463000415618, 37112335497588, 38761638332334, 40410924256988, 42060201333368, 43709473788999, 45358743835951, 47008012629411]
def A (i : Nat) : Int := tabA.getD i 0
def B (i : Nat) : Int := tabB.getD i 0
def okE (i : Nat) : Bool := decide (((2 : Int) ^ i + 1) * A i + 2 ^ i * 16 ≤ 2 ^ i * A (i + 1)) && decide (((2 : Int) ^ i + 1) * B i + 1649267441664 * 2 ^ i ≤ 2 ^ i * B (i + 1)) && decide (0 ≤ H i)
theorem okE_all : (List.range 26).all okE = true := by decide +kernel
def lx (i : Nat) (x y : Int) : Int := x - y / 2 ^ i
def ly (i : Nat) (x y : Int) : Int := y + x / 2 ^ i
def rx (i : Nat) (x y : Int) : Int := x + y / 2 ^ i
def ry (i : Nat) (x y : Int) : Int := y - x / 2 ^ i
def Inv (S : Int) (C Z : Int → Int) (x0 y0 M : Int) (i : Nat) (x y n : Int) : Prop :=
  nm (1099511627776 * S * x - H i * (x0 * C n - y0 * Z n)) (1099511627776 * S * y - H i * (x0 * Z n + y0 * C n)) (S * (A i * M + B i))
theorem inv_zero {S : Int} {C Z : Int → Int} (t : Turn S C Z) (x0 y0 M : Int) (hM : 0 ≤ M) : Inv S C Z x0 y0 M 0 x0 y0 0 := by
  unfold Inv
  rw [t.rot.zeroC, t.rot.zeroZ, show H 0 = 1099511627776 from rfl, show A 0 = 0 from rfl, show B 0 = 0 from rfl]
  refine nm_congr nm_zero ?_ ?_ ?_
  · rw [Int.mul_zero, Int.sub_zero, Int.mul_comm x0 S, Int.mul_assoc]; omega
  · rw [Int.mul_zero, Int.zero_add, Int.mul_comm y0 S, Int.mul_assoc]; omega
  · simp
theorem err_step (i : Nat) (hi : i < 26) (M : Int) (hM : 0 ≤ M) : ((2 : Int) ^ i + 1) * (A i * M + B i) + 1649267441664 * 2 ^ i + 2 ^ i * 16 * M ≤ 2 ^ i * (A (i + 1) * M + B (i + 1)) := by
  have k := List.all_eq_true.1 okE_all i (List.mem_range.2 hi)
  simp only [okE, Bool.and_eq_true, decide_eq_true_eq] at k
  have m := Int.mul_le_mul_of_nonneg_right k.1.1 hM
  have e1 : ((2 : Int) ^ i + 1) * (A i * M + B i) = ((2 : Int) ^ i + 1) * A i * M + ((2 : Int) ^ i + 1) * B i := by rw [Int.mul_add, Int.mul_assoc]
  have e2 : (2 : Int) ^ i * (A (i + 1) * M + B (i + 1)) = 2 ^ i * A (i + 1) * M + 2 ^ i * B (i + 1) := by rw [Int.mul_add, Int.mul_assoc]
  rw [Int.add_mul] at m
  rw [e1, e2]
  omega
theorem H_nonneg (i : Nat) (hi : i < 26) : 0 ≤ H i := by
  have k := List.all_eq_true.1 okE_all i (List.mem_range.2 hi)
  simp only [okE, Bool.and_eq_true, decide_eq_true_eq] at k
  exact k.2
theorem inv_left {S : Int} {C Z : Int → Int} (t : Turn S C Z) {x0 y0 M : Int} (hM : nm x0 y0 M) {i : Nat} (hi : i < 26) {x y n : Int} (h : Inv S C Z x0 y0 M i x y n)
    (h1 : -10000000000000 ≤ n) (h2 : n ≤ 10000000000000) : Inv S C Z x0 y0 M (i + 1) (lx i x y) (ly i x y) (n + T i) := by
  have hT := bd_T i hi
  have hp : (0 : Int) < 2 ^ i := Int.pow_pos (by decide)
  have d1 := Int.emod_add_mul_ediv y (2 ^ i)
  have d2 := Int.emod_add_mul_ediv x (2 ^ i)
  have a1 := Int.emod_nonneg y (show (2 : Int) ^ i ≠ 0 by omega)
  have a2 := Int.emod_lt_of_pos y hp
  have a3 := Int.emod_nonneg x (show (2 : Int) ^ i ≠ 0 by omega)
  have a4 := Int.emod_lt_of_pos x hp
  refine step_plain S (2 ^ i) (H i) (H (i + 1)) x y _ _ x0 y0 (C n) (Z n) (C (n + T i)) (Z (n + T i)) (C (T i)) (Z (T i)) M (A i * M + B i) _ (y % 2 ^ i) (-(x % 2 ^ i)) t.rot.pos hp (H_nonneg i hi) hM
    (nm_unit t.rot n (by omega) (by omega)) (t.rot.addC n (T i) (by omega) (by omega) (by omega) (by omega) (by omega) (by omega)) (t.rot.addZ n (T i) (by omega) (by omega) (by omega) (by omega) (by omega) (by omega)) (t.at_ i hi) h
    ?_ ?_ (by omega) (by omega) (by omega) (by omega) (err_step i hi M hM.1)
  · rw [lx, Int.mul_sub]; omega
  · rw [ly, Int.mul_add]; omega
theorem inv_conj {S : Int} {C Z : Int → Int} (t : Turn S C Z) {x0 y0 M : Int} {i : Nat} {x y n : Int} (h : Inv S C Z x0 y0 M i x y n) : Inv S C Z x0 (-y0) M i x (-y) (-n) := by
  unfold Inv at h ⊢
  rw [t.rot.negC, t.rot.negZ]
  refine nm_congr (nm_conj h) ?_ ?_ rfl
  · rw [Int.neg_mul_neg]
  · simp only [Int.mul_neg, Int.neg_mul, Int.mul_add]; omega
theorem inv_right {S : Int} {C Z : Int → Int} (t : Turn S C Z) {x0 y0 M : Int} (hM : nm x0 y0 M) {i : Nat} (hi : i < 26) {x y n : Int} (h : Inv S C Z x0 y0 M i x y n)
    (h1 : -10000000000000 ≤ n) (h2 : n ≤ 10000000000000) : Inv S C Z x0 y0 M (i + 1) (rx i x y) (ry i x y) (n - T i) := by
  have hT := bd_T i hi
  have hp : (0 : Int) < 2 ^ i := Int.pow_pos (by decide)
  have d1 := Int.emod_add_mul_ediv y (2 ^ i)
  have d2 := Int.emod_add_mul_ediv x (2 ^ i)
  have a1 := Int.emod_nonneg y (show (2 : Int) ^ i ≠ 0 by omega)
  have a2 := Int.emod_lt_of_pos y hp
  have a3 := Int.emod_nonneg x (show (2 : Int) ^ i ≠ 0 by omega)
  have a4 := Int.emod_lt_of_pos x hp
  have k := step_plain S (2 ^ i) (H i) (H (i + 1)) x (-y) (rx i x y) (-ry i x y) x0 (-y0) (C (-n)) (Z (-n)) (C (-n + T i)) (Z (-n + T i)) (C (T i)) (Z (T i)) M (A i * M + B i) _ (-(y % 2 ^ i)) (-(x % 2 ^ i)) t.rot.pos hp (H_nonneg i hi) (nm_conj hM)
    (nm_unit t.rot (-n) (by omega) (by omega)) (t.rot.addC (-n) (T i) (by omega) (by omega) (by omega) (by omega) (by omega) (by omega)) (t.rot.addZ (-n) (T i) (by omega) (by omega) (by omega) (by omega) (by omega) (by omega)) (t.at_ i hi) (inv_conj t h)
    (by rw [rx, Int.mul_add]; omega) (by rw [ry, Int.mul_neg, Int.mul_sub, Int.mul_neg]; omega) (by omega) (by omega) (by omega) (by omega) (err_step i hi M hM.1)
  have k' := inv_conj t (i := i + 1) k
  rwa [Int.neg_neg, Int.neg_neg, show -(-n + T i) = n - T i by omega] at k'
end Go.Proofs.YtciglhecjkeogaaGreatDoor.Cm
set_option linter.unusedVariables false
set_option linter.unusedSimpArgs false
namespace Go.Proofs.YtciglhecjkeogaaGreatDoor.Cm
def rs (r : Int) : Nat → Int × Int × Int
  | 0 => (652032874, 0, r * 1000)
  | i + 1 => if 0 ≤ (rs r i).2.2 then (lx i (rs r i).1 (rs r i).2.1, ly i (rs r i).1 (rs r i).2.1, (rs r i).2.2 - T i)
    else (rx i (rs r i).1 (rs r i).2.1, ry i (rs r i).1 (rs r i).2.1, (rs r i).2.2 + T i)
theorem rs_succ (r : Int) (i : Nat) : rs r (i + 1) = if 0 ≤ (rs r i).2.2 then (lx i (rs r i).1 (rs r i).2.1, ly i (rs r i).1 (rs r i).2.1, (rs r i).2.2 - T i)
    else (rx i (rs r i).1 (rs r i).2.1, ry i (rs r i).1 (rs r i).2.1, (rs r i).2.2 + T i) := rfl
def zb : Nat → Int
  | 0 => 45000000000
  | i + 1 => max (T i) (zb i - T i)
theorem zb_end : zb 26 = 1708 := by decide +kernel
theorem zb_le : (List.range 27).all (fun i => decide (0 ≤ zb i) && decide (zb i ≤ 45000000000)) = true := by decide +kernel
theorem zb_bd (i : Nat) (hi : i ≤ 26) : 0 ≤ zb i ∧ zb i ≤ 45000000000 := by
  have := List.all_eq_true.1 zb_le i (List.mem_range.2 (by omega))
  simpa only [Bool.and_eq_true, decide_eq_true_eq] using this
theorem rs_z (r : Int) (h1 : -45000000 ≤ r) (h2 : r ≤ 45000000) : ∀ i : Nat, i ≤ 26 → -zb i ≤ (rs r i).2.2 ∧ (rs r i).2.2 ≤ zb i := by
  intro i
  induction i with
  | zero => intro _; simp only [rs, zb]; omega
  | succ i ih =>
    intro hi
    have k := ih (by omega)
    have t := bd_T i (by omega)
    rw [rs, zb]
    by_cases c : 0 ≤ (rs r i).2.2
    · rw [if_pos c]; dsimp only; omega
    · rw [if_neg c]; dsimp only; omega
theorem rs_inv {S : Int} {C Z : Int → Int} (t : Turn S C Z) (r : Int) (h1 : -45000000 ≤ r) (h2 : r ≤ 45000000) : ∀ i : Nat, i ≤ 26 →
    Inv S C Z 652032874 0 652032874 i (rs r i).1 (rs r i).2.1 (r * 1000 - (rs r i).2.2) := by
  have hM : nm 652032874 0 652032874 := ⟨by decide, by decide⟩
  intro i
  induction i with
  | zero =>
    intro _
    have := inv_zero t 652032874 0 652032874 (by decide)
    simp only [rs]
    rwa [Int.sub_self]
  | succ i ih =>
    intro hi
    have k := ih (by omega)
    have z := rs_z r h1 h2 i (by omega)
    have zz := zb_bd i (by omega)
    rw [rs]
    by_cases c : 0 ≤ (rs r i).2.2
    · rw [if_pos c]
      have := inv_left t hM (by omega) k (by omega) (by omega)
      dsimp only
      rwa [show r * 1000 - (rs r i).2.2 + T i = r * 1000 - ((rs r i).2.2 - T i) by omega] at this
    · rw [if_neg c]
      have := inv_right t hM (by omega) k (by omega) (by omega)
      dsimp only
      rwa [show r * 1000 - (rs r i).2.2 - T i = r * 1000 - ((rs r i).2.2 + T i) by omega] at this
theorem inv_len {S : Int} {C Z : Int → Int} (t : Turn S C Z) {x0 y0 M : Int} (hM : nm x0 y0 M) {i : Nat} (hi : i ≤ 26) {x y n : Int} (h : Inv S C Z x0 y0 M i x y n)
    (h1 : -10000000000000 ≤ n) (h2 : n ≤ 10000000000000) : nm (1099511627776 * x) (1099511627776 * y) (H i * M + (A i * M + B i)) := by
  have hH : 0 ≤ H i := by
    by_cases c : i < 26
    · exact H_nonneg i c
    · obtain rfl : i = 26 := by omega
      decide
  have k1 := nm_scale hH (nm_mul hM (nm_unit t.rot n (by omega) (by omega)))
  have k2 := nm_add h k1
  refine nm_cancel t.rot.pos (nm_congr k2 ?_ ?_ ?_)
  · rw [Int.sub_add_cancel]; simp only [Int.mul_assoc, Int.mul_comm, Int.mul_left_comm]
  · rw [Int.sub_add_cancel]; simp only [Int.mul_assoc, Int.mul_comm, Int.mul_left_comm]
  · simp only [Int.mul_add, Int.add_mul, Int.mul_assoc, Int.mul_comm, Int.mul_left_comm]; omega
def okL (i : Nat) : Bool := decide (H i ≤ 1810632051965) && decide (A i ≤ 476) && decide (B i ≤ 47008012629411)
theorem okL_all : (List.range 27).all okL = true := by decide +kernel
theorem len_bd {S : Int} {C Z : Int → Int} (t : Turn S C Z) {x0 y0 M : Int} (hM : nm x0 y0 M) {i : Nat} (hi : i ≤ 26) {x y n : Int} (h : Inv S C Z x0 y0 M i x y n)
    (h1 : -10000000000000 ≤ n) (h2 : n ≤ 10000000000000) (hb : M ≤ 1729382256910270464) : -4000000000000000000 ≤ x ∧ x ≤ 4000000000000000000 ∧ -4000000000000000000 ≤ y ∧ y ≤ 4000000000000000000 := by
  have k := inv_len t hM hi h h1 h2
  have l := List.all_eq_true.1 okL_all i (List.mem_range.2 (by omega))
  simp only [okL, Bool.and_eq_true, decide_eq_true_eq] at l
  have m1 := Int.mul_le_mul_of_nonneg_right l.1.1 hM.1
  have m2 := Int.mul_le_mul_of_nonneg_right l.1.2 hM.1
  have a := nm_re k
  have b := nm_im k
  omega
theorem turn_step {S : Int} {C Z : Int → Int} (t : Turn S C Z) (n : Int) (h1 : -10000000000000 ≤ n) (h2 : n ≤ 10000000000000) :
    nm (18446744073709551616 * (C (n + 1) - C n)) (18446744073709551616 * (Z (n + 1) - Z n)) (321956421 * S) := by
  have k := nm_mul (nm_unit t.rot n (by omega) (by omega)) t.step
  have a := t.rot.addC n 1 (by omega) (by omega) (by omega) (by omega) (by omega) (by omega)
  have b := t.rot.addZ n 1 (by omega) (by omega) (by omega) (by omega) (by omega) (by omega)
  have p := t.rot.pos
  generalize C (n + 1) = c' at *
  generalize Z (n + 1) = z' at *
  generalize C n = c at *
  generalize Z n = z at *
  generalize C 1 = c1 at *
  generalize Z 1 = z1 at *
  refine nm_cancel p (nm_congr k ?_ ?_ ?_)
  · rw [show S * (18446744073709551616 * (c' - c)) = 18446744073709551616 * (S * (c' - c)) from Int.mul_left_comm _ _ _, Int.mul_left_comm c, Int.mul_left_comm z]
    simp only [Int.mul_sub, Int.mul_add]
    rw [Int.mul_comm S c]
    omega
  · rw [show S * (18446744073709551616 * (z' - z)) = 18446744073709551616 * (S * (z' - z)) from Int.mul_left_comm _ _ _, Int.mul_left_comm c, Int.mul_left_comm z]
    simp only [Int.mul_sub, Int.mul_add]
    rw [Int.mul_comm S z]
    omega
  · simp only [Int.mul_assoc, Int.mul_comm, Int.mul_left_comm]
theorem turn_steps {S : Int} {C Z : Int → Int} (t : Turn S C Z) (n : Int) (h1 : -10000000000000 ≤ n) (h2 : n ≤ 9999999990000) : ∀ k : Nat, k ≤ 10000 →
    nm (18446744073709551616 * (C (n + k) - C n)) (18446744073709551616 * (Z (n + k) - Z n)) (k * 321956421 * S) := by
  intro k
  induction k with
  | zero => intro _; exact nm_congr nm_zero (by simp) (by simp) (by simp)
  | succ k ih =>
    intro hk
    have a := nm_add (ih (by omega)) (turn_step t (n + k) (by omega) (by omega))
    rw [show n + (k : Int) + 1 = n + ((k + 1 : Nat) : Int) by omega] at a
    refine nm_congr a (by omega) (by omega) ?_
    have e : ((k + 1 : Nat) : Int) * 321956421 = k * 321956421 + 321956421 := by omega
    rw [e, Int.add_mul]
theorem turn_near {S : Int} {C Z : Int → Int} (t : Turn S C Z) (n m b : Int) (h1 : -10000000000 * 900 ≤ n) (h2 : n ≤ 10000000000 * 900) (hb : b ≤ 10000) (hm1 : n - m ≤ b) (hm2 : m - n ≤ b) :
    nm (18446744073709551616 * (C n - C m)) (18446744073709551616 * (Z n - Z m)) (b * 321956421 * S) := by
  have p := Int.le_of_lt t.rot.pos
  by_cases c : m ≤ n
  · obtain ⟨k, hk⟩ := Int.eq_ofNat_of_zero_le (show 0 ≤ n - m by omega)
    have a := turn_steps t m (by omega) (by omega) k (by omega)
    rw [show m + (k : Int) = n by omega] at a
    exact nm_mono a (Int.mul_le_mul_of_nonneg_right (by omega) p)
  · obtain ⟨k, hk⟩ := Int.eq_ofNat_of_zero_le (show 0 ≤ m - n by omega)
    have a := turn_steps t n (by omega) (by omega) k (by omega)
    rw [show n + (k : Int) = m by omega] at a
    refine nm_mono (nm_congr (nm_neg a) (by omega) (by omega) rfl) (Int.mul_le_mul_of_nonneg_right (by omega) p)
theorem turn_quarter {S : Int} {C Z : Int → Int} (t : Turn S C Z) (n : Int) (h1 : -10000000000000 ≤ n) (h2 : n ≤ 10000000000000) :
    nm (18446744073709551616 * (C (n + 90000000000) + Z n)) (18446744073709551616 * (Z (n + 90000000000) - C n)) (16 * S) := by
  have k := nm_mul (nm_unit t.rot n (by omega) (by omega)) t.quarter
  have a := t.rot.addC n 90000000000 (by omega) (by omega) (by omega) (by omega) (by omega) (by omega)
  have b := t.rot.addZ n 90000000000 (by omega) (by omega) (by omega) (by omega) (by omega) (by omega)
  have p := t.rot.pos
  generalize C (n + 90000000000) = c' at *
  generalize Z (n + 90000000000) = z' at *
  generalize C n = c at *
  generalize Z n = z at *
  generalize C 90000000000 = c1 at *
  generalize Z 90000000000 = z1 at *
  refine nm_cancel p (nm_congr k ?_ ?_ ?_)
  · rw [show S * (18446744073709551616 * (c' + z)) = 18446744073709551616 * (S * (c' + z)) from Int.mul_left_comm _ _ _, Int.mul_left_comm c, Int.mul_left_comm z]
    simp only [Int.mul_sub, Int.mul_add]
    rw [Int.mul_comm S z]
    omega
  · rw [show S * (18446744073709551616 * (z' - c)) = 18446744073709551616 * (S * (z' - c)) from Int.mul_left_comm _ _ _, Int.mul_left_comm c, Int.mul_left_comm z]
    simp only [Int.mul_sub, Int.mul_add]
    rw [Int.mul_comm S c]
    omega
  · simp only [Int.mul_assoc, Int.mul_comm, Int.mul_left_comm]
def Pr (S : Int) (C Z : Int → Int) (x y n e : Int) : Prop := nm (17179869184 * (S * x) - 18446744073709551616 * C n) (17179869184 * (S * y) - 18446744073709551616 * Z n) (S * e)
theorem pr_quarter {S : Int} {C Z : Int → Int} (t : Turn S C Z) {x y n e : Int} (h : Pr S C Z x y n e) (h1 : -10000000000000 ≤ n) (h2 : n ≤ 10000000000000) : Pr S C Z (-y) x (n + 90000000000) (e + 16) := by
  have k := nm_sub (nm_quarter h) (turn_quarter t n h1 h2)
  refine nm_congr k ?_ ?_ ?_
  · rw [Int.mul_neg]; omega
  · omega
  · rw [Int.mul_add]; omega
def qt : Nat → Int × Int → Int × Int
  | 0, p => p
  | k + 1, p => (-(qt k p).2, (qt k p).1)
theorem pr_qt {S : Int} {C Z : Int → Int} (t : Turn S C Z) {p : Int × Int} {n e : Int} (h : Pr S C Z p.1 p.2 n e) (h1 : -9000000000000 ≤ n) (h2 : n ≤ 9000000000000) : ∀ k : Nat, k ≤ 10 → Pr S C Z (qt k p).1 (qt k p).2 (n + 90000000000 * k) (e + 16 * k) := by
  intro k
  induction k with
  | zero => intro _; exact nm_congr h (by simp [qt]) (by simp [qt]) (by simp)
  | succ k ih =>
    intro hk
    have a := pr_quarter t (ih (by omega)) (by omega) (by omega)
    rw [show n + 90000000000 * (k : Int) + 90000000000 = n + 90000000000 * ((k + 1 : Nat) : Int) by omega, show e + 16 * (k : Int) + 16 = e + 16 * ((k + 1 : Nat) : Int) by omega] at a
    exact a
def bs (rest : Int) : Int × Int := if rest = 0 then (1073741824, 0) else ((rs rest 26).1, (rs rest 26).2.1)
def kk (a : Int) : Int := (a % 360000000 + 45000000) / 90000000
def rest (a : Int) : Int := a % 360000000 - kk a * 90000000
def sc (a : Int) : Int × Int := qt (kk a).toNat (bs (rest a))
theorem kk_bd (a : Int) : 0 ≤ kk a ∧ kk a ≤ 4 ∧ -45000000 ≤ rest a ∧ rest a < 45000000 ∧ rest a + kk a * 90000000 = a % 360000000 := by
  unfold rest kk
  omega
theorem bs_pr {S : Int} {C Z : Int → Int} (t : Turn S C Z) (r : Int) (h1 : -45000000 ≤ r) (h2 : r ≤ 45000000) : Pr S C Z (bs r).1 (bs r).2 (r * 1000) 1300000000000 := by
  have p := t.rot.pos
  unfold bs
  by_cases c : r = 0
  · subst c
    rw [if_pos rfl]
    unfold Pr
    rw [Int.zero_mul, t.rot.zeroC, t.rot.zeroZ]
    refine nm_mono (nm_congr nm_zero ?_ ?_ rfl) (Int.mul_nonneg (Int.le_of_lt p) (by decide))
    · dsimp only; omega
    · simp
  · rw [if_neg c]
    have h := rs_inv t r h1 h2 26 (by decide)
    have z := rs_z r h1 h2 26 (by decide)
    rw [zb_end] at z
    generalize (rs r 26).2.2 = zz at *
    generalize (rs r 26).1 = x at *
    generalize (rs r 26).2.1 = y at *
    have u := nm_unit t.rot (r * 1000 - zz) (by omega) (by omega)
    have nr := turn_near t (r * 1000 - zz) (r * 1000) 1708 (by omega) (by omega) (by omega) (by omega) (by omega)
    unfold Inv at h
    unfold Pr
    rw [show H 26 = 1810632051964 from rfl, show A 26 = 476 from rfl, show B 26 = 47008012629411 from rfl] at h
    generalize C (r * 1000 - zz) = c1 at *
    generalize Z (r * 1000 - zz) = z1 at *
    generalize C (r * 1000) = c2 at *
    generalize Z (r * 1000) = z2 at *
    have g := nm_add (nm_sub (nm_scale (show (0 : Int) ≤ 17179869184 by decide) h) (nm_scale (show (0 : Int) ≤ 17179869184 by decide) (nm_scale (show (0 : Int) ≤ 118807038888 by decide) u))) (nm_scale (show (0 : Int) ≤ 1099511627776 by decide) nr)
    refine nm_cancel (k := 1099511627776) (by decide) (nm_mono (nm_congr g ?_ ?_ rfl) ?_)
    · rw [Int.mul_assoc]; generalize S * x = X; omega
    · rw [Int.mul_assoc]; generalize S * y = Y; omega
    · omega
theorem sc_pr0 {S : Int} {C Z : Int → Int} (t : Turn S C Z) (a : Int) : Pr S C Z (sc a).1 (sc a).2 ((a % 360000000) * 1000) 1300000000064 := by
  obtain ⟨k0, k1, r0, r1, e⟩ := kk_bd a
  have b := bs_pr t (rest a) r0 (by omega)
  have q := pr_qt t b (by omega) (by omega) (kk a).toNat (by omega)
  unfold Pr at q ⊢
  rw [show (sc a) = qt (kk a).toNat (bs (rest a)) from rfl]
  rw [show rest a * 1000 + 90000000000 * ((kk a).toNat : Int) = a % 360000000 * 1000 by omega] at q
  exact nm_mono q (Int.mul_le_mul_of_nonneg_left (by omega) (Int.le_of_lt t.rot.pos))
theorem rs_bd (r : Int) (h1 : -45000000 ≤ r) (h2 : r ≤ 45000000) (i : Nat) (hi : i ≤ 26) :
    -4000000000000000000 ≤ (rs r i).1 ∧ (rs r i).1 ≤ 4000000000000000000 ∧ -4000000000000000000 ≤ (rs r i).2.1 ∧ (rs r i).2.1 ≤ 4000000000000000000 ∧ -45000000000 ≤ (rs r i).2.2 ∧ (rs r i).2.2 ≤ 45000000000 := by
  obtain ⟨S, C, Z, t⟩ := exists_turn
  have z := rs_z r h1 h2 i hi
  have b := zb_bd i hi
  have k := len_bd t (show nm 652032874 0 652032874 from ⟨by decide, by decide⟩) hi (rs_inv t r h1 h2 i hi) (by omega) (by omega) (by decide)
  omega
theorem sc_bd (a : Int) : nm (sc a).1 (sc a).2 1073741900 := by
  obtain ⟨S, C, Z, t⟩ := exists_turn
  have h := sc_pr0 t a
  have u := nm_scale (show (0 : Int) ≤ 18446744073709551616 by decide) (nm_unit t.rot (a % 360000000 * 1000) (by omega) (by omega))
  unfold Pr at h
  have k := nm_add h u
  have p := t.rot.pos
  refine nm_cancel (k := 17179869184 * S) (by omega) (nm_mono (nm_congr k ?_ ?_ rfl) ?_)
  · rw [Int.mul_assoc]; omega
  · rw [Int.mul_assoc]; omega
  · omega
end Go.Proofs.YtciglhecjkeogaaGreatDoor.Cm
set_option linter.unusedVariables false
set_option linter.unusedSimpArgs false
namespace Go.Proofs.YtciglhecjkeogaaGreatDoor.Cm
def vs (x0 y0 : Int) : Nat → Int × Int × Int
  | 0 => (x0, y0, 0)
  | i + 1 => if 0 ≤ (vs x0 y0 i).2.1 then (rx i (vs x0 y0 i).1 (vs x0 y0 i).2.1, ry i (vs x0 y0 i).1 (vs x0 y0 i).2.1, (vs x0 y0 i).2.2 + T i)
    else (lx i (vs x0 y0 i).1 (vs x0 y0 i).2.1, ly i (vs x0 y0 i).1 (vs x0 y0 i).2.1, (vs x0 y0 i).2.2 - T i)
theorem vs_succ (x0 y0 : Int) (i : Nat) : vs x0 y0 (i + 1) = if 0 ≤ (vs x0 y0 i).2.1 then (rx i (vs x0 y0 i).1 (vs x0 y0 i).2.1, ry i (vs x0 y0 i).1 (vs x0 y0 i).2.1, (vs x0 y0 i).2.2 + T i)
    else (lx i (vs x0 y0 i).1 (vs x0 y0 i).2.1, ly i (vs x0 y0 i).1 (vs x0 y0 i).2.1, (vs x0 y0 i).2.2 - T i) := rfl
def st : Nat → Int
  | 0 => 0
  | i + 1 => st i + T i
theorem st_le : (List.range 27).all (fun i => decide (0 ≤ st i) && decide (st i ≤ 100000000000)) = true := by decide +kernel
theorem st_bd (i : Nat) (hi : i ≤ 26) : 0 ≤ st i ∧ st i ≤ 100000000000 := by
  have := List.all_eq_true.1 st_le i (List.mem_range.2 (by omega))
  simpa only [Bool.and_eq_true, decide_eq_true_eq] using this
theorem vs_z (x0 y0 : Int) : ∀ i : Nat, i ≤ 26 → -st i ≤ (vs x0 y0 i).2.2 ∧ (vs x0 y0 i).2.2 ≤ st i := by
  intro i
  induction i with
  | zero => intro _; simp [vs, st]
  | succ i ih =>
    intro hi
    have k := ih (by omega)
    have t := bd_T i (by omega)
    rw [vs_succ, st]
    by_cases c : 0 ≤ (vs x0 y0 i).2.1
    · rw [if_pos c]; dsimp only; omega
    · rw [if_neg c]; dsimp only; omega
theorem vs_inv {S : Int} {C Z : Int → Int} (t : Turn S C Z) {x0 y0 M : Int} (hM : nm x0 y0 M) : ∀ i : Nat, i ≤ 26 →
    Inv S C Z x0 y0 M i (vs x0 y0 i).1 (vs x0 y0 i).2.1 (-(vs x0 y0 i).2.2) := by
  intro i
  induction i with
  | zero =>
    intro _
    have := inv_zero t x0 y0 M hM.1
    simpa only [vs, Int.neg_zero] using this
  | succ i ih =>
    intro hi
    have k := ih (by omega)
    have z := vs_z x0 y0 i (by omega)
    have zz := st_bd i (by omega)
    rw [vs_succ]
    by_cases c : 0 ≤ (vs x0 y0 i).2.1
    · rw [if_pos c]
      have := inv_right t hM (by omega) k (by omega) (by omega)
      dsimp only
      rwa [show -(vs x0 y0 i).2.2 - T i = -((vs x0 y0 i).2.2 + T i) by omega] at this
    · rw [if_neg c]
      have := inv_left t hM (by omega) k (by omega) (by omega)
      dsimp only
      rwa [show -(vs x0 y0 i).2.2 + T i = -((vs x0 y0 i).2.2 - T i) by omega] at this
theorem vs_bd (x0 y0 : Int) (hx : 0 ≤ x0) (hx' : x0 ≤ 1152921504606846976) (h1 : -x0 ≤ y0) (h2 : y0 ≤ x0) (i : Nat) (hi : i ≤ 26) :
    -4000000000000000000 ≤ (vs x0 y0 i).1 ∧ (vs x0 y0 i).1 ≤ 4000000000000000000 ∧ -4000000000000000000 ≤ (vs x0 y0 i).2.1 ∧ (vs x0 y0 i).2.1 ≤ 4000000000000000000 ∧ -100000000000 ≤ (vs x0 y0 i).2.2 ∧ (vs x0 y0 i).2.2 ≤ 100000000000 := by
  obtain ⟨S, C, Z, t⟩ := exists_turn
  have z := vs_z x0 y0 i hi
  have b := st_bd i hi
  have hM : nm x0 y0 1729382256910270464 := nm_box (p := 1152921504606846976) (by omega) (by omega) (by omega) (by omega) (by decide) (by decide)
  have k := len_bd t hM hi (vs_inv t hM i hi) (by omega) (by omega) (by decide)
  omega
end Go.Proofs.YtciglhecjkeogaaGreatDoor.Cm
set_option linter.unusedVariables false
set_option linter.unusedSimpArgs false
namespace Go.Proofs.YtciglhecjkeogaaGreatDoor.Cm
def bk : Nat → Int × Int → Int × Int
  | 0, p => p
  | j + 1, p => ((bk j p).2, -(bk j p).1)
def inQ (x y : Int) : Bool := decide (-x ≤ y) && decide (y < x)
def qn (x y : Int) : Nat := if inQ x y then 0 else if inQ y (-x) then 1 else if inQ (-x) (-y) then 2 else 3
theorem inQ_t {x y : Int} (h1 : -x ≤ y) (h2 : y < x) : inQ x y = true := by unfold inQ; simp; omega
theorem inQ_bd {x y : Int} (h : inQ x y = true) : -x ≤ y ∧ y < x := by unfold inQ at h; simpa using h
theorem inQ_no {x y : Int} (h : inQ x y = false) : y < -x ∨ x ≤ y := by
  by_cases c : -x ≤ y ∧ y < x
  · rw [inQ_t c.1 c.2] at h; cases h
  · omega
theorem qn_le (x y : Int) : qn x y ≤ 3 := by
  unfold qn
  split
  · omega
  · split
    · omega
    · split <;> omega
theorem bk_at (x y : Int) : bk 0 (x, y) = (x, y) ∧ bk 1 (x, y) = (y, -x) ∧ bk 2 (x, y) = (-x, -y) ∧ bk 3 (x, y) = (-y, x) := by simp [bk]
theorem qn_in (x y : Int) (h : ¬ (x = 0 ∧ y = 0)) : inQ (bk (qn x y) (x, y)).1 (bk (qn x y) (x, y)).2 = true := by
  obtain ⟨b0, b1, b2, b3⟩ := bk_at x y
  unfold qn
  cases c0 : inQ x y
  · cases c1 : inQ y (-x)
    · cases c2 : inQ (-x) (-y)
      · simp only [Bool.false_eq_true, if_false, b3]
        have := inQ_no c0
        have := inQ_no c1
        have := inQ_no c2
        exact inQ_t (by omega) (by omega)
      · simp only [Bool.false_eq_true, if_false, if_true, b2, c2]
    · simp only [Bool.false_eq_true, if_false, if_true, b1, c1]
  · simp only [if_true, b0, c0]
theorem qn_before (x y : Int) (j : Nat) (hj : j < qn x y) : inQ (bk j (x, y)).1 (bk j (x, y)).2 = false := by
  obtain ⟨b0, b1, b2, b3⟩ := bk_at x y
  unfold qn at hj
  cases c0 : inQ x y
  · rw [c0] at hj
    cases c1 : inQ y (-x)
    · rw [c1] at hj
      cases c2 : inQ (-x) (-y)
      · rw [c2] at hj
        simp at hj
        rcases (show j = 0 ∨ j = 1 ∨ j = 2 by omega) with rfl | rfl | rfl
        · rw [b0]; exact c0
        · rw [b1]; exact c1
        · rw [b2]; exact c2
      · rw [c2] at hj
        simp at hj
        rcases (show j = 0 ∨ j = 1 by omega) with rfl | rfl
        · rw [b0]; exact c0
        · rw [b1]; exact c1
    · rw [c1] at hj
      simp at hj
      obtain rfl : j = 0 := by omega
      rw [b0]; exact c0
  · rw [c0] at hj
    simp at hj
theorem bk_bd (x y b : Int) (h1 : -b ≤ x) (h2 : x ≤ b) (h3 : -b ≤ y) (h4 : y ≤ b) (j : Nat) : -b ≤ (bk j (x, y)).1 ∧ (bk j (x, y)).1 ≤ b ∧ -b ≤ (bk j (x, y)).2 ∧ (bk j (x, y)).2 ≤ b := by
  induction j with
  | zero => exact ⟨h1, h2, h3, h4⟩
  | succ j ih => simp only [bk]; omega
def rz (x y : Int) : Int := (vs ((bk (qn x y) (x, y)).1 * 1048576) ((bk (qn x y) (x, y)).2 * 1048576) 26).2.2
def rr (x y : Int) : Int := if (bk (qn x y) (x, y)).2 = 0 then 0 else (rz x y + 500) / 1000
def ang (x y : Int) : Int := ((qn x y : Int) * 90000000 + rr x y) % 360000000
def aok (x y : Int) : Bool := !(decide (x = 0) && decide (y = 0)) && decide (-1099511627776 ≤ x) && decide (x ≤ 1099511627776) && decide (-1099511627776 ≤ y) && decide (y ≤ 1099511627776)
def angv (x y : Int) : Int := if aok x y then ang x y else 0
theorem aok_t {x y : Int} (h : ¬ (x = 0 ∧ y = 0)) (h1 : -1099511627776 ≤ x) (h2 : x ≤ 1099511627776) (h3 : -1099511627776 ≤ y) (h4 : y ≤ 1099511627776) : aok x y = true := by
  unfold aok; simp; omega
theorem aok_f {x y : Int} (h : (x = 0 ∧ y = 0) ∨ x < -1099511627776 ∨ 1099511627776 < x ∨ y < -1099511627776 ∨ 1099511627776 < y) : aok x y = false := by
  cases c : aok x y
  · rfl
  · unfold aok at c; simp at c; omega
end Go.Proofs.YtciglhecjkeogaaGreatDoor.Cm

