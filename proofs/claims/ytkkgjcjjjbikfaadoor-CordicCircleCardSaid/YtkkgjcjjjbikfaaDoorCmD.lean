
/- Plain: the steps of the algorithm turn a point by the sum of their angles, but for what the floors and the table lose. -/
import Derived.Test.YtkkgjcjjjbikfaaDoorCmC
set_option linter.unusedVariables false
set_option linter.unusedSimpArgs false
namespace Go.Proofs.YtkkgjcjjjbikfaaDoor.Cm

/-- One step, multiplied out. -/
theorem step_plain (S p h h' x y x' y' x0 y0 u1 u2 t1 t2 c z M E E' r1 r2 : Int) (hS : 0 < S) (hp : 0 < p) (hh : 0 ≤ h) (hM : nm x0 y0 M) (hu : nm u1 u2 S)
    (et1 : S * t1 = u1 * c - u2 * z) (et2 : S * t2 = u1 * z + u2 * c)
    (hd : nm (p * h * S - p * h' * c) (h * S - p * h' * z) (p * 16 * S))
    (ha : nm (1099511627776 * S * x - h * (x0 * u1 - y0 * u2)) (1099511627776 * S * y - h * (x0 * u2 + y0 * u1)) (S * E))
    (ex : p * x' = p * x - y + r1) (ey : p * y' = p * y + x + r2) (b1 : -p ≤ r1) (b2 : r1 ≤ p) (b3 : -p ≤ r2) (b4 : r2 ≤ p)
    (hE : (p + 1) * E + 1649267441664 * p + p * 16 * M ≤ p * E') :
    nm (1099511627776 * S * x' - h' * (x0 * t1 - y0 * t2)) (1099511627776 * S * y' - h' * (x0 * t2 + y0 * t1)) (S * E') := by
  have hS' : 0 ≤ S := Int.le_of_lt hS
  have hp' : 0 ≤ p := Int.le_of_lt hp
  -- the table
  have k1 : nm (p * h * u1 - h * u2 - p * h' * t1) (h * u1 + p * h * u2 - p * h' * t2) (p * 16 * S) := by
    refine nm_cancel hS (nm_congr (nm_mul hu hd) ?_ ?_ rfl)
    · have e : p * h' * (S * t1) = p * h' * (u1 * c - u2 * z) := by rw [et1]
      clear ha ex ey et1 et2 hd hE
      simp only [Int.mul_add, Int.add_mul, Int.sub_mul, Int.mul_sub, Int.mul_assoc, Int.mul_comm, Int.mul_left_comm] at e ⊢
      omega
    · have e : p * h' * (S * t2) = p * h' * (u1 * z + u2 * c) := by rw [et2]
      clear ha ex ey et1 et2 hd hE
      simp only [Int.mul_add, Int.add_mul, Int.sub_mul, Int.mul_sub, Int.mul_assoc, Int.mul_comm, Int.mul_left_comm] at e ⊢
      omega
  have k2 := nm_mul hM k1
  clear k1 hd hu et1 et2
  -- the point before
  have k3 : nm p 1 (p + 1) := ⟨by omega, by simp only [Int.mul_add, Int.add_mul]; omega⟩
  have k4 := nm_mul k3 ha
  clear k3 ha
  -- the floors
  have k5 : nm (2 * r1) (2 * r2) (3 * p) := nm_box (p := 2 * p) (by omega) (by omega) (by omega) (by omega) (by omega) (by
    have := sq_nonneg p
    have e1 : 2 * p * (2 * p) = 4 * (p * p) := by rw [show 2 * p = p + p by omega]; simp only [Int.mul_add, Int.add_mul]; omega
    have e2 : 3 * p * (3 * p) = 9 * (p * p) := by rw [show 3 * p = p + p + p by omega]; simp only [Int.mul_add, Int.add_mul]; omega
    omega)
  have k6 := nm_scale hS' (nm_scale (show (0 : Int) ≤ 549755813888 by decide) k5)
  clear k5
  have k7 := nm_add (nm_add k4 k2) k6
  clear k4 k2 k6
  refine nm_cancel hp (nm_mono (nm_congr k7 ?_ ?_ rfl) ?_)
  · have e : S * (p * x') = S * (p * x - y + r1) := by rw [ex]
    clear k7 ex ey hE hM
    rw [show S * (549755813888 * (2 * r1)) = S * (1099511627776 * r1) by rw [show (549755813888 : Int) * (2 * r1) = 1099511627776 * r1 by omega]]
    generalize hk : (1099511627776 : Int) = k
    have e' : k * (S * (p * x')) = k * (S * (p * x - y + r1)) := by rw [e]
    clear e hk
    simp only [Int.one_mul, Int.mul_one, Int.mul_add, Int.add_mul, Int.sub_mul, Int.mul_sub, Int.mul_assoc, Int.mul_comm, Int.mul_left_comm] at e' ⊢
    omega
  · have e : S * (p * y') = S * (p * y + x + r2) := by rw [ey]
    clear k7 ex ey hE hM
    rw [show S * (549755813888 * (2 * r2)) = S * (1099511627776 * r2) by rw [show (549755813888 : Int) * (2 * r2) = 1099511627776 * r2 by omega]]
    generalize hk : (1099511627776 : Int) = k
    have e' : k * (S * (p * y')) = k * (S * (p * y + x + r2)) := by rw [e]
    clear e hk
    simp only [Int.one_mul, Int.mul_one, Int.mul_add, Int.add_mul, Int.sub_mul, Int.mul_sub, Int.mul_assoc, Int.mul_comm, Int.mul_left_comm] at e' ⊢
    omega
  · have e := Int.mul_le_mul_of_nonneg_left hE hS'
    clear k7 ex ey hE hM
    rw [show (549755813888 : Int) * (3 * p) = 1649267441664 * p by omega]
    generalize (1649267441664 : Int) = k at *
    generalize (16 : Int) = k' at *
    simp only [Int.one_mul, Int.mul_one, Int.mul_add, Int.add_mul, Int.sub_mul, Int.mul_sub, Int.mul_assoc, Int.mul_comm, Int.mul_left_comm] at e ⊢
    omega

def tabA : List Int := [0, 16, 40, 66, 91, 113, 133, 152, 170, 187, 204, 221, 238, 255, 272, 289, 306, 323, 340, 357, 374, 391, 408, 425, 442, 459, 476]
def tabB : List Int := [0, 1649267441664, 4123168604160, 6803228196864, 9302899163136, 11533597802496, 13543290175488, 15404171526144, 17173784057856, 18890136593496, 20576298833195, 22245660316689, 23905789897180, 25560893713331, 27213281381279, 28864209789825, 30514358097267, 32164091151085, 33813603985291, 35463000415618, 37112335497588, 38761638332334, 40410924256988, 42060201333368, 43709473788999, 45358743835951, 47008012629411]
def A (i : Nat) : Int := tabA.getD i 0
def B (i : Nat) : Int := tabB.getD i 0

def okE (i : Nat) : Bool := decide (((2 : Int) ^ i + 1) * A i + 2 ^ i * 16 ≤ 2 ^ i * A (i + 1)) && decide (((2 : Int) ^ i + 1) * B i + 1649267441664 * 2 ^ i ≤ 2 ^ i * B (i + 1)) && decide (0 ≤ H i)
theorem okE_all : (List.range 26).all okE = true := by decide +kernel

/-- A step to the left: what x and y become. -/
def lx (i : Nat) (x y : Int) : Int := x - y / 2 ^ i
def ly (i : Nat) (x y : Int) : Int := y + x / 2 ^ i
/-- A step to the right. -/
def rx (i : Nat) (x y : Int) : Int := x + y / 2 ^ i
def ry (i : Nat) (x y : Int) : Int := y - x / 2 ^ i

/-- After i steps the point (x0, y0), which is at most M away, has been turned by n. -/
def Inv (S : Int) (C Z : Int → Int) (x0 y0 M : Int) (i : Nat) (x y n : Int) : Prop :=
  nm (1099511627776 * S * x - H i * (x0 * C n - y0 * Z n)) (1099511627776 * S * y - H i * (x0 * Z n + y0 * C n)) (S * (A i * M + B i))

theorem inv_zero {S : Int} {C Z : Int → Int} (t : Turn S C Z) (x0 y0 M : Int) (hM : 0 ≤ M) : Inv S C Z x0 y0 M 0 x0 y0 0 := by
  unfold Inv
  rw [t.rot.zeroC, t.rot.zeroZ, show H 0 = 1099511627776 from rfl, show A 0 = 0 from rfl, show B 0 = 0 from rfl]
  refine nm_congr nm_zero ?_ ?_ ?_
  · rw [Int.mul_zero, Int.sub_zero, Int.mul_comm x0 S, Int.mul_assoc]; omega
  · rw [Int.mul_zero, Int.zero_add, Int.mul_comm y0 S, Int.mul_assoc]; omega
  · simp

theorem err_step (i : Nat) (hi : i < 26) (M : Int) (hM : 0 ≤ M) : ((2 : Int) ^ i + 1) * (A i * M + B i) + 1649267441664 * 2 ^ i + 2 ^ i * 16 * M ≤ 2 ^ i * (A (i + 1) * M + B (i + 1)) := by
  have k := List.all_eq_true.1 okE_all i (List.mem_range.2 hi)
  simp only [okE, Bool.and_eq_true, decide_eq_true_eq] at k
  have m := Int.mul_le_mul_of_nonneg_right k.1.1 hM
  have e1 : ((2 : Int) ^ i + 1) * (A i * M + B i) = ((2 : Int) ^ i + 1) * A i * M + ((2 : Int) ^ i + 1) * B i := by rw [Int.mul_add, Int.mul_assoc]
  have e2 : (2 : Int) ^ i * (A (i + 1) * M + B (i + 1)) = 2 ^ i * A (i + 1) * M + 2 ^ i * B (i + 1) := by rw [Int.mul_add, Int.mul_assoc]
  rw [Int.add_mul] at m
  rw [e1, e2]
  omega

theorem H_nonneg (i : Nat) (hi : i < 26) : 0 ≤ H i := by
  have k := List.all_eq_true.1 okE_all i (List.mem_range.2 hi)
  simp only [okE, Bool.and_eq_true, decide_eq_true_eq] at k
  exact k.2

theorem inv_left {S : Int} {C Z : Int → Int} (t : Turn S C Z) {x0 y0 M : Int} (hM : nm x0 y0 M) {i : Nat} (hi : i < 26) {x y n : Int} (h : Inv S C Z x0 y0 M i x y n)
    (h1 : -10000000000000 ≤ n) (h2 : n ≤ 10000000000000) : Inv S C Z x0 y0 M (i + 1) (lx i x y) (ly i x y) (n + T i) := by
  have hT := bd_T i hi
  have hp : (0 : Int) < 2 ^ i := Int.pow_pos (by decide)
  have d1 := Int.emod_add_mul_ediv y (2 ^ i)
  have d2 := Int.emod_add_mul_ediv x (2 ^ i)
  have a1 := Int.emod_nonneg y (show (2 : Int) ^ i ≠ 0 by omega)
  have a2 := Int.emod_lt_of_pos y hp
  have a3 := Int.emod_nonneg x (show (2 : Int) ^ i ≠ 0 by omega)
  have a4 := Int.emod_lt_of_pos x hp
  refine step_plain S (2 ^ i) (H i) (H (i + 1)) x y _ _ x0 y0 (C n) (Z n) (C (n + T i)) (Z (n + T i)) (C (T i)) (Z (T i)) M (A i * M + B i) _ (y % 2 ^ i) (-(x % 2 ^ i)) t.rot.pos hp (H_nonneg i hi) hM
    (nm_unit t.rot n (by omega) (by omega)) (t.rot.addC n (T i) (by omega) (by omega) (by omega) (by omega) (by omega) (by omega)) (t.rot.addZ n (T i) (by omega) (by omega) (by omega) (by omega) (by omega) (by omega)) (t.at_ i hi) h
    ?_ ?_ (by omega) (by omega) (by omega) (by omega) (err_step i hi M hM.1)
  · rw [lx, Int.mul_sub]; omega
  · rw [ly, Int.mul_add]; omega

theorem inv_conj {S : Int} {C Z : Int → Int} (t : Turn S C Z) {x0 y0 M : Int} {i : Nat} {x y n : Int} (h : Inv S C Z x0 y0 M i x y n) : Inv S C Z x0 (-y0) M i x (-y) (-n) := by
  unfold Inv at h ⊢
  rw [t.rot.negC, t.rot.negZ]
  refine nm_congr (nm_conj h) ?_ ?_ rfl
  · rw [Int.neg_mul_neg]
  · simp only [Int.mul_neg, Int.neg_mul, Int.mul_add]; omega

theorem inv_right {S : Int} {C Z : Int → Int} (t : Turn S C Z) {x0 y0 M : Int} (hM : nm x0 y0 M) {i : Nat} (hi : i < 26) {x y n : Int} (h : Inv S C Z x0 y0 M i x y n)
    (h1 : -10000000000000 ≤ n) (h2 : n ≤ 10000000000000) : Inv S C Z x0 y0 M (i + 1) (rx i x y) (ry i x y) (n - T i) := by
  have hT := bd_T i hi
  have hp : (0 : Int) < 2 ^ i := Int.pow_pos (by decide)
  have d1 := Int.emod_add_mul_ediv y (2 ^ i)
  have d2 := Int.emod_add_mul_ediv x (2 ^ i)
  have a1 := Int.emod_nonneg y (show (2 : Int) ^ i ≠ 0 by omega)
  have a2 := Int.emod_lt_of_pos y hp
  have a3 := Int.emod_nonneg x (show (2 : Int) ^ i ≠ 0 by omega)
  have a4 := Int.emod_lt_of_pos x hp
  have k := step_plain S (2 ^ i) (H i) (H (i + 1)) x (-y) (rx i x y) (-ry i x y) x0 (-y0) (C (-n)) (Z (-n)) (C (-n + T i)) (Z (-n + T i)) (C (T i)) (Z (T i)) M (A i * M + B i) _ (-(y % 2 ^ i)) (-(x % 2 ^ i)) t.rot.pos hp (H_nonneg i hi) (nm_conj hM)
    (nm_unit t.rot (-n) (by omega) (by omega)) (t.rot.addC (-n) (T i) (by omega) (by omega) (by omega) (by omega) (by omega) (by omega)) (t.rot.addZ (-n) (T i) (by omega) (by omega) (by omega) (by omega) (by omega) (by omega)) (t.at_ i hi) (inv_conj t h)
    (by rw [rx, Int.mul_add]; omega) (by rw [ry, Int.mul_neg, Int.mul_sub, Int.mul_neg]; omega) (by omega) (by omega) (by omega) (by omega) (err_step i hi M hM.1)
  have k' := inv_conj t (i := i + 1) k
  rwa [Int.neg_neg, Int.neg_neg, show -(-n + T i) = n - T i by omega] at k'

end Go.Proofs.YtkkgjcjjjbikfaaDoor.Cm
