
/- Plain: the direction of a point as the algorithm computes it turns the axis to the point, nearly. -/
import Derived.Test.YtkkgjcjjjbikfaaDoorCmE
set_option linter.unusedVariables false
set_option linter.unusedSimpArgs false
namespace Go.Proofs.YtkkgjcjjjbikfaaDoor.Cm

/-- The point and the angle that has been used up, after i steps to the axis. -/
def vs (x0 y0 : Int) : Nat → Int × Int × Int
  | 0 => (x0, y0, 0)
  | i + 1 => if 0 ≤ (vs x0 y0 i).2.1 then (rx i (vs x0 y0 i).1 (vs x0 y0 i).2.1, ry i (vs x0 y0 i).1 (vs x0 y0 i).2.1, (vs x0 y0 i).2.2 + T i)
    else (lx i (vs x0 y0 i).1 (vs x0 y0 i).2.1, ly i (vs x0 y0 i).1 (vs x0 y0 i).2.1, (vs x0 y0 i).2.2 - T i)
theorem vs_succ (x0 y0 : Int) (i : Nat) : vs x0 y0 (i + 1) = if 0 ≤ (vs x0 y0 i).2.1 then (rx i (vs x0 y0 i).1 (vs x0 y0 i).2.1, ry i (vs x0 y0 i).1 (vs x0 y0 i).2.1, (vs x0 y0 i).2.2 + T i)
    else (lx i (vs x0 y0 i).1 (vs x0 y0 i).2.1, ly i (vs x0 y0 i).1 (vs x0 y0 i).2.1, (vs x0 y0 i).2.2 - T i) := rfl

/-- The sum of the angles. -/
def st : Nat → Int
  | 0 => 0
  | i + 1 => st i + T i
theorem st_le : (List.range 27).all (fun i => decide (0 ≤ st i) && decide (st i ≤ 100000000000)) = true := by decide +kernel
theorem st_bd (i : Nat) (hi : i ≤ 26) : 0 ≤ st i ∧ st i ≤ 100000000000 := by
  have := List.all_eq_true.1 st_le i (List.mem_range.2 (by omega))
  simpa only [Bool.and_eq_true, decide_eq_true_eq] using this

theorem vs_z (x0 y0 : Int) : ∀ i : Nat, i ≤ 26 → -st i ≤ (vs x0 y0 i).2.2 ∧ (vs x0 y0 i).2.2 ≤ st i := by
  intro i
  induction i with
  | zero => intro _; simp [vs, st]
  | succ i ih =>
    intro hi
    have k := ih (by omega)
    have t := bd_T i (by omega)
    rw [vs_succ, st]
    by_cases c : 0 ≤ (vs x0 y0 i).2.1
    · rw [if_pos c]; dsimp only; omega
    · rw [if_neg c]; dsimp only; omega

theorem vs_inv {S : Int} {C Z : Int → Int} (t : Turn S C Z) {x0 y0 M : Int} (hM : nm x0 y0 M) : ∀ i : Nat, i ≤ 26 →
    Inv S C Z x0 y0 M i (vs x0 y0 i).1 (vs x0 y0 i).2.1 (-(vs x0 y0 i).2.2) := by
  intro i
  induction i with
  | zero =>
    intro _
    have := inv_zero t x0 y0 M hM.1
    simpa only [vs, Int.neg_zero] using this
  | succ i ih =>
    intro hi
    have k := ih (by omega)
    have z := vs_z x0 y0 i (by omega)
    have zz := st_bd i (by omega)
    rw [vs_succ]
    by_cases c : 0 ≤ (vs x0 y0 i).2.1
    · rw [if_pos c]
      have := inv_right t hM (by omega) k (by omega) (by omega)
      dsimp only
      rwa [show -(vs x0 y0 i).2.2 - T i = -((vs x0 y0 i).2.2 + T i) by omega] at this
    · rw [if_neg c]
      have := inv_left t hM (by omega) k (by omega) (by omega)
      dsimp only
      rwa [show -(vs x0 y0 i).2.2 + T i = -((vs x0 y0 i).2.2 - T i) by omega] at this

theorem vs_bd (x0 y0 : Int) (hx : 0 ≤ x0) (hx' : x0 ≤ 1152921504606846976) (h1 : -x0 ≤ y0) (h2 : y0 ≤ x0) (i : Nat) (hi : i ≤ 26) :
    -4000000000000000000 ≤ (vs x0 y0 i).1 ∧ (vs x0 y0 i).1 ≤ 4000000000000000000 ∧ -4000000000000000000 ≤ (vs x0 y0 i).2.1 ∧ (vs x0 y0 i).2.1 ≤ 4000000000000000000 ∧ -100000000000 ≤ (vs x0 y0 i).2.2 ∧ (vs x0 y0 i).2.2 ≤ 100000000000 := by
  obtain ⟨S, C, Z, t⟩ := exists_turn
  have z := vs_z x0 y0 i hi
  have b := st_bd i hi
  have hM : nm x0 y0 1729382256910270464 := nm_box (p := 1152921504606846976) (by omega) (by omega) (by omega) (by omega) (by decide) (by decide)
  have k := len_bd t hM hi (vs_inv t hM i hi) (by omega) (by omega) (by decide)
  omega

/-- The point stands to the right, nearly on the axis. -/
def Ax (i : Nat) (X Y : Int) : Prop := 0 ≤ X ∧ 2 ^ i * Y ≤ 2 * X + i * 2 ^ i ∧ -(2 * X + i * 2 ^ i) ≤ 2 ^ i * Y

/-- One step brings the point nearer to the axis. -/
theorem ax_plain (p j X Y : Int) (hp : 0 < p) (hj : 0 ≤ j) (h0 : 0 ≤ X) (h1 : p * Y ≤ 2 * X + j * p) (h2 : -(2 * X + j * p) ≤ p * Y) :
    (0 ≤ Y → 0 ≤ X + Y / p ∧ p * 2 * (Y - X / p) ≤ 2 * (X + Y / p) + (j + 1) * (p * 2) ∧ -(2 * (X + Y / p) + (j + 1) * (p * 2)) ≤ p * 2 * (Y - X / p)) ∧
    (Y < 0 → 0 ≤ X - Y / p ∧ p * 2 * (Y + X / p) ≤ 2 * (X - Y / p) + (j + 1) * (p * 2) ∧ -(2 * (X - Y / p) + (j + 1) * (p * 2)) ≤ p * 2 * (Y + X / p)) := by
  have d2 := Int.emod_add_mul_ediv X p
  have a3 := Int.emod_nonneg X (show p ≠ 0 by omega)
  have a4 := Int.emod_lt_of_pos X hp
  have jp := Int.mul_nonneg hj (Int.le_of_lt hp)
  have pq : 0 ≤ X / p := Int.ediv_nonneg h0 (Int.le_of_lt hp)
  have e1 : (j + 1) * (p * 2) = 2 * (j * p) + 2 * p := by rw [Int.add_mul, ← Int.mul_assoc]; omega
  have e2 : p * 2 * (Y - X / p) = 2 * (p * Y) - 2 * (p * (X / p)) := by rw [Int.mul_comm p 2, Int.mul_assoc, Int.mul_sub]; omega
  have e3 : p * 2 * (Y + X / p) = 2 * (p * Y) + 2 * (p * (X / p)) := by rw [Int.mul_comm p 2, Int.mul_assoc, Int.mul_add]; omega
  rw [e1, e2, e3]
  refine ⟨fun hY => ?_, fun hY => ?_⟩
  · have y0 : 0 ≤ Y / p := Int.ediv_nonneg hY (Int.le_of_lt hp)
    have y1 : 0 ≤ p * Y := Int.mul_nonneg (Int.le_of_lt hp) hY
    generalize X / p = q at *
    generalize Y / p = q' at *
    omega
  · have y0 : Y / p < 0 := Int.ediv_neg_of_neg_of_pos hY hp
    have y1 : p * Y ≤ 0 := Int.mul_nonpos_of_nonneg_of_nonpos (Int.le_of_lt hp) (by omega)
    generalize X / p = q at *
    generalize Y / p = q' at *
    omega

theorem vs_ax (x0 y0 : Int) (h0 : 0 ≤ x0) (h1 : y0 ≤ x0) (h2 : -x0 ≤ y0) : ∀ i : Nat, Ax i (vs x0 y0 i).1 (vs x0 y0 i).2.1 := by
  intro i
  induction i with
  | zero => simp [Ax, vs]; omega
  | succ i ih =>
    obtain ⟨k0, k1, k2⟩ := ih
    have a := ax_plain (2 ^ i) i _ _ (Int.pow_pos (by decide)) (by omega) k0 k1 k2
    unfold Ax
    rw [vs_succ, Int.pow_succ, show ((i + 1 : Nat) : Int) = i + 1 by omega]
    by_cases c : 0 ≤ (vs x0 y0 i).2.1
    · rw [if_pos c]
      exact a.1 c
    · rw [if_neg c]
      exact a.2 (by omega)

/-- What the run to the axis shows: the point, but for its length, is the axis turned by what was used up. -/
theorem vs_end {S : Int} {C Z : Int → Int} (t : Turn S C Z) {x0 y0 M : Int} (hM : nm x0 y0 M) (h0 : 0 ≤ x0) (h1 : y0 ≤ x0) (h2 : -x0 ≤ y0) :
    nm (1810632051964 * (S * x0) - 1099511627776 * ((vs x0 y0 26).1 * C (vs x0 y0 26).2.2)) (1810632051964 * (S * y0) - 1099511627776 * ((vs x0 y0 26).1 * Z (vs x0 y0 26).2.2))
      (S * (476 * M + 47008012629411 + 32768 * (vs x0 y0 26).1 + 28587302322176)) := by
  have a := vs_ax x0 y0 h0 h1 h2 26
  have k := vs_inv t hM 26 (by decide)
  have z := vs_z x0 y0 26 (by decide)
  have zz := st_bd 26 (by decide)
  have p := t.rot.pos
  unfold Ax at a
  unfold Inv at k
  rw [t.rot.negC, t.rot.negZ, show H 26 = 1810632051964 from rfl, show A 26 = 476 from rfl, show B 26 = 47008012629411 from rfl] at k
  rw [show (2 : Int) ^ 26 = 67108864 from rfl] at a
  generalize (vs x0 y0 26).2.2 = n at *
  generalize (vs x0 y0 26).1 = X at *
  generalize (vs x0 y0 26).2.1 = Y at *
  have u := nm_unit t.rot n (by omega) (by omega)
  have un := t.rot.unit n (by omega) (by omega)
  generalize C n = c at *
  generalize Z n = s at *
  -- the other coordinate
  have ky : nm 0 (67108864 * Y) (2 * X + 26 * 67108864) := ⟨by omega, by
    have := sq_abs (x := 67108864 * Y) (y := 2 * X + 26 * 67108864) (by omega) (by omega)
    omega⟩
  have k2 := nm_mul k u
  have k3 := nm_mul ky u
  have hk : nm (1810632051964 * (S * x0) - 1099511627776 * (X * c - Y * s)) (1810632051964 * (S * y0) - 1099511627776 * (X * s + Y * c)) (S * (476 * M + 47008012629411)) := by
    refine nm_cancel p (nm_congr (nm_neg k2) ?_ ?_ ?_)
    · have e : 1810632051964 * x0 * (c * c + s * s) = 1810632051964 * x0 * (S * S) := by rw [un]
      clear k k2 k3 ky un u hM
      generalize (1810632051964 : Int) = h at *
      generalize (1099511627776 : Int) = q at *
      simp only [Int.mul_neg, Int.neg_mul, Int.mul_add, Int.add_mul, Int.sub_mul, Int.mul_sub, Int.mul_assoc, Int.mul_comm, Int.mul_left_comm] at e ⊢
      omega
    · have e : 1810632051964 * y0 * (c * c + s * s) = 1810632051964 * y0 * (S * S) := by rw [un]
      clear k k2 k3 ky un u hM
      generalize (1810632051964 : Int) = h at *
      generalize (1099511627776 : Int) = q at *
      simp only [Int.mul_neg, Int.neg_mul, Int.mul_add, Int.add_mul, Int.sub_mul, Int.mul_sub, Int.mul_assoc, Int.mul_comm, Int.mul_left_comm] at e ⊢
      omega
    · exact Int.mul_comm _ _
  have k4 := nm_add hk (nm_scale (show (0 : Int) ≤ 16384 by decide) k3)
  refine nm_mono (nm_congr k4 ?_ ?_ rfl) ?_
  · rw [Int.mul_assoc 67108864 Y s]; generalize Y * s = ys; generalize X * c = xc; generalize S * x0 = sx; omega
  · rw [Int.mul_assoc 67108864 Y c]; generalize Y * c = ys; generalize X * s = xc; generalize S * y0 = sx; omega
  · have e1 : (2 * X + 26 * 67108864) * S = 2 * (S * X) + 26 * 67108864 * S := by rw [Int.add_mul, Int.mul_assoc, Int.mul_comm X S]
    have e2 : S * (476 * M + 47008012629411 + 32768 * X + 28587302322176) = S * (476 * M + 47008012629411) + 32768 * (S * X) + S * 28587302322176 := by
      rw [Int.mul_add, Int.mul_add, Int.mul_left_comm S 32768 X]
    rw [e1, e2]
    omega

end Go.Proofs.YtkkgjcjjjbikfaaDoor.Cm
