
/- Plain: a turn by 10^-9 degrees, and the table of the angles whose tangents are powers of 1/2, held against it. -/
import Derived.Test.YtkkgjcjjjbikfaaDoorCmB
set_option linter.unusedVariables false
set_option linter.unusedSimpArgs false
namespace Go.Proofs.YtkkgjcjjjbikfaaDoor.Cm

/-- The angles, in 10^-9 degrees. -/
def tabT : List Int := [45000000000, 26565051177, 14036243468, 7125016349, 3576334375, 1789910608, 895173710, 447614171, 223810500, 111905677, 55952892, 27976453, 13988227, 6994114, 3497057, 1748528, 874264, 437132, 218566, 109283, 54642, 27321, 13660, 6830, 3415, 1708]
def T (i : Nat) : Int := tabT.getD i 0
/-- How much i steps stretch a point, in 2^-40. -/
def tabH : List Int := [1099511627776, 1554944255988, 1738480528806, 1791984712086, 1805930328731, 1809454098577, 1810337405488, 1810558380454, 1810613633468, 1810627447301, 1810630900795, 1810631764171, 1810631980015, 1810632033977, 1810632047467, 1810632050839, 1810632051682, 1810632051893, 1810632051946, 1810632051959, 1810632051962, 1810632051963, 1810632051963, 1810632051964, 1810632051964, 1810632051964, 1810632051964]
def H (i : Nat) : Int := tabH.getD i 0
/-- The scale of the approximations, 2^100. -/
def PP : Int := 1267650600228229401496703205376
def one : Int × Int × Int := (1267650600228229401496510131148, 22124676738864985353, 2)

/-- What the numbers of step i show. -/
def okAt (i : Nat) : Bool :=
  let x := apx PP one 37 (T i).toNat
  let p : Int := 2 ^ i
  let a := p * H i * PP - p * H (i + 1) * x.1
  let b := H i * PP - p * H (i + 1) * x.2.1
  let e := p * 16 * PP - p * H (i + 1) * x.2.2
  decide (0 ≤ e) && decide (a * a + b * b ≤ e * e) && decide (0 ≤ T i) && decide (T i ≤ 45000000000) && decide (0 ≤ H (i + 1))

theorem ok_all : (List.range 26).all okAt = true := by decide +kernel

theorem ok_quarter : (let x := apx PP one 37 90000000000
    let a := 18446744073709551616 * x.1
    let b := 18446744073709551616 * (x.2.1 - PP)
    let e := 16 * PP - 18446744073709551616 * x.2.2
    decide (0 ≤ e) && decide (a * a + b * b ≤ e * e)) = true := by decide +kernel

theorem ok_one : (let a := 18446744073709551616 * (one.1 - PP)
    let b := 18446744073709551616 * one.2.1
    let e := 321956421 * PP - 18446744073709551616 * one.2.2
    decide (0 ≤ e) && decide (a * a + b * b ≤ e * e)) = true := by decide +kernel

/-- A turn by 10^-9 degrees. -/
structure Turn (S : Int) (C Z : Int → Int) : Prop where
  rot : Rot S C Z
  step : nm (18446744073709551616 * (C 1 - S)) (18446744073709551616 * Z 1) (321956421 * S)
  quarter : nm (18446744073709551616 * C 90000000000) (18446744073709551616 * (Z 90000000000 - S)) (16 * S)
  at_ : ∀ i : Nat, i < 26 → nm (2 ^ i * H i * S - 2 ^ i * H (i + 1) * C (T i)) (H i * S - 2 ^ i * H (i + 1) * Z (T i)) (2 ^ i * 16 * S)

theorem bd_T (i : Nat) (h : i < 26) : 0 ≤ T i ∧ T i ≤ 45000000000 := by
  have := List.all_eq_true.1 ok_all i (List.mem_range.2 h)
  simp only [okAt, Bool.and_eq_true, decide_eq_true_eq] at this
  exact ⟨this.1.1.2, this.1.2⟩

/-- From a number to what it stands for. -/
theorem from_ap {P S L a b A B x y e E : Int} (hP : 0 < P) (hS : 0 < S) (hL : 0 ≤ L) (he : 0 ≤ e) (h : nm (P * x - S * a) (P * y - S * b) (S * e))
    (h0 : 0 ≤ E * P - L * e) (hq : (A * P - L * a) * (A * P - L * a) + (B * P - L * b) * (B * P - L * b) ≤ (E * P - L * e) * (E * P - L * e)) :
    nm (A * S - L * x) (B * S - L * y) (E * S) := by
  have k1 : nm (A * P - L * a) (B * P - L * b) (E * P - L * e) := ⟨h0, hq⟩
  have k2 := nm_sub (nm_scale (Int.le_of_lt hS) k1) (nm_scale hL h)
  refine nm_cancel hP (nm_congr k2 ?_ ?_ ?_)
  all_goals
    simp only [Int.mul_add, Int.add_mul, Int.sub_mul, Int.mul_sub, Int.mul_assoc, Int.mul_comm, Int.mul_left_comm]
    omega

theorem turn_of_rot {S : Int} {C Z : Int → Int} (h : Rot S C Z) (h1 : nm (PP * C 1 - S * one.1) (PP * Z 1 - S * one.2.1) (S * one.2.2)) : Turn S C Z := by
  have hP : 0 < PP := by decide
  have A1 : Ap PP S C Z 1 one := ⟨by decide, h1⟩
  refine ⟨h, ?_, ?_, ?_⟩
  · have k := ok_one
    simp only [Bool.and_eq_true, decide_eq_true_eq] at k
    have := nm_neg (from_ap (A := 18446744073709551616) (B := 0) (L := 18446744073709551616) (E := 321956421) hP h.pos (by decide) A1.1 h1 k.1 (by
      have e := k.2
      rw [← Int.neg_mul_neg (18446744073709551616 * (one.1 - PP)), ← Int.neg_mul_neg (18446744073709551616 * one.2.1)] at e
      rwa [show 18446744073709551616 * PP - 18446744073709551616 * one.1 = -(18446744073709551616 * (one.1 - PP)) by omega, show 0 * PP - 18446744073709551616 * one.2.1 = -(18446744073709551616 * one.2.1) by omega]))
    exact nm_congr this (by omega) (by omega) rfl
  · have k := ok_quarter
    simp only [Bool.and_eq_true, decide_eq_true_eq] at k
    have a := ap_apx h hP A1 37 90000000000 (by decide) (by decide)
    rw [show ((90000000000 : Nat) : Int) = 90000000000 from rfl] at a
    generalize apx PP one 37 90000000000 = x at *
    have := nm_neg (from_ap (A := 0) (B := 18446744073709551616) (L := 18446744073709551616) (E := 16) hP h.pos (by decide) a.1 a.2 k.1 (by
      have e := k.2
      rw [← Int.neg_mul_neg (18446744073709551616 * x.1), ← Int.neg_mul_neg (18446744073709551616 * (x.2.1 - PP))] at e
      rwa [show 18446744073709551616 * PP - 18446744073709551616 * x.2.1 = -(18446744073709551616 * (x.2.1 - PP)) by omega, show 0 * PP - 18446744073709551616 * x.1 = -(18446744073709551616 * x.1) by omega]))
    exact nm_congr this (by omega) (by omega) rfl
  · intro i hi
    have k := List.all_eq_true.1 ok_all i (List.mem_range.2 hi)
    have hT := bd_T i hi
    have pp : (0 : Int) ≤ 2 ^ i := Int.le_of_lt (Int.pow_pos (by decide))
    simp only [okAt, Bool.and_eq_true, decide_eq_true_eq] at k
    have a := ap_apx h hP A1 37 (T i).toNat (by omega) (by omega)
    rw [Int.toNat_of_nonneg hT.1] at a
    generalize apx PP one 37 (T i).toNat = x at *
    exact from_ap hP h.pos (Int.mul_nonneg pp k.2) a.1 a.2 k.1.1.1.1 k.1.1.1.2

/-- There is such a turn. -/
theorem exists_turn : ∃ (S : Int) (C Z : Int → Int), Turn S C Z := by
  obtain ⟨M, hM, hM1⟩ : ∃ M : Nat, 100000000000000 ≤ M ∧ 1 ≤ M := ⟨_, Nat.le_refl _, by decide⟩
  obtain ⟨w, hw⟩ : ∃ w : Cx, w = ⟨1298074214633706907132624082305024, 11327834490298872501158⟩ := ⟨_, rfl⟩
  have hr : 0 < w.re := by rw [hw]; decide
  have h := rot_of w hr M hM
  refine ⟨_, _, _, turn_of_rot h ?_⟩
  have hD := dd_pos w hr
  -- one unit is the square of the number
  have e : U w M 1 = sm ((w.re * w.re + w.im * w.im) ^ (M - 1)) (mul w w) := by
    have e1 : pw w ((M : Int) + 1).toNat = mul (pw w (M - 1)) (mul w w) := by
      rw [show ((M : Int) + 1).toNat = M - 1 + 2 by omega, pw_add]
      congr 1
      simp only [pw, one_mul]
    have e2 : pw w ((M : Int) - 1).toNat = pw w (M - 1) := by rw [show ((M : Int) - 1).toNat = M - 1 by omega]
    unfold U
    rw [e1, e2, mul_comm (pw w (M - 1)), mul_assoc, pw_cj, mul_comm, real_mul]
  have eS : (w.re * w.re + w.im * w.im) ^ M = (w.re * w.re + w.im * w.im) ^ (M - 1) * (w.re * w.re + w.im * w.im) := by
    have k := Int.pow_succ (w.re * w.re + w.im * w.im) (M - 1)
    rwa [show (M - 1).succ = M by omega] at k
  have p0 : 0 ≤ (w.re * w.re + w.im * w.im) ^ (M - 1) := Int.le_of_lt (Int.pow_pos hD)
  show nm (PP * (U w M 1).re - _) (PP * (U w M 1).im - _) _
  rw [e, eS]
  generalize (w.re * w.re + w.im * w.im) ^ (M - 1) = R at *
  have fin : nm (PP * (w.re * w.re - w.im * w.im) - (w.re * w.re + w.im * w.im) * one.1) (PP * (w.re * w.im + w.im * w.re) - (w.re * w.re + w.im * w.im) * one.2.1) ((w.re * w.re + w.im * w.im) * one.2.2) := by
    rw [hw]
    unfold nm
    decide +kernel
  refine nm_congr (nm_scale p0 fin) ?_ ?_ ?_
  all_goals
    simp only [sm, mul, Int.mul_add, Int.add_mul, Int.sub_mul, Int.mul_sub, Int.mul_assoc, Int.mul_comm, Int.mul_left_comm]
  all_goals omega

end Go.Proofs.YtkkgjcjjjbikfaaDoor.Cm
