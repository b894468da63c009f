
/- The walks of root, Root and Sqrt of the specification of layer 1. -/
import Derived.Test.YtijakijjeoaikaaRefG
set_option linter.unusedVariables false
set_option linter.unusedSimpArgs false
namespace Go.Proofs.Ytijakijjeoaikaa
open Go.RowKit

theorem sq_le {a b : Int} (h0 : 0 ≤ a) (h : a ≤ b) : a * a ≤ b * b := Int.mul_le_mul h h h0 (by omega)

theorem rt_test (X q : Int) (hX : 0 ≤ X) (hq : 0 ≤ q) : cmpI (q * q) X ≤ 0 ↔ q ≤ Mth.rt X := by
  have s := Mth.rt_spec X hX
  have n := Mth.rt_nonneg X
  rw [cmpI_le]
  constructor
  · intro h; exact Mth.isq_le_of hq n (by omega)
  · intro h; have := sq_le hq h; omega

theorem rest_root (X : Int) (hX : 0 ≤ X) : RR (decide (cmpI (Mth.rt X * Mth.rt X) X = 0)) (if 0 < cmpI X (Mth.rt X * (Mth.rt X + 1)) then 1 else -1) (rr X 1) := by
  have n := Mth.rt_nonneg X
  have e : Mth.rt X * (Mth.rt X + 1) = Mth.rt X * Mth.rt X + Mth.rt X := by rw [Int.mul_add, Int.mul_one]
  rw [rr_one X hX, e]
  generalize Mth.rt X * Mth.rt X = S at *
  generalize Mth.rt X = r at *
  have c1 := cmpI_zero S X
  have c2 := cmpI_gt X (S + r)
  unfold RR
  by_cases z : X = S
  · left
    exact ⟨decide_eq_true (c1.2 z.symm), by rw [if_neg (fun h => by have := c2.1 h; omega)]; decide, if_pos z⟩
  · right
    refine ⟨decide_eq_false (fun h => z (c1.1 h).symm), ?_⟩
    rw [if_neg z]
    by_cases l : X ≤ S + r
    · left; exact ⟨by rw [if_neg (fun h => by have := c2.1 h; omega)]; decide, if_pos l⟩
    · right; right; exact ⟨by rw [if_pos (c2.2 (by omega))]; decide, if_neg l⟩

end Go.Proofs.Ytijakijjeoaikaa
