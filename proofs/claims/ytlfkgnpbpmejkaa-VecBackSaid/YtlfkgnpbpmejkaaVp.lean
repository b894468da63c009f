
/- Plain words of layer 4. -/
import Derived.Test.YtlfkgnpbpmejkaaCore
import Derived.Lib.Hide
import Derived.StillTailTactics
import Derived.Outline
import Derived.BigRegion
import Derived.RegionTactic
set_option linter.unusedVariables false
set_option linter.unusedSimpArgs false
namespace Go.Proofs.Ytlfkgnpbpmejkaa
open Go.RowKit

/-- A coordinate. -/
def crd (n : Int) : Bool := decide (-1048576 ≤ n) && decide (n ≤ 1048576)
def wth (x y z : Int) : Bool := crd x && (crd y && crd z)
/-- The position in a plane, and the height. -/
def fu (p x y z : Int) : Int := if p = 17 then x else if p = 18 then z else if p = 19 then y else 0
def fw (p x y z : Int) : Int := if p = 17 then y else if p = 18 then x else if p = 19 then z else 0
def fh (p x y z : Int) : Int := if p = 17 then z else if p = 18 then y else if p = 19 then x else 0
def pin (p : Int) : Bool := decide (p = 17) || (decide (p = 18) || decide (p = 19))
/-- The vector over a position in a plane. -/
def sx (p u v h : Int) : Int := if p = 17 then u else if p = 18 then v else if p = 19 then h else 0
def sy (p u v h : Int) : Int := if p = 17 then v else if p = 18 then h else if p = 19 then u else 0
def sz (p u v h : Int) : Int := if p = 17 then h else if p = 18 then u else if p = 19 then v else 0
/-- A small number. -/
def sm (n : Int) : Int := -4194304 + n % 8388609

theorem sm_bd (n : Int) : -4194304 ≤ sm n ∧ sm n ≤ 4194304 := by unfold sm; omega
theorem mul_bd {a b L : Int} (l0 : 0 ≤ L) (a1 : -L ≤ a) (a2 : a ≤ L) (b1 : -L ≤ b) (b2 : b ≤ L) : -(L * L) ≤ a * b ∧ a * b ≤ L * L := by
  have key : ∀ x y : Int, x ≤ L → 0 ≤ y → y ≤ L → -L ≤ x → -(L * L) ≤ x * y ∧ x * y ≤ L * L := by
    intro x y hx y0 hy hx'
    have m1 := Int.mul_le_mul_of_nonneg_right hx y0
    have m2 := Int.mul_le_mul_of_nonneg_left hy l0
    have m3 := Int.mul_le_mul_of_nonneg_right hx' y0
    rw [Int.neg_mul] at m3
    omega
  by_cases c : 0 ≤ b
  · exact key a b a2 c b2 a1
  · have := key a (-b) a2 (by omega) (by omega) a1
    rw [Int.mul_neg] at this
    omega
theorem sq_bd {a b : Int} (a1 : -4194304 ≤ a) (a2 : a ≤ 4194304) (b1 : -4194304 ≤ b) (b2 : b ≤ 4194304) : -17592186044416 ≤ a * b ∧ a * b ≤ 17592186044416 := mul_bd (L := 4194304) (by decide) a1 a2 b1 b2

end Go.Proofs.Ytlfkgnpbpmejkaa
