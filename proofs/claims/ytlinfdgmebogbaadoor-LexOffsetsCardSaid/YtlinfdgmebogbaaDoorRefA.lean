
/- The walks of the small functions of the specification of layer 1: mag, right, sign, rounded. -/
import Derived.Test.YtlinfdgmebogbaaDoorCore
set_option linter.unusedVariables false
set_option linter.unusedSimpArgs false
namespace Go.Proofs.YtlinfdgmebogbaaDoor
open Go.RowKit

/-- Whether there is such a mode. -/
def okm (m : Int) : Bool := decide (m = 0 ∨ m = 1 ∨ m = 2)

/-- The sign of a product. -/
def sgnI (a b : Int) : Int := if a = 0 ∨ b = 0 then 0 else if decide (a < 0) = decide (b < 0) then 1 else -1

/-- What 'exact' and 'half' say of a rest. -/
def RR (exact : Bool) (half r : Int) : Prop := exact = true ∧ half < 0 ∧ r = 0 ∨ exact = false ∧ (half < 0 ∧ r = 1 ∨ half = 0 ∧ r = 2 ∨ 0 < half ∧ r = 3)

end Go.Proofs.YtlinfdgmebogbaaDoor
