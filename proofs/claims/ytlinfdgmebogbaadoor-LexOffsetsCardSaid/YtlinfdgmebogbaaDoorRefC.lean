
/- The walk of cmp of the specification of layer 1. -/
import Derived.Test.YtlinfdgmebogbaaDoorRefB
import Derived.Test.YtlinfdgmebogbaaDoorPlain
set_option linter.unusedVariables false
set_option linter.unusedSimpArgs false
namespace Go.Proofs.YtlinfdgmebogbaaDoor
open Go.RowKit

/-- What is known at the head of a round: above place k the digits are the same. -/
def CmpK (A B : List Int) (n : Nat) (k : Int) : Prop := -1 ≤ k ∧ k < n ∧ A.drop (k + 1).toNat = B.drop (k + 1).toNat

end Go.Proofs.YtlinfdgmebogbaaDoor
