
/- The walks of the small functions of package wide: size, restOf, rootRest, round. -/
import Derived.Test.YtmfhiabajkdikaaDoorRows
import Derived.WalkKit
import Derived.BigQuiet
import Derived.Deep.QuietTactic
import Derived.Lib.Hide
import Derived.Test.YtmfhiabajkdikaaDoorMath
set_option linter.unusedVariables false
set_option linter.unusedSimpArgs false
namespace Go.Proofs.YtmfhiabajkdikaaDoor
open Go.RowKit

theorem ret_u64 {a b : Int} (h : a = b) : Ending.returned (.int .u64 a) = .returned (.int .u64 b) := by rw [h]
theorem ret_i64 {a b : Int} (h : a = b) : Ending.returned (.int .i64 a) = .returned (.int .i64 b) := by rw [h]

/-- The rest of a division that left something of its divisor. -/
def restQ (l d : Int) : Int := if l = 0 then 0 else if l < d - l then 1 else if l = d - l then 2 else 3

/-- The rest of a root whose square left over and a quotient's rest. -/
def restR (q o l n : Int) : Int := if o = 0 ∧ l = 0 then 0 else if o < q ∨ o = q ∧ 4 * l < n then 1 else if o = q ∧ 4 * l = n then 2 else 3

end Go.Proofs.YtmfhiabajkdikaaDoor
