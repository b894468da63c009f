
/- The walk of wide.Over. -/
import Derived.Test.YtijakijjeoaikaaWalkG
set_option linter.unusedVariables false
set_option linter.unusedSimpArgs false
namespace Go.Proofs.Ytijakijjeoaikaa
open Go.RowKit

/-- The sign of a product. -/
def sg (a b : Int) : Bool := decide (a < 0) != decide (b < 0)
/-- The square of a product of sizes. -/
def psq (a b : Int) : Int := Mth.mag a * Mth.mag b * (Mth.mag a * Mth.mag b)
def OvBad (a b n : Int) : Prop := 2147483648 < Mth.mag a ∨ 2147483648 < Mth.mag b ∨ n < 1 ∨ 4611686018427387904 < n
instance (a b n : Int) : Decidable (OvBad a b n) := by unfold OvBad; infer_instance
def ovv (a b n m : Int) : Int := if OvBad a b n then 0 else Mth.rv m (sg a b) (rq (psq a b) n) (rr (psq a b) n)
def ovok (a b n m : Int) : Bool := if OvBad a b n then false else Mth.rok m (sg a b) (rq (psq a b) n) (rr (psq a b) n)

end Go.Proofs.Ytijakijjeoaikaa
