
/- The walks of the specification: characters and names. -/
import Derived.Test.YtkfipjlknfinpaaDoorLX
import Derived.Test.YtkfipjlknfinpaaDoorKept
import Derived.Outline
set_option linter.unusedVariables false
set_option linter.unusedSimpArgs false
namespace Go.Proofs.YtkfipjlknfinpaaDoor
open Go.RowKit

/-- The names as a list of the call's own. -/
def NamesAt (w : World) (b : Nat) : Prop := ∀ j, j < 24 → w.cell? ⟨b, j, none⟩ = some (.string (nb j))

theorem namesAt_new (w : World) : NamesAt (w.alloc (.cells nmA 9)) w.heap.size := fun j hj => by
  rw [(Bx.new w nmA 9).cell j]
  unfold nmA; rw [List.getElem?_toArray]; exact nmA_get j hj

end Go.Proofs.YtkfipjlknfinpaaDoor
