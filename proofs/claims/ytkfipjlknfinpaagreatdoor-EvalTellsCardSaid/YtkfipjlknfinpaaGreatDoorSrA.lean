
/- The specification's Depth; light expressions. -/
import Derived.Test.YtkfipjlknfinpaaGreatDoorRwA
import Derived.Test.YtkfipjlknfinpaaGreatDoorSvG
set_option linter.unusedVariables false
set_option linter.unusedSimpArgs false
namespace Go.Proofs.YtkfipjlknfinpaaGreatDoor
open Go.RowKit

theorem ret_int5 {a b : Int} (h : a = b) : Ending.returned (.int .i64 a) = .returned (.int .i64 b) := by rw [h]
theorem all_takeL {α : Type} (ks : List α) (f : α → Bool) {i : Nat} (h : i < ks.length) : (f ks[i] = false → ks.all f = false) ∧ ((ks.take i).all f = true → f ks[i] = true → (ks.take (i + 1)).all f = true) := by
  refine ⟨fun e => ?_, fun e1 e2 => ?_⟩
  · rw [List.all_eq_false]
    exact ⟨ks[i], List.getElem_mem h, by rw [e]; decide⟩
  · rw [List.take_add_one, List.getElem?_eq_getElem h, List.all_append, e1]
    simp [e2]
namespace Sy
/-- At most three Kids each, within so many levels. -/
def lgt : Nat → Ex → Bool
  | 0, x => decide (x.ks.length = 0)
  | k + 1, x => if 3 < x.ks.length then false else x.ks.all (lgt k)
end Sy

end Go.Proofs.YtkfipjlknfinpaaGreatDoor
