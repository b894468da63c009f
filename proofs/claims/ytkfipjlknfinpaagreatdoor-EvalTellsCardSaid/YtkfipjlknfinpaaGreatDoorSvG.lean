
/- Package syntax: the depth of an expression. -/
import Derived.Test.YtkfipjlknfinpaaGreatDoorSvB
set_option linter.unusedVariables false
set_option linter.unusedSimpArgs false
namespace Go.Proofs.YtkfipjlknfinpaaGreatDoor
open Go.RowKit

namespace Sy
/-- The depth by the first i Kids, no more than k + 1. -/
def dw (k : Nat) (ks : List Ex) (i : Nat) : Nat := 1 + dmx ((ks.take i).map (fun x => min (dpt x) k))
theorem dmx_app (l : List Nat) (d : Nat) : dmx (l ++ [d]) = max (dmx l) d := by
  induction l with
  | nil => simp [dmx]
  | cons e l ih => rw [List.cons_append, dmx, dmx, ih]; omega
theorem dmx_min (l : List Ex) (k : Nat) : dmx (l.map (fun x => min (dpt x) k)) = min (dmx (l.map dpt)) k := by
  induction l with
  | nil => simp [dmx]
  | cons e l ih => simp only [List.map_cons, dmx, ih]; omega
theorem dmx_take (l : List Nat) (i : Nat) : dmx (l.take i) ≤ dmx l :=
  dmx_le.2 fun d hd => dmx_le.1 (Nat.le_refl _) d (List.mem_of_mem_take hd)
theorem dw_zero (k : Nat) (ks : List Ex) : dw k ks 0 = 1 := by simp [dw, dmx]
theorem dw_pos (k : Nat) (ks : List Ex) (i : Nat) : 1 ≤ dw k ks i := by unfold dw; omega
theorem dw_le (k : Nat) (ks : List Ex) (i : Nat) : dw k ks i ≤ k + 1 := by unfold dw; rw [dmx_min]; omega
theorem dw_succ (k : Nat) (ks : List Ex) {i : Nat} (h : i < ks.length) : dw k ks (i + 1) = max (dw k ks i) (1 + min (dpt ks[i]) k) := by
  unfold dw
  rw [List.take_succ_eq_append_getElem h, List.map_append, List.map_cons, List.map_nil, dmx_app]; omega
theorem dw_full (k : Nat) (op n : Int) (ks : List Ex) : dw k ks ks.length = min (dpt (.mk op n ks)) (k + 1) := by
  unfold dw; rw [List.take_length, dmx_min, dpt_mk]; omega
theorem dw_stop (k : Nat) (op n : Int) (ks : List Ex) {i : Nat} (h : k + 1 ≤ dw k ks i) : dw k ks i = min (dpt (.mk op n ks)) (k + 1) := by
  have h1 := dw_le k ks i
  unfold dw at *
  rw [dmx_min] at *
  have h2 : dmx ((ks.take i).map dpt) ≤ dmx (ks.map dpt) := by rw [List.map_take]; exact dmx_take _ _
  rw [dpt_mk]; omega
end Sy

end Go.Proofs.YtkfipjlknfinpaaGreatDoor
