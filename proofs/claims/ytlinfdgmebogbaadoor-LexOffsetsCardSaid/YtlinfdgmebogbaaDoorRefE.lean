
/- The walk of add of the specification of layer 1. -/
import Derived.Test.YtlinfdgmebogbaaDoorRefC
set_option linter.unusedVariables false
set_option linter.unusedSimpArgs false
namespace Go.Proofs.YtlinfdgmebogbaaDoor
open Go.RowKit

/-- At the head of round k, with the carry c. -/
def AddK (A B : List Int) (k : Nat) (c : Int) (D : List Int) : Prop :=
  D.length = k ∧ Dg.Dig D ∧ 0 ≤ c ∧ c ≤ 1 ∧ Dg.val D + 65536 ^ k * c = Dg.val (A.take k) + Dg.val (B.take k)

theorem get_out {A : List Int} {k : Nat} (h : A.length ≤ k) : A.getD k 0 = 0 := by
  rw [List.getD_eq_getElem?_getD, List.getElem?_eq_none h]; rfl

theorem add_step {A B : List Int} {k : Nat} {c : Int} {D : List Int} (h : AddK A B k c D) (X Y : Int) (hX : A.getD k 0 = X) (hY : B.getD k 0 = Y) :
    0 ≤ X → X ≤ 65535 → 0 ≤ Y → Y ≤ 65535 → AddK A B (k + 1) ((c + X + Y) / 65536) (D ++ [(c + X + Y) % 65536]) := by
  intro x0 x1 y0 y1
  obtain ⟨h1, h2, h3, h4, h5⟩ := h
  refine ⟨by simp [h1], Dg.dig_append.2 ⟨h2, Dg.dig_cons.2 ⟨⟨by omega, by omega⟩, Dg.dig_nil⟩⟩, by omega, by omega, ?_⟩
  rw [Dg.val_append, h1, Dg.val, Dg.val]
  have s := Dg.add_digit A B k (Dg.val D) c h5 (c + X + Y) (by rw [hX, hY])
  rw [Int.mul_zero, Int.add_zero]
  exact s

end Go.Proofs.YtlinfdgmebogbaaDoor
