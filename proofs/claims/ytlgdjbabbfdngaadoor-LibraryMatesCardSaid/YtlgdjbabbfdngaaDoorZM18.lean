import Derived.Test.YtlgdjbabbfdngaaDoorZM13
import Derived.Test.YtlgdjbabbfdngaaDoorZM17
set_option linter.unusedVariables false
set_option linter.unusedSimpArgs false
namespace Go.Proofs.YtlgdjbabbfdngaaDoor
open Go.RowKit
theorem OwnG.int {B : Nat} {w : World} {v : Value} {xs : List Int} (h : OwnG B w 3 1 v (xs.map icell)) : ∃ (a : Option Addr) (cap : Nat), v = .slice a xs.length cap ∧ cap ≤ 9223372036854775807 ∧ xs.length ≤ cap ∧ ∀ i (hi : i < xs.length), ∃ g, a = some ⟨g, 0, none⟩ ∧ g < w.heap.size ∧ w.cell? ⟨g, i, none⟩ = some (.int .i64 xs[i]) := by
  obtain ⟨a, cap, rfl, h1, h2, h3⟩ := h.form
  rw [List.length_map] at h1
  refine ⟨a, cap, by rw [List.length_map], h2, h1, fun i hi => ?_⟩
  obtain ⟨g, rfl, _, gl⟩ := h3 (by intro e; have := congrArg List.length e; simp at this; subst this; simp at hi)
  have c := h.at (g := g) rfl (i := i) (by simpa using hi) (j := 0) (u := .int .i64 xs[i]) (by rw [List.getElem_map]; rfl)
  rw [Nat.mul_one, Nat.add_zero] at c
  exact ⟨g, rfl, gl, c⟩
end Go.Proofs.YtlgdjbabbfdngaaDoor

