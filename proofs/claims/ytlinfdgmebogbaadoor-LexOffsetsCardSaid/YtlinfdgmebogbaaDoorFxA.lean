
/- The walks of package fixed on numbers: Valid to Length. -/
import Derived.Test.YtlinfdgmebogbaaDoorFxQ
set_option linter.unusedVariables false
set_option linter.unusedSimpArgs false
namespace Go.Proofs.YtlinfdgmebogbaaDoor
open Go.RowKit

theorem ret_ii {a b c d : Int} (h : a = b) (g : c = d) : Ending.returned (.tuple #[.int .i64 a, .int .i64 c]) = .returned (.tuple #[.int .i64 b, .int .i64 d]) := by rw [h, g]
theorem ret_bl {a b : Bool} (h : a = b) : Ending.returned (.bool a) = .returned (.bool b) := by rw [h]

theorem dve_cases (a b : Int) : dve a b = 0 ∧ vld a = true ∧ vld b = true ∧ b ≠ 0 ∨ dve a b = 4 ∧ vld a = true ∧ vld b = true ∧ b = 0 ∨ dve a b = 1 ∧ (vld a = false ∨ vld b = false) := by
  unfold dve both
  cases ha : vld a
  · exact .inr (.inr ⟨rfl, .inl rfl⟩)
  · cases hb : vld b
    · exact .inr (.inr ⟨rfl, .inr rfl⟩)
    · by_cases z : b = 0
      · exact .inr (.inl ⟨by simp [z], rfl, rfl, z⟩)
      · exact .inl ⟨by simp [z], rfl, rfl, z⟩

/-- The rounded number. -/
def intv (m a : Int) : Int := if vld a = true then qv m a 1000000 * 1000000 else 0

/-- Whether there is such a unit. -/
def unit (u : Int) : Bool := decide (u = 20 ∨ u = 21)
end Go.Proofs.YtlinfdgmebogbaaDoor
