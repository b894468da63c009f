
/- The walk of mul of the specification of layer 1: the school method. -/
import Derived.Test.YtlinfdgmebogbaaDoorRefC
set_option linter.unusedVariables false
set_option linter.unusedSimpArgs false
namespace Go.Proofs.YtlinfdgmebogbaaDoor
open Go.RowKit

/-- At the head of the outer round i. -/
def MulK (A B : List Int) (n i : Nat) (O : List Int) : Prop :=
  O.length = n ∧ Dg.Dig O ∧ Dg.val O = Dg.val (A.take i) * Dg.val B ∧ ∀ j, i + B.length ≤ j → O.getD j 0 = 0

/-- At the head of the inner round k, with the carry c. -/
def InK (A B : List Int) (n i k : Nat) (c : Int) (O : List Int) : Prop :=
  O.length = n ∧ Dg.Dig O ∧ Dg.val O + 65536 ^ (i + k) * c = Dg.val (A.take i) * Dg.val B + 65536 ^ i * (A.getD i 0 * Dg.val (B.take k)) ∧ ∀ j, i + B.length ≤ j → O.getD j 0 = 0

theorem cells_made (n : Nat) : (madeCells #[Value.int .u64 0] n).toList = cells (List.replicate n 0) := by
  rw [toList_madeCells_one]
  simp [cells]

theorem mul_start (A B : List Int) (n : Nat) : MulK A B n 0 (List.replicate n 0) :=
  ⟨by simp, Dg.dig_replicate n, by rw [Dg.val_replicate]; simp [Dg.val], fun j _ => by
    rw [List.getD_eq_getElem?_getD, List.getElem?_replicate]; split <;> rfl⟩

theorem in_start {A B : List Int} {n i : Nat} {O : List Int} (h : MulK A B n i O) : InK A B n i 0 0 O := by
  obtain ⟨h1, h2, h3, h4⟩ := h
  exact ⟨h1, h2, by rw [h3]; simp [Dg.val], h4⟩

theorem in_step {A B : List Int} {n i k : Nat} {c : Int} {O : List Int} (h : InK A B n i k c O) (hk : k < B.length) (hik : i + k < O.length) (v : Int) (hv : v = O.getD (i + k) 0 + A.getD i 0 * B.getD k 0 + c) :
    InK A B n i (k + 1) (v / 65536) (O.set (i + k) (v % 65536)) := by
  obtain ⟨h1, h2, h3, h4⟩ := h
  refine ⟨by rw [List.length_set]; exact h1, Dg.dig_set h2 _ _ ⟨by omega, by omega⟩, Dg.mul_digit O B i k (A.getD i 0) c _ hik h3 v hv, fun j hj => ?_⟩
  rw [Dg.get_set _ _ _ _ hik, if_neg (by omega)]
  exact h4 j hj

theorem mul_step {A B : List Int} {n i lb : Nat} {c : Int} {O : List Int} (h : InK A B n i lb c O) (hl : B.length = lb) (hi : i + lb < O.length) (hc : 0 ≤ c ∧ c ≤ 65535) (z : O.getD (i + lb) 0 = 0) :
    MulK A B n (i + 1) (O.set (i + lb) c) := by
  obtain ⟨h1, h2, h3, h4⟩ := h
  subst hl
  have r := Dg.mul_row O A B i c hi h3 z
  rw [show (0 : Int) + c = c from by omega] at r
  refine ⟨by rw [List.length_set]; exact h1, Dg.dig_set h2 _ _ hc, r, fun j hj => ?_⟩
  rw [Dg.get_set _ _ _ _ hi, if_neg (by omega)]
  exact h4 j (by omega)

end Go.Proofs.YtlinfdgmebogbaaDoor
