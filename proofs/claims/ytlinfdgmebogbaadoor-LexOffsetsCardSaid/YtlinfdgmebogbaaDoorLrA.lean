
/- The walks of the specification: characters and names. -/
import Derived.Test.YtlinfdgmebogbaaDoorLxA
import Derived.Test.YtlinfdgmebogbaaDoorKept
import Derived.Outline
set_option linter.unusedVariables false
set_option linter.unusedSimpArgs false
namespace Go.Proofs.YtlinfdgmebogbaaDoor
open Go.RowKit

theorem lrPart (c : Int) (w : World) : Calls Tryd.prog 27 #[.int .u8 c] w fun e w' => e = .returned (.bool (chI c)) ∧ w = w' := by
  unfold chI
  by_cases h1 : c < 48
  · by_cases h2 : c = 46
    · subst h2
      go_enter Tryd.func27, Tryd.ntmps27
      go_wp2
      go_ret
      exact ⟨rfl, rfl⟩
    · have hb : (c == 46) = false := beq_eq_false_iff_ne.2 h2
      go_enter Tryd.func27, Tryd.ntmps27
      go_wp2
      go_ret
      exact ⟨ret_bool5 (by first | rfl | (simp; omega)), rfl⟩
  · by_cases h2 : 57 < c
    · have hb : (c == 46) = false := beq_eq_false_iff_ne.2 (by omega)
      go_enter Tryd.func27, Tryd.ntmps27
      go_wp2
      go_ret
      exact ⟨ret_bool5 (by first | rfl | (simp; omega)), rfl⟩
    · go_enter Tryd.func27, Tryd.ntmps27
      go_wp2
      go_ret
      exact ⟨ret_bool5 (by first | rfl | (simp; omega)), rfl⟩

theorem lrSign_yes (c : Int) (h : c = 43 ∨ c = 45 ∨ c = 42 ∨ c = 47 ∨ c = 61 ∨ c = 35 ∨ c = 91 ∨ c = 93) (w : World) : Calls Tryd.prog 30 #[.int .u8 c] w fun e w' => e = .returned (.bool true) ∧ w = w' := by
  rcases h with rfl | rfl | rfl | rfl | rfl | rfl | rfl | rfl
  all_goals
    go_enter Tryd.func30, Tryd.ntmps30
    go_wp2
    go_ret
    exact ⟨rfl, rfl⟩

theorem lrSign_no (c : Int) (h1 : c ≠ 43) (h2 : c ≠ 45) (h3 : c ≠ 42) (h4 : c ≠ 47) (h5 : c ≠ 61) (h6 : c ≠ 35) (h7 : c ≠ 91) (h8 : c ≠ 93) (w : World) : Calls Tryd.prog 30 #[.int .u8 c] w fun e w' => e = .returned (.bool false) ∧ w = w' := by
  have k1 : (c == 43) = false := beq_eq_false_iff_ne.2 h1
  have k2 : (c == 45) = false := beq_eq_false_iff_ne.2 h2
  have k3 : (c == 42) = false := beq_eq_false_iff_ne.2 h3
  have k4 : (c == 47) = false := beq_eq_false_iff_ne.2 h4
  have k5 : (c == 61) = false := beq_eq_false_iff_ne.2 h5
  have k6 : (c == 35) = false := beq_eq_false_iff_ne.2 h6
  have k7 : (c == 91) = false := beq_eq_false_iff_ne.2 h7
  have k8 : (c == 93) = false := beq_eq_false_iff_ne.2 h8
  clear h1 h2 h3 h4 h5 h6 h7 h8
  go_enter Tryd.func30, Tryd.ntmps30
  go_wp2
  go_ret
  exact ⟨rfl, rfl⟩

theorem lrSign (c : UInt8) (w : World) : Calls Tryd.prog 30 #[.int .u8 (c.toNat : Int)] w fun e w' => e = .returned (.bool (Lx.isg c)) ∧ w = w' := by
  have k : ∀ c : Fin 256, Lx.isg (UInt8.ofNat c.val) = decide ((c.val : Int) = 43 ∨ (c.val : Int) = 45 ∨ (c.val : Int) = 42 ∨ (c.val : Int) = 47 ∨ (c.val : Int) = 61 ∨ (c.val : Int) = 35 ∨ (c.val : Int) = 91 ∨ (c.val : Int) = 93) := by decide +kernel
  have e := k ⟨c.toNat, c.toNat_lt⟩
  rw [UInt8.ofNat_toNat] at e
  rw [e]
  by_cases h : ((c.toNat : Int) = 43 ∨ (c.toNat : Int) = 45 ∨ (c.toNat : Int) = 42 ∨ (c.toNat : Int) = 47 ∨ (c.toNat : Int) = 61 ∨ (c.toNat : Int) = 35 ∨ (c.toNat : Int) = 91 ∨ (c.toNat : Int) = 93)
  · rw [show decide _ = true from decide_eq_true h]
    exact lrSign_yes _ h w
  · rw [show decide _ = false from decide_eq_false h]
    simp only [not_or] at h
    obtain ⟨h1, h2, h3, h4, h5, h6, h7, h8⟩ := h
    exact lrSign_no _ h1 h2 h3 h4 h5 h6 h7 h8 w

/-- The names as a list of the call's own. -/
def NamesAt (w : World) (b : Nat) : Prop := ∀ j, j < 24 → w.cell? ⟨b, j, none⟩ = some (.string (nb j))

theorem namesAt_new (w : World) : NamesAt (w.alloc (.cells nmA 9)) w.heap.size := fun j hj => by
  rw [(Bx.new w nmA 9).cell j]
  unfold nmA; rw [List.getElem?_toArray]; exact nmA_get j hj

set_option maxRecDepth 100000 in
theorem lrNames (w : World) : Calls Tryd.prog 31 #[] w fun e w' => e = .returned (.slice (some ⟨w.heap.size, 0, none⟩) 24 24) ∧ (∃ t, Bx w' w.heap.size nmA t) ∧ Qw w w' := by
  go_enter Tryd.func31, Tryd.ntmps31
  go_wp2
  go_ret
  exact ⟨rfl, ⟨_, Bx.new w nmA _⟩, (Below.refl _ _).alloc (Nat.le_refl _) _⟩

end Go.Proofs.YtlinfdgmebogbaaDoor
