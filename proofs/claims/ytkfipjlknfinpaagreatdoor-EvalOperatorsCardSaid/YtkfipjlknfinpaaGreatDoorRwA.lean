
/- The specification of package syntax: how many Kids an operator has. -/
import Derived.Test.YtkfipjlknfinpaaGreatDoorSvA
set_option linter.unusedVariables false
set_option linter.unusedSimpArgs false
namespace Go.Proofs.YtkfipjlknfinpaaGreatDoor
open Go.RowKit


theorem rw_kids0 {op : Int} (h : op = 0) (w : World) : Calls Tryz.prog 60 #[.int .i64 op] w fun e w' => e = .returned (.int .i64 0) ∧ w = w' := by
  subst h
  go_enter Tryz.func60, Tryz.ntmps60
  go_wp2_with fail
  go_ret
  exact ⟨rfl, rfl⟩
theorem rw_kids1 {op : Int} (h : op = 11) (w : World) : Calls Tryz.prog 60 #[.int .i64 op] w fun e w' => e = .returned (.int .i64 2) ∧ w = w' := by
  subst h
  go_enter Tryz.func60, Tryz.ntmps60
  go_wp2_with fail
  go_ret
  exact ⟨rfl, rfl⟩
theorem rw_kids2 {op : Int} (h : op = 1) (w : World) : Calls Tryz.prog 60 #[.int .i64 op] w fun e w' => e = .returned (.int .i64 1) ∧ w = w' := by
  subst h
  go_enter Tryz.func60, Tryz.ntmps60
  go_wp2_with fail
  go_ret
  exact ⟨rfl, rfl⟩
theorem rw_kids3 {op : Int} (h : op = 2) (w : World) : Calls Tryz.prog 60 #[.int .i64 op] w fun e w' => e = .returned (.int .i64 1) ∧ w = w' := by
  subst h
  go_enter Tryz.func60, Tryz.ntmps60
  go_wp2_with fail
  go_ret
  exact ⟨rfl, rfl⟩
theorem rw_kids4 {op : Int} (h : 3 ≤ op ∧ op ≤ 7) (w : World) : Calls Tryz.prog 60 #[.int .i64 op] w fun e w' => e = .returned (.int .i64 2) ∧ w = w' := by
  obtain ⟨h1, h2⟩ := h
  have b0 : (op == 0) = false := beq_eq_false_iff_ne.2 (by omega)
  go_enter Tryz.func60, Tryz.ntmps60
  go_wp2_with fail
  go_ret
  exact ⟨rfl, rfl⟩
theorem rw_kids5 {op : Int} (h : 17 ≤ op ∧ op ≤ 25) (w : World) : Calls Tryz.prog 60 #[.int .i64 op] w fun e w' => e = .returned (.int .i64 2) ∧ w = w' := by
  obtain ⟨h1, h2⟩ := h
  have b0 : (op == 0) = false := beq_eq_false_iff_ne.2 (by omega)
  have b1 : (op == 11) = false := beq_eq_false_iff_ne.2 (by omega)
  have h3 : (3 : Int) ≤ op := by omega
  have h4 : ¬ op ≤ 7 := by omega
  go_enter Tryz.func60, Tryz.ntmps60
  go_wp2_with fail
  go_ret
  exact ⟨rfl, rfl⟩
theorem rw_kids6 {op : Int} (h : 8 ≤ op ∧ op ≤ 10) (w : World) : Calls Tryz.prog 60 #[.int .i64 op] w fun e w' => e = .returned (.int .i64 1) ∧ w = w' := by
  obtain ⟨h1, h2⟩ := h
  have b0 : (op == 0) = false := beq_eq_false_iff_ne.2 (by omega)
  have b1 : (op == 11) = false := beq_eq_false_iff_ne.2 (by omega)
  have h3 : (3 : Int) ≤ op := by omega
  have h4 : ¬ op ≤ 7 := by omega
  have h5 : ¬ (17 : Int) ≤ op := by omega
  go_enter Tryz.func60, Tryz.ntmps60
  go_wp2_with fail
  go_ret
  exact ⟨rfl, rfl⟩
theorem rw_kids7 {op : Int} (h : 12 ≤ op ∧ op ≤ 16) (w : World) : Calls Tryz.prog 60 #[.int .i64 op] w fun e w' => e = .returned (.int .i64 1) ∧ w = w' := by
  obtain ⟨h1, h2⟩ := h
  have b0 : (op == 0) = false := beq_eq_false_iff_ne.2 (by omega)
  have b1 : (op == 11) = false := beq_eq_false_iff_ne.2 (by omega)
  have h3 : (3 : Int) ≤ op := by omega
  have h4 : ¬ op ≤ 7 := by omega
  have h5 : ¬ (17 : Int) ≤ op := by omega
  go_enter Tryz.func60, Tryz.ntmps60
  go_wp2_with fail
  go_ret
  exact ⟨rfl, rfl⟩
theorem rw_kids (o : Nat) (ho : o < 26) (w : World) : Calls Tryz.prog 60 #[.int .i64 (o : Int)] w fun e w' => e = .returned (.int .i64 (Sy.kds o : Nat)) ∧ w = w' := by
  rcases Sy.kds_le o ho with k | k | k
  · have := Sy.kds_0 o ho k
    rw [k]; exact rw_kids0 (by omega) w
  · rw [k]
    rcases Sy.kds_1 o ho k with h | h | h | h
    · exact rw_kids2 (by omega) w
    · exact rw_kids3 (by omega) w
    · exact rw_kids6 (by omega) w
    · exact rw_kids7 (by omega) w
  · rw [k]
    rcases Sy.kds_2 o ho k with h | h | h
    · exact rw_kids4 (by omega) w
    · exact rw_kids1 (by omega) w
    · exact rw_kids5 (by omega) w
end Go.Proofs.YtkfipjlknfinpaaGreatDoor
