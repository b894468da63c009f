
/- The walks of the specification's small, near, turned and table, and of the laws' near. -/
import Derived.Test.YtkkgjcjjjbikfaaDoorCoE
set_option linter.unusedVariables false
set_option linter.unusedSimpArgs false
namespace Go.Proofs.YtkkgjcjjjbikfaaDoor
open Go.RowKit

theorem cr_small (n : Int) (w : World) : Calls Tryd.prog 32 #[.int .i64 n] w fun e w' => e = .returned (.bool (!bey n 4194304)) ∧ w = w' := by
  unfold bey
  by_cases c : -4194304 ≤ n
  · have c' : decide (-4194304 ≤ n) = true := decide_eq_true c
    go_enter Tryd.func32, Tryd.ntmps32
    go_wp2
    go_ret
    refine ⟨ret_b ?_, rfl⟩
    rw [decide_eq_false (show ¬ n < -4194304 by omega)]
    by_cases d : n ≤ 4194304
    · rw [decide_eq_true d, decide_eq_false (show ¬ 4194304 < n by omega)]; rfl
    · rw [decide_eq_false d, decide_eq_true (show 4194304 < n by omega)]; rfl
  · have c' : decide (-4194304 ≤ n) = false := decide_eq_false c
    go_enter Tryd.func32, Tryd.ntmps32
    go_wp2
    go_ret
    refine ⟨ret_b ?_, rfl⟩
    first
      | rfl
      | (rw [decide_eq_true (show n < -4194304 by omega)]; rfl)

theorem cr_near (n : Int) (n1 : -9000000000000000000 ≤ n) (n2 : n ≤ 9000000000000000000) (w : World) :
    Calls Tryd.prog 33 #[.int .i64 n] w fun e w' => e = .returned (.int .i64 (rd n 1073741824)) ∧ w = w' := by
  go_enter Tryd.func33, Tryd.ntmps33
  go_wp2
  go_ret
  refine ⟨ret_n ?_, rfl⟩
  unfold rd
  first | rfl | (simp; done) | omega

theorem cr_turned (x y k : Int) (x1 : -4000000000000000000 ≤ x) (x2 : x ≤ 4000000000000000000) (y1 : -4000000000000000000 ≤ y) (y2 : y ≤ 4000000000000000000) (k0 : 0 ≤ k) (k1 : k ≤ 1000) (w : World) :
    Calls Tryd.prog 29 #[.int .i64 x, .int .i64 y, .int .i64 k] w fun e w' => e = .returned (.tuple #[.int .i64 (Cm.qt k.toNat (x, y)).1, .int .i64 (Cm.qt k.toNat (x, y)).2]) ∧ w = w' := by
  have QB := Lib.hid (fun j => qt_bd (x, y) j x1 x2 y1 y2)
  clear x1 x2 y1 y2
  go_enter Tryd.func29, Tryd.ntmps29
  go_wp2
  go_loop [0, 1, 8] (fun a b i => ∃ j : Nat, j ≤ k.toNat ∧ i = .int .i64 j ∧ a = .int .i64 (Cm.qt j (x, y)).1 ∧ b = .int .i64 (Cm.qt j (x, y)).2) (fun _ _ i => k.toNat - (intOf i).toNat)
  case atStart => exact ⟨0, by omega, rfl, rfl, rfl⟩
  case round =>
    obtain ⟨j, hj, rfl, rfl, rfl⟩ := hrel
    obtain ⟨a1, a2, b1, b2⟩ := QB.out j
    by_cases c : j < k.toNat
    · have s1 : (Cm.qt (j + 1) (x, y)).1 = -(Cm.qt j (x, y)).2 := rfl
      have s2 : (Cm.qt (j + 1) (x, y)).2 = (Cm.qt j (x, y)).1 := rfl
      have S1 := Lib.hid s1
      have S2 := Lib.hid s2
      clear s1 s2
      generalize (Cm.qt j (x, y)).1 = X at *
      generalize (Cm.qt j (x, y)).2 = Y at *
      have lt : (j : Int) < k := by omega
      go_wp2
      go_round
      case rel => exact ⟨j + 1, by omega, by go_num, by rw [S1.out], by rw [S2.out]⟩
      case measure => simp [intOf]; omega
    · obtain rfl : j = k.toNat := by omega
      have ge : ¬ ((k.toNat : Nat) : Int) < k := by omega
      go_wp2
      go_ret2
      exact ⟨rfl, rfl⟩

/-- The specification's table in block b. -/
def TabR (w : World) (b : Nat) : Prop := b < w.heap.size ∧ ∀ i : Nat, i < 26 → w.cell? ⟨b, i, none⟩ = some (.int .i64 (Cm.T i))
theorem TabR.kept {w w' : World} {b : Nat} (h : TabR w b) (q : Qw w w') : TabR w' b := ⟨Nat.lt_of_lt_of_le h.1 q.size, fun i hi => by
  have := q.cell (p := ⟨b, i, none⟩) h.1
  rw [this]; exact h.2 i hi⟩

theorem tab_cells (i : Nat) (hi : i < 26) : (Cm.tabT.map fun z => Value.int .i64 z).toArray[i]? = some (.int .i64 (Cm.T i)) := by
  have h : i < Cm.tabT.length := hi
  simp [Cm.T, List.getD, h]
theorem tab_cell (w : World) (i : Nat) (hi : i < 26) : (w.alloc (.cells (Cm.tabT.map fun z => Value.int .i64 z).toArray 3)).cell? ⟨w.heap.size, i, none⟩ = some (.int .i64 (Cm.T i)) := by
  have h := heap_alloc_new w (.cells (Cm.tabT.map fun z => Value.int .i64 z).toArray 3)
  have t := tab_cells i hi
  generalize (Cm.tabT.map fun z => Value.int .i64 z).toArray = cs at *
  unfold World.cell?
  simp only [h]
  exact t

theorem cr_table (w : World) : Calls Tryd.prog 28 #[] w fun e w' => e = .returned (.slice (some ⟨w.heap.size, 0, none⟩) 26 26) ∧ TabR w' w.heap.size ∧ Qw w w' := by
  go_enter Tryd.func28, Tryd.ntmps28
  go_wp2
  go_ret
  refine ⟨rfl, ?_, (Below.refl _ _).alloc (Nat.le_refl _) _⟩
  exact ⟨by simp, fun i hi => tab_cell w i hi⟩

theorem cl_near (a b d : Int) (a1 : -4000000000000000000 ≤ a) (a2 : a ≤ 4000000000000000000) (b1 : -4000000000000000000 ≤ b) (b2 : b ≤ 4000000000000000000) (h1 : a - b ≤ d) (h2 : b - a ≤ d) (w : World) :
    Calls Tryd.prog 24 #[.int .i64 a, .int .i64 b, .int .i64 d] w fun e w' => e = .returned (.bool true) ∧ w = w' := by
  go_enter Tryd.func24, Tryd.ntmps24
  go_wp2
  go_ret
  exact ⟨ret_b (by first | rfl | (simp; omega)), rfl⟩

end Go.Proofs.YtkkgjcjjjbikfaaDoor
