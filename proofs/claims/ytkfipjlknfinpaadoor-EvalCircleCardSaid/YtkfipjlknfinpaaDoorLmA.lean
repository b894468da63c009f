
/- The walk of cncstage.Line: a line that a tape gives. -/
import Derived.Test.YtkfipjlknfinpaaDoorTape
import Derived.Test.YtkfipjlknfinpaaDoorLrA
import Derived.Maps.AppendAt
import Derived.Outline
set_option linter.unusedVariables false
set_option linter.unusedSimpArgs false
namespace Go.Proofs.YtkfipjlknfinpaaDoor
open Go.RowKit

theorem grown_drawn (w : World) (n : Nat) (row : Option Nat) : w.grownBy (w.drewN n) row := ⟨rfl, rfl, rfl, Nat.le_refl _, fun _ _ _ => rfl⟩
theorem grown_set (w : World) (b i : Nat) (u : Value) : w.grownBy (w.setCell ⟨b, i, none⟩ u) (some b) :=
  ⟨rfl, rfl, rfl, by simp [World.setCell], fun k hk hne => Below.heap_setCell w ⟨b, i, none⟩ u k (fun e => hne (by rw [e]))⟩
theorem grown_refl (w : World) (row : Option Nat) : w.grownBy w row := ⟨rfl, rfl, rfl, Nat.le_refl _, fun _ _ _ => rfl⟩
theorem Bx.grown {w w' : World} {b B : Nat} {cs : Array Value} {t : TypeId} (h : Bx w b cs t) (q : w.grownBy w' (some B)) (hb : b ≠ B) : Bx w' b cs t := (q.block b h.lt (by simpa using hb)).trans h
theorem IntsB.grown {B C : Nat} {w w' : World} {v : Value} {zs : List Int} (h : IntsB B w v zs) (q : w.grownBy w' (some C)) (hC : B ≤ C) (hw : B ≤ w.heap.size) : IntsB B w' v zs :=
  h.kept (C := B) ⟨q.os, q.tape, q.output, q.size, fun k hk => q.block k (by omega) (by simp; omega)⟩ (Nat.le_refl _)

set_option maxRecDepth 100000 in
set_option maxHeartbeats 1000000 in
theorem nextG (B : Nat) (v : Value) (zs : List Int) (k : Nat) (n : Int) (n1 : 1 ≤ n) (n2 : n ≤ 9223372036854775807) (w : World) (h : TapeAt w B v zs k) :
    Calls Tryd.prog 30 #[.pointer (some ⟨B, 0, none⟩), .int .i64 n] w fun e w' => e = .returned (.int .i64 (nxt zs k n)) ∧ TapeAt w' B v zs (adv zs k) ∧ w.grownBy w' (some B) := by
  have hB := lt_of_block h.1
  obtain ⟨h1, h2, h3⟩ := h
  obtain ⟨a, cap, rfl, l1, l2, h4⟩ := h2
  obtain ⟨c0, c1, f1⟩ := cells_of_two h1
  unfold nxt adv
  by_cases hk : k < zs.length
  · rw [if_pos hk, if_pos hk]
    rcases h4 with rfl | ⟨b, off, rfl, hb, hz⟩
    · simp at hk
    · obtain ⟨z0, z1, z2⟩ := hz k hk
      have hlt := lt_of_block h1
      have hk' : (k : Int) < zs.length := by omega
      have HZ := Lib.hid hz
      have H1 := Lib.hid h1
      have md := fun w => modW (zs.getD k 0) n z1 z2 n1 n2 w
      obtain ⟨z, ez⟩ : ∃ z, zs.getD k 0 = z := ⟨_, rfl⟩
      rw [ez] at z0 z1 z2 md
      rw [ez]
      have MD := Lib.hid md
      have bB : b ≠ B := by omega
      clear hz ez md h1
      go_enter Tryd.func30, Tryd.ntmps30
      go_wp2
      go_quiet (fail)
      go_wp2
      obtain ⟨w1, hw1⟩ : ∃ w1, w1 = (w.drewN nq).setCell { block := B, off := 1 } (Value.int IntKind.i64 (↑k + 1)) := ⟨_, rfl⟩
      rw [← hw1]
      have g1 : w1.heap[B]? = some (.cells #[.slice (some ⟨b, off, none⟩) zs.length cap, .int .i64 ((k + 1 : Nat) : Int)] 55 (0, 0)) := by
        rw [hw1]
        exact two_setCell (w := w.drewN nq) H1.out
      have q1 : w.grownBy w1 (some B) := by
        rw [hw1]
        exact (grown_drawn w nq (some B)).trans (grown_set (w.drewN nq) B 1 _)
      have p1 : w1.cell? ⟨b, off + k, none⟩ = w.cell? ⟨b, off + k, none⟩ := World.cell?_of_block (a := ⟨b, off + k, none⟩) (q1.block b (by omega) (by simp; omega))
      obtain ⟨d0, d1, _⟩ := cells_of_two g1
      have d2 : w1.cell? ⟨b, off + k, none⟩ = some (.int .i64 z) := p1.trans z0
      rw [Int.natCast_add] at d1
      have T1 : Hid (TapeAt w1 B (.slice (some ⟨b, off, none⟩) zs.length cap) zs (k + 1)) := Lib.hid ⟨g1, IntsB.grown ⟨some ⟨b, off, none⟩, cap, rfl, l1, l2, .inr ⟨b, off, rfl, hb, HZ.out⟩⟩ q1 (Nat.le_refl _) (by omega), by omega⟩
      have e1 : IntKind.i64.wrap ((k : Int) + 1 - 1) = k := (IntWalk.i64_in ((k : Int) + 1 - 1) (by omega)).trans (by omega)
      clear g1 hw1 c0 c1 f1 z0 p1
      go_quiet ((go_at_call 22; exact Calls.quiet_of_same ((MD.out _).mono fun _ _ ⟨h1, h2⟩ => ⟨h1, h2.symm⟩)))
      go_wp2
      go_ret
      exact ⟨rfl, T1.out.kept (Qw.drewN w1 _), q1.trans (grown_drawn w1 _ _)⟩
  · rw [if_neg hk, if_neg hk]
    have hk' : (zs.length : Int) ≤ k := by omega
    have H1 := Lib.hid (show TapeAt w B (.slice a zs.length cap) zs k from ⟨h1, ⟨a, cap, rfl, l1, l2, h4⟩, h3⟩)
    clear h1 h4 hk
    go_enter Tryd.func30, Tryd.ntmps30
    go_wp2
    go_quiet (fail)
    go_wp2
    go_ret
    exact ⟨rfl, H1.out.kept (Qw.drewN w nq), grown_drawn w _ _⟩

/-- The parts of lines. -/
def ptl : List (List UInt8) := [[71], [88], [49], [50, 46, 53], [46, 53], [32], [9], [35], [91], [93], [43], [45], [42], [47], [61], [73, 70], [71, 79, 84, 79], [69, 81], [78], [79], [40, 97, 32, 99, 111, 109, 109, 101, 110, 116, 41], [83, 73, 78], [65, 84, 65, 78], [87, 72, 73, 76, 69], [68, 79], [69, 78, 68], [77, 79, 68], [65, 78, 68], [49, 48], [48], [77], [80]]
def ptA : Array Value := (ptl.map fun n => .string (bs n)).toArray
theorem ptA_get (j : Nat) (hj : j < 32) : ∃ X : ByteArray, ptA[j]? = some (.string X) ∧ X.size ≤ 11 := by
  have k : ∀ j : Fin 32, (ptl.getD j.val []).length ≤ 11 := by decide
  refine ⟨bs (ptl.getD j []), ?_, by rw [bs_size]; exact k ⟨j, hj⟩⟩
  have l : ptl.length = 32 := rfl
  unfold ptA
  rw [List.getElem?_toArray, List.getElem?_map, List.getD_eq_getElem?_getD, List.getElem?_eq_getElem (by omega)]
  rfl

end Go.Proofs.YtkfipjlknfinpaaDoor
