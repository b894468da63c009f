
/- Drawing from a tape, where only the tape's own block turns: numbers, variables. -/
import Derived.Test.YtkfipjlknfinpaaDoorSYB
import Derived.Test.YtkfipjlknfinpaaDoorLmA
set_option linter.unusedVariables false
set_option linter.unusedSimpArgs false
namespace Go.Proofs.YtkfipjlknfinpaaDoor
open Go.RowKit

/-- Block B holds a tape. -/
def TpB (w : World) (B : Nat) (v : Value) (zs : List Int) : Prop := ∃ k, TapeAt w B v zs k
theorem TpB.lt {w : World} {B : Nat} {v : Value} {zs : List Int} (h : TpB w B v zs) : B < w.heap.size := by
  obtain ⟨k, h⟩ := h; exact lt_of_block h.1
theorem TpB.kept {w w' : World} {B : Nat} {v : Value} {zs : List Int} (h : TpB w B v zs) (q : Qw w w') : TpB w' B v zs := by
  obtain ⟨k, h⟩ := h; exact ⟨k, h.kept q⟩
theorem TpB.other {w : World} {B : Nat} {v : Value} {zs : List Int} (h : TpB w B v zs) {b : Nat} (hb : B < b) (o : Nat) (u : Value) : TpB (w.setCell ⟨b, o, none⟩ u) B v zs := by
  obtain ⟨k, h1, h2, h3⟩ := h
  exact ⟨k, (Below.heap_setCell _ _ _ _ (by show B ≠ b; omega)).trans h1, h2.kept (C := b) ((Below.refl b w).setCell (p := ⟨b, o, none⟩) (Nat.le_refl _) u) (by omega), h3⟩
theorem px_grown {B : Nat} {w w' : World} (h : w.grownBy w' (some B)) : Px B w w' := ⟨h.os, h.tape, h.output, h.size, fun k hk hB => h.block k hk (by simp; omega)⟩

theorem nextA {B : Nat} {v : Value} {zs : List Int} (n : Int) (n1 : 1 ≤ n) (n2 : n ≤ 9223372036854775807) (w : World) (h : TpB w B v zs) :
    Calls Tryd.prog 30 #[.pointer (some ⟨B, 0, none⟩), .int .i64 n] w fun e w' => ∃ r, e = .returned (.int .i64 r) ∧ 0 ≤ r ∧ r < n ∧ TpB w' B v zs ∧ Px B w w' := by
  obtain ⟨k, h⟩ := h
  refine (nextG B v zs k n n1 n2 w h).mono ?_
  rintro e w' ⟨rfl, t, g⟩
  obtain ⟨b0, b1⟩ := nxt_bd zs k n n1
  exact ⟨_, rfl, b0, b1, ⟨_, t⟩, px_grown g⟩

set_option maxRecDepth 100000 in
set_option maxHeartbeats 4000000 in
theorem rangeA {B : Nat} {v : Value} {zs : List Int} (lo hi : Int) (l0 : 0 ≤ lo) (l1 : lo ≤ hi) (l2 : hi ≤ 1000000) (w : World) (h : TpB w B v zs) :
    Calls Tryd.prog 40 #[.pointer (some ⟨B, 0, none⟩), .int .i64 lo, .int .i64 hi] w fun e w' => ∃ r, e = .returned (.int .i64 r) ∧ lo ≤ r ∧ r ≤ hi ∧ TpB w' B v zs ∧ Px B w w' := by
  have C1 := Lib.hid (nextA (hi - lo + 1) (by omega) (by omega) w h)
  clear h
  go_enter Tryd.func40, Tryd.ntmps40
  go_wp2_with (go_at_call 30; ((with_reducible refine C1.out.mono ?_); rintro e w' ⟨r, rfl, r0, r1, tp, q⟩; have TP := Lib.hid tp; have Q1 := Lib.hid q; clear tp q))
  go_ret
  exact ⟨_, rfl, by omega, by omega, TP.out, Q1.out⟩

set_option maxRecDepth 100000 in
set_option maxHeartbeats 4000000 in
theorem numberA {B : Nat} {v : Value} {zs : List Int} (w : World) (h : TpB w B v zs) :
    Calls Tryd.prog 29 #[.pointer (some ⟨B, 0, none⟩)] w fun e w' => ∃ r, e = .returned (.int .i64 r) ∧ 0 ≤ r ∧ r < 1000000000000000 ∧ TpB w' B v zs ∧ Px B w w' := by
  have c := fun n n1 n2 w h => nextA (B := B) (v := v) (zs := zs) n n1 n2 w h
  have TP := Lib.hid h
  have C := Lib.hid c
  clear h c
  have q0 : Hid (Px B w w) := Lib.hid (Px.refl B w)
  go_enter Tryd.func29, Tryd.ntmps29
  go_wp2_with (go_at_call 30; ((with_reducible refine (C.out _ (by decide) (by decide) _ TP.out).mono ?_); rintro e w' ⟨r, rfl, r0, r1, tp, q⟩; replace TP := Lib.hid tp; replace q0 : Hid (Px B w w') := Lib.hid (Px.trans q0.out q); clear tp q))
  all_goals go_ret
  all_goals exact ⟨_, rfl, by omega, by omega, TP.out, q0.out⟩

set_option maxRecDepth 100000 in
set_option maxHeartbeats 4000000 in
theorem variableA {B : Nat} {v : Value} {zs : List Int} (w : World) (h : TpB w B v zs) :
    Calls Tryd.prog 28 #[.pointer (some ⟨B, 0, none⟩)] w fun e w' => ∃ r, e = .returned (.int .i64 r) ∧ 0 ≤ r ∧ r ≤ 10000 ∧ TpB w' B v zs ∧ Px B w w' := by
  have c := fun n n1 n2 w h => nextA (B := B) (v := v) (zs := zs) n n1 n2 w h
  have d := fun lo hi l0 l1 l2 w h => rangeA (B := B) (v := v) (zs := zs) lo hi l0 l1 l2 w h
  have TP := Lib.hid h
  have C := Lib.hid c
  have D := Lib.hid d
  clear h c d
  have q0 : Hid (Px B w w) := Lib.hid (Px.refl B w)
  go_enter Tryd.func28, Tryd.ntmps28
  go_wp2_with (first
    | (go_at_call 30; ((with_reducible refine (C.out _ (by decide) (by decide) _ TP.out).mono ?_); rintro e w' ⟨r, rfl, r0, r1, tp, q⟩; replace TP := Lib.hid tp; replace q0 : Hid (Px B w w') := Lib.hid (Px.trans q0.out q); clear tp q))
    | (go_at_call 40; ((with_reducible refine (D.out _ _ (by decide) (by decide) (by decide) _ TP.out).mono ?_); rintro e w' ⟨r, rfl, r0, r1, tp, q⟩; replace TP := Lib.hid tp; replace q0 : Hid (Px B w w') := Lib.hid (Px.trans q0.out q); clear tp q)))
  all_goals go_ret
  all_goals exact ⟨_, rfl, by omega, by omega, TP.out, q0.out⟩
end Go.Proofs.YtkfipjlknfinpaaDoor
