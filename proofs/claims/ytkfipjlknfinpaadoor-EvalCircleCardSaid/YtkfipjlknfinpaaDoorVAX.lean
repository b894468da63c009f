import Derived.Test.YtkfipjlknfinpaaDoorL1a
import Derived.Test.YtkfipjlknfinpaaDoorKept
import Derived.Test.YtkfipjlknfinpaaDoorVaP
import Derived.ArgAppend
import Derived.OwnWalk
import Derived.OneCell
import Derived.IntWalk
import Derived.Deep.QuietTactic
import Derived.BigQuiet
import Derived.StillTailTactics
import Derived.WalkLawsBesides
import Derived.Outline

/- Stores of variables in memory: of the program and of its specification. -/
set_option linter.unusedVariables false
set_option linter.unusedSimpArgs false
namespace Go.Proofs.YtkfipjlknfinpaaDoor
open Go.RowKit

theorem Qw.al {a w : World} (h : Qw a w) (o : Obj) : Qw a (w.alloc o) := Below.alloc h h.size o
theorem Qw.dr {a w : World} (h : Qw a w) : Qw a w.drew := Below.drew h
theorem Qw.dn {a w : World} (h : Qw a w) (n : Nat) : Qw a (w.drewN n) := Below.trans h ⟨rfl, rfl, rfl, Nat.le_refl _, fun _ _ => rfl⟩
theorem Qw.sc {a w : World} (h : Qw a w) {p : Addr} (hp : a.heap.size ≤ p.block) (u : Value) : Qw a (w.setCell p u) := Below.setCell h hp u
theorem Qw.le {w w' : World} (h : Qw w w') : w.heap.size ≤ w'.heap.size := h.size
theorem Qw.bel {w w' : World} (h : Qw w w') : Below w.heap.size w w' := h

/-- Only the blocks B and L of the old ones have turned. -/
structure Ty (B L : Nat) (w w' : World) : Prop where
  os : w'.os = w.os
  tape : w'.tape = w.tape
  output : w'.output = w.output
  size : w.heap.size ≤ w'.heap.size
  block : ∀ k, k < w.heap.size → k ≠ B → k ≠ L → w'.heap[k]? = w.heap[k]?

theorem Ty.refl (B L : Nat) (w : World) : Ty B L w w := ⟨rfl, rfl, rfl, Nat.le_refl _, fun _ _ _ _ => rfl⟩
theorem Ty.of {B L : Nat} {w w' : World} (q : Qw w w') : Ty B L w w' := ⟨q.os, q.tape, q.output, q.size, fun k h _ _ => q.block k h⟩
theorem Ty.trans {B L : Nat} {a b c : World} (h : Ty B L a b) (k : Ty B L b c) : Ty B L a c :=
  ⟨k.os.trans h.os, k.tape.trans h.tape, k.output.trans h.output, Nat.le_trans h.size k.size, fun i hi h1 h2 => (k.block i (Nat.lt_of_lt_of_le hi h.size) h1 h2).trans (h.block i hi h1 h2)⟩
theorem Ty.setB (B L : Nat) (w : World) (o : Nat) (u : Value) : Ty B L w (w.setCell ⟨B, o, none⟩ u) :=
  ⟨rfl, rfl, rfl, by simp [World.setCell], fun k _ h _ => Below.heap_setCell _ _ _ _ h⟩
theorem Ty.setL (B L : Nat) (w : World) (o : Nat) (u : Value) : Ty B L w (w.setCell ⟨L, o, none⟩ u) :=
  ⟨rfl, rfl, rfl, by simp [World.setCell], fun k _ _ h => Below.heap_setCell _ _ _ _ h⟩
theorem Ty.setNew {B L : Nat} {a w : World} (h : Ty B L a w) {p : Addr} (hp : a.heap.size ≤ p.block) (u : Value) : Ty B L a (w.setCell p u) :=
  ⟨h.os, h.tape, h.output, by have := h.size; simpa [World.setCell] using this, fun k hk h1 h2 => (Below.heap_setCell _ _ _ _ (by omega)).trans (h.block k hk h1 h2)⟩
/-- What lies below a block that lies below both is as it was. -/
theorem Ty.below {B L C : Nat} {w w' : World} (h : Ty B L w w') (hB : C ≤ B) (hL : C ≤ L) (hC : C ≤ w.heap.size) : Below C w w' := ⟨h.os, h.tape, h.output, h.size, fun k hk => h.block k (by omega) (by omega) (by omega)⟩
theorem Bx.ty {B L : Nat} {w w' : World} {b : Nat} {cs : Array Value} {t : TypeId} (h : Bx w b cs t) (q : Ty B L w w') (h1 : b ≠ B) (h2 : b ≠ L) : Bx w' b cs t := (q.block b h.lt h1 h2).trans h

/-- The cells of a store. -/
def stc (v : Value) (s : Vs.St) : Array Value := (v :: (s.cm ++ s.sy).map (Value.int .i64)).toArray
theorem stc_size (v : Value) {s : Vs.St} (h : s.ok) : (stc v s).size = 1101 := by simp [stc, h.hc, h.hs]
theorem stc_0 (v : Value) (s : Vs.St) : (stc v s)[0]? = some v := rfl
theorem stc_c (v : Value) {s : Vs.St} (h : s.ok) {k : Nat} (hk : k < 100) : (stc v s)[1 + k]? = some (.int .i64 (s.cm.getD k 0)) := by
  have l := h.hc
  have e : (stc v s)[1 + k]? = ((s.cm ++ s.sy).map (Value.int .i64))[k]? := by unfold stc; rw [Nat.add_comm]; simp
  rw [e, List.getElem?_map, List.getElem?_append_left (by omega), List.getD_eq_getElem?_getD, List.getElem?_eq_getElem (by omega)]
  rfl
theorem stc_s (v : Value) {s : Vs.St} (h : s.ok) {k : Nat} (hk : k < 1000) : (stc v s)[101 + k]? = some (.int .i64 (s.sy.getD k 0)) := by
  have l := h.hc
  have l2 := h.hs
  have e : (stc v s)[101 + k]? = ((s.cm ++ s.sy).map (Value.int .i64))[100 + k]? := by unfold stc; rw [show 101 + k = 100 + k + 1 by omega]; simp
  rw [e, List.getElem?_map, List.getElem?_append_right (by omega), List.getD_eq_getElem?_getD, List.getElem?_eq_getElem (by omega), List.getElem?_eq_getElem (by omega)]
  simp [l]
theorem stc_set0 (v u : Value) (s : Vs.St) : (stc v s).setIfInBounds 0 u = stc u s := by
  apply Array.ext'
  simp [stc]
theorem stc_setc (v : Value) {s : Vs.St} (h : s.ok) {k : Nat} (hk : k < 100) (n : Int) : (stc v s).setIfInBounds (1 + k) (.int .i64 n) = stc v { s with cm := s.cm.set k n } := by
  have l := h.hc
  apply Array.ext'
  unfold stc
  rw [Nat.add_comm]
  simp [List.set_append, l, hk, ← List.map_set]
theorem stc_sets (v : Value) {s : Vs.St} (h : s.ok) {k : Nat} (hk : k < 1000) (n : Int) : (stc v s).setIfInBounds (101 + k) (.int .i64 n) = stc v { s with sy := s.sy.set k n } := by
  have l := h.hc
  apply Array.ext'
  unfold stc
  rw [show 101 + k = 100 + k + 1 by omega]
  simp [List.set_append, l, hk, ← List.map_set]

/-- Block L holds, first of all, the levels. -/
def Lvl (E : TypeId) (w : World) (L cap : Nat) (s : Vs.St) : Prop :=
  ∃ cur : Array Value, w.heap[L]? = some (.cells cur E (0, 0)) ∧ cur.size = cap * 33 ∧ cur.toList.take (s.n * 33) = s.ls.map (Value.int .i64)
theorem Lvl.lt {E : TypeId} {w : World} {L cap : Nat} {s : Vs.St} (h : Lvl E w L cap s) : L < w.heap.size := by
  obtain ⟨cur, hg, _⟩ := h
  exact (Array.getElem?_eq_some_iff.1 hg).1
theorem Lvl.same {E : TypeId} {w w' : World} {L cap : Nat} {s : Vs.St} (h : Lvl E w L cap s) (e : w'.heap[L]? = w.heap[L]?) : Lvl E w' L cap s := by
  obtain ⟨cur, hg, r⟩ := h
  exact ⟨cur, e.trans hg, r⟩

/-- Block B holds a store whose levels lie in block L. -/
structure Stb (T E : TypeId) (w : World) (B L cap : Nat) (s : Vs.St) : Prop where
  bx : Bx w B (stc (.slice (some ⟨L, 0, none⟩) s.n cap) s) T
  lv : Lvl E w L cap s
  ne : L ≠ B
  c1 : s.n ≤ cap
  c2 : cap ≤ maxLen
  ok : s.ok

section
variable {T E : TypeId} {w w' : World} {B L cap : Nat} {s : Vs.St}
theorem Stb.ltB (h : Stb T E w B L cap s) : B < w.heap.size := h.bx.lt
theorem Stb.ltL (h : Stb T E w B L cap s) : L < w.heap.size := h.lv.lt
theorem Stb.kept (h : Stb T E w B L cap s) (q : Qw w w') : Stb T E w' B L cap s :=
  ⟨h.bx.kept q, h.lv.same (q.block L h.ltL), h.ne, h.c1, h.c2, h.ok⟩
theorem Stb.ty {B' L' : Nat} (h : Stb T E w B L cap s) (q : Ty B' L' w w') (h1 : B ≠ B') (h2 : B ≠ L') (h3 : L ≠ B') (h4 : L ≠ L') : Stb T E w' B L cap s :=
  ⟨h.bx.ty q h1 h2, h.lv.same (q.block L h.ltL h3 h4), h.ne, h.c1, h.c2, h.ok⟩
theorem Stb.cell0 (h : Stb T E w B L cap s) : w.cell? ⟨B, 0, none⟩ = some (.slice (some ⟨L, 0, none⟩) s.n cap) := h.bx.cell' 0 _ (stc_0 _ _)
theorem Stb.cellC (h : Stb T E w B L cap s) {k : Nat} (hk : k < 100) : w.cell? ⟨B, 1 + k, none⟩ = some (.int .i64 (s.cm.getD k 0)) := h.bx.cell' _ _ (stc_c _ h.ok hk)
theorem Stb.cellS (h : Stb T E w B L cap s) {k : Nat} (hk : k < 1000) : w.cell? ⟨B, 101 + k, none⟩ = some (.int .i64 (s.sy.getD k 0)) := h.bx.cell' _ _ (stc_s _ h.ok hk)
theorem Stb.cellL (h : Stb T E w B L cap s) {k : Nat} (hk : k < s.n * 33) : w.cell? ⟨L, k, none⟩ = some (.int .i64 (s.ls.getD k 0)) := by
  obtain ⟨cur, hg, hs, ht⟩ := h.lv
  have l := h.ok.hl
  rw [cell_of_row w L k cur E (0, 0) hg]
  have e : (cur.toList.take (s.n * 33))[k]? = (s.ls.map (Value.int .i64))[k]? := by rw [ht]
  rw [List.getElem?_take_of_lt hk, List.getElem?_map, List.getElem?_eq_getElem (l := s.ls) (by omega)] at e
  rw [List.getD_eq_getElem?_getD, List.getElem?_eq_getElem (by omega)]
  simpa using e
theorem Stb.freeB (h : Stb T E w B L cap s) (o : Nat) : w.frozen? ⟨B, o, none⟩ = false := h.bx.free o
theorem Stb.freeL (h : Stb T E w B L cap s) (o : Nat) : w.frozen? ⟨L, o, none⟩ = false := by
  obtain ⟨cur, hg, _⟩ := h.lv
  exact frozen_of_row w L o cur E hg
theorem Stb.setC (h : Stb T E w B L cap s) {k : Nat} (hk : k < 100) (n : Int) : Stb T E (w.setCell ⟨B, 1 + k, none⟩ (.int .i64 n)) B L cap { s with cm := s.cm.set k n } := by
  have b := h.bx.set (1 + k) (.int .i64 n)
  rw [stc_setc _ h.ok hk] at b
  obtain ⟨o1, o2, o3, o4, o5⟩ := h.ok
  exact ⟨b, h.lv.same (Below.heap_setCell _ _ _ _ h.ne), h.ne, h.c1, h.c2, ⟨o1, o2, o3, by simpa using o4, o5⟩⟩
theorem Stb.setS (h : Stb T E w B L cap s) {k : Nat} (hk : k < 1000) (n : Int) : Stb T E (w.setCell ⟨B, 101 + k, none⟩ (.int .i64 n)) B L cap { s with sy := s.sy.set k n } := by
  have b := h.bx.set (101 + k) (.int .i64 n)
  rw [stc_sets _ h.ok hk] at b
  obtain ⟨o1, o2, o3, o4, o5⟩ := h.ok
  exact ⟨b, h.lv.same (Below.heap_setCell _ _ _ _ h.ne), h.ne, h.c1, h.c2, ⟨o1, o2, o3, o4, by simpa using o5⟩⟩
theorem Stb.setL (h : Stb T E w B L cap s) {k : Nat} (hk : k < s.n * 33) (n : Int) : Stb T E (w.setCell ⟨L, k, none⟩ (.int .i64 n)) B L cap { s with ls := s.ls.set k n } := by
  obtain ⟨cur, hg, hs, ht⟩ := h.lv
  have g := heap_setCell_same w L k cur E (.int .i64 n) hg
  obtain ⟨o1, o2, o3, o4, o5⟩ := h.ok
  refine ⟨(Below.heap_setCell _ _ _ _ (Ne.symm h.ne)).trans h.bx, ⟨_, g, by simpa using hs, ?_⟩, h.ne, h.c1, h.c2, ⟨o1, o2, by simpa using o3, o4, o5⟩⟩
  show (cur.setIfInBounds k (.int .i64 n)).toList.take (s.n * 33) = (s.ls.set k n).map _
  rw [Array.toList_setIfInBounds, List.take_set, ht, ← List.map_set]
/-- The levels shortened. -/
theorem Stb.cut (h : Stb T E w B L cap s) (hn : s.n ≠ 1) : Stb T E (w.setCell ⟨B, 0, none⟩ (.slice (some ⟨L, 0, none⟩) (s.n - 1) cap)) B L cap s.pop := by
  have b := h.bx.set 0 (.slice (some ⟨L, 0, none⟩) (s.n - 1) cap)
  rw [stc_set0] at b
  have e : s.pop = { s with n := s.n - 1, ls := s.ls.take ((s.n - 1) * 33) } := if_neg hn
  have ok := Vs.pop_ok h.ok
  obtain ⟨cur, hg, hs, ht⟩ := h.lv
  have c1 := h.c1
  rw [e] at ok ⊢
  refine ⟨b, ⟨cur, (Below.heap_setCell _ _ _ _ h.ne).trans hg, hs, ?_⟩, h.ne, by show s.n - 1 ≤ cap; omega, h.c2, ok⟩
  show cur.toList.take ((s.n - 1) * 33) = (s.ls.take ((s.n - 1) * 33)).map _
  rw [List.map_take, ← ht, List.take_take, Nat.min_eq_left (by omega)]
/-- The levels own their row. -/
theorem Stb.owns (h : Stb T E w B L cap s) : w.ownsRow L E 33 (.slice (some ⟨L, 0, none⟩) s.n cap) s.n (s.ls.map (Value.int .i64)) := by
  obtain ⟨cur, hg, hs, ht⟩ := h.lv
  exact ⟨by simpa using h.ok.hl, .inr ⟨L, cap, cur, rfl, Nat.le_refl _, hg, h.c1, h.c2, hs, ht⟩⟩
theorem Stb.owns_cells (h : Stb T E w B L cap s) : ∀ j u, (s.ls.map (Value.int .i64))[j]? = some u → w.cell? ((⟨L, 0, none⟩ : Addr).add j) = some u := h.owns.cells (g := L) rfl
end

theorem ints_one (l : List Int) : ∀ u ∈ l.map (Value.int .i64), u.oneCell' = true := by
  intro u hu
  obtain ⟨x, _, rfl⟩ := List.mem_map.1 hu
  rfl

/-- Another slice of levels stored. -/
theorem Stb.putRow {T E : TypeId} {w : World} {B : Nat} {s : Vs.St} {v0 : Value} (X : Bx w B (stc v0 s) T) {L' cap' n' : Nat} {ls' : List Int} (hb : L' ≠ B)
    (own : w.ownsRow L' E 33 (.slice (some ⟨L', 0, none⟩) n' cap') n' (ls'.map (Value.int .i64))) (ok : ({ s with n := n', ls := ls' } : Vs.St).ok) :
    Stb T E (w.setCell ⟨B, 0, none⟩ (.slice (some ⟨L', 0, none⟩) n' cap')) B L' cap' { s with n := n', ls := ls' } := by
  have b := X.set 0 (.slice (some ⟨L', 0, none⟩) n' cap')
  rw [stc_set0] at b
  rcases own.2 with ⟨h, _⟩ | ⟨g, c, cur, h, _, hg, h1, h2, h3, h4⟩
  · cases h
  · injection h with e1 e2 e3
    injection e1 with e1
    injection e1 with e1
    subst e1 e3
    exact ⟨b, ⟨cur, (Below.heap_setCell _ _ _ _ hb).trans hg, h3, h4⟩, hb, h1, h2, ok⟩

abbrev Pst := Stb 69 79
abbrev Rst := Stb 66 61

end Go.Proofs.YtkfipjlknfinpaaDoor

/- The walks of the small functions of package vars and of its specification. -/
set_option linter.unusedVariables false
set_option linter.unusedSimpArgs false
namespace Go.Proofs.YtkfipjlknfinpaaDoor
open Go.RowKit

theorem ret_bb {a b : Bool} (h : a = b) : Ending.returned (.bool a) = .returned (.bool b) := by rw [h]
theorem ret_2 {a b c d : Int} (h : a = b) (g : c = d) : Ending.returned (.tuple #[.int .i64 a, .int .i64 c]) = .returned (.tuple #[.int .i64 b, .int .i64 d]) := by rw [h, g]

theorem vaValid (n : Int) (w : World) : Calls Tryd.prog 39 #[.int .i64 n] w fun e w' => e = .returned (.bool (decide (Vs.vld n))) ∧ w = w' := by
  rcases (show n < -1000000000000000 ∨ 1000000000000000 < n ∨ Vs.vld n by unfold Vs.vld; omega) with h | h | h
  · rw [decide_eq_false (show ¬ Vs.vld n by unfold Vs.vld; omega)]
    go_enter Tryd.func39, Tryd.ntmps39
    go_wp2
    go_ret
    exact ⟨ret_bb (by first | rfl | (simp; omega)), rfl⟩
  · rw [decide_eq_false (show ¬ Vs.vld n by unfold Vs.vld; omega)]
    go_enter Tryd.func39, Tryd.ntmps39
    go_wp2
    go_ret
    exact ⟨ret_bb (by first | rfl | (simp; omega)), rfl⟩
  · rw [decide_eq_true h]
    obtain ⟨h1, h2⟩ := h
    go_enter Tryd.func39, Tryd.ntmps39
    go_wp2
    go_ret
    exact ⟨ret_bb (by first | rfl | (simp; omega)), rfl⟩

theorem vrValid (n : Int) (w : World) : Calls Tryd.prog 41 #[.int .i64 n] w fun e w' => e = .returned (.bool (decide (Vs.vld n))) ∧ w = w' := by
  rcases (show n < -1000000000000000 ∨ 1000000000000000 < n ∨ Vs.vld n by unfold Vs.vld; omega) with h | h | h
  · rw [decide_eq_false (show ¬ Vs.vld n by unfold Vs.vld; omega)]
    go_enter Tryd.func41, Tryd.ntmps41
    go_wp2
    go_ret
    exact ⟨ret_bb (by first | rfl | (simp; omega)), rfl⟩
  · rw [decide_eq_false (show ¬ Vs.vld n by unfold Vs.vld; omega)]
    go_enter Tryd.func41, Tryd.ntmps41
    go_wp2
    go_ret
    exact ⟨ret_bb (by first | rfl | (simp; omega)), rfl⟩
  · rw [decide_eq_true h]
    obtain ⟨h1, h2⟩ := h
    go_enter Tryd.func41, Tryd.ntmps41
    go_wp2
    go_ret
    exact ⟨ret_bb (by first | rfl | (simp; omega)), rfl⟩

theorem vaSystem (n : Int) (w : World) : Calls Tryd.prog 38 #[.int .i64 n] w fun e w' => e = .returned (.bool (decide (Vs.isS n))) ∧ w = w' := by
  rcases (show n < 5000 ∨ 5999 < n ∨ Vs.isS n by unfold Vs.isS; omega) with h | h | h
  · rw [decide_eq_false (show ¬ Vs.isS n by unfold Vs.isS; omega)]
    go_enter Tryd.func38, Tryd.ntmps38
    go_wp2
    go_ret
    exact ⟨ret_bb (by first | rfl | (simp; omega)), rfl⟩
  · rw [decide_eq_false (show ¬ Vs.isS n by unfold Vs.isS; omega)]
    go_enter Tryd.func38, Tryd.ntmps38
    go_wp2
    go_ret
    exact ⟨ret_bb (by first | rfl | (simp; omega)), rfl⟩
  · rw [decide_eq_true h]
    obtain ⟨h1, h2⟩ := h
    go_enter Tryd.func38, Tryd.ntmps38
    go_wp2
    go_ret
    exact ⟨ret_bb (by first | rfl | (simp; omega)), rfl⟩

theorem vrSystem (n : Int) (w : World) : Calls Tryd.prog 37 #[.int .i64 n] w fun e w' => e = .returned (.bool (decide (Vs.isS n))) ∧ w = w' := by
  rcases (show n < 5000 ∨ 5999 < n ∨ Vs.isS n by unfold Vs.isS; omega) with h | h | h
  · rw [decide_eq_false (show ¬ Vs.isS n by unfold Vs.isS; omega)]
    go_enter Tryd.func37, Tryd.ntmps37
    go_wp2
    go_ret
    exact ⟨ret_bb (by first | rfl | (simp; omega)), rfl⟩
  · rw [decide_eq_false (show ¬ Vs.isS n by unfold Vs.isS; omega)]
    go_enter Tryd.func37, Tryd.ntmps37
    go_wp2
    go_ret
    exact ⟨ret_bb (by first | rfl | (simp; omega)), rfl⟩
  · rw [decide_eq_true h]
    obtain ⟨h1, h2⟩ := h
    go_enter Tryd.func37, Tryd.ntmps37
    go_wp2
    go_ret
    exact ⟨ret_bb (by first | rfl | (simp; omega)), rfl⟩

theorem vrCommon (n : Int) (w : World) : Calls Tryd.prog 36 #[.int .i64 n] w fun e w' => e = .returned (.bool (decide (Vs.isC n))) ∧ w = w' := by
  rcases (show n < 100 ∨ 199 < n ∨ Vs.isC n by unfold Vs.isC; omega) with h | h | h
  · rw [decide_eq_false (show ¬ Vs.isC n by unfold Vs.isC; omega)]
    go_enter Tryd.func36, Tryd.ntmps36
    go_wp2
    go_ret
    exact ⟨ret_bb (by first | rfl | (simp; omega)), rfl⟩
  · rw [decide_eq_false (show ¬ Vs.isC n by unfold Vs.isC; omega)]
    go_enter Tryd.func36, Tryd.ntmps36
    go_wp2
    go_ret
    exact ⟨ret_bb (by first | rfl | (simp; omega)), rfl⟩
  · rw [decide_eq_true h]
    obtain ⟨h1, h2⟩ := h
    go_enter Tryd.func36, Tryd.ntmps36
    go_wp2
    go_ret
    exact ⟨ret_bb (by first | rfl | (simp; omega)), rfl⟩

theorem vrLocal (n : Int) (w : World) : Calls Tryd.prog 35 #[.int .i64 n] w fun e w' => e = .returned (.bool (decide (Vs.isL n))) ∧ w = w' := by
  rcases (show n < 1 ∨ 33 < n ∨ Vs.isL n by unfold Vs.isL; omega) with h | h | h
  · rw [decide_eq_false (show ¬ Vs.isL n by unfold Vs.isL; omega)]
    go_enter Tryd.func35, Tryd.ntmps35
    go_wp2
    go_ret
    exact ⟨ret_bb (by first | rfl | (simp; omega)), rfl⟩
  · rw [decide_eq_false (show ¬ Vs.isL n by unfold Vs.isL; omega)]
    go_enter Tryd.func35, Tryd.ntmps35
    go_wp2
    go_ret
    exact ⟨ret_bb (by first | rfl | (simp; omega)), rfl⟩
  · rw [decide_eq_true h]
    obtain ⟨h1, h2⟩ := h
    go_enter Tryd.func35, Tryd.ntmps35
    go_wp2
    go_ret
    exact ⟨ret_bb (by first | rfl | (simp; omega)), rfl⟩


def tabV : Array Value := #[.int .i64 1, .int .i64 2, .int .i64 3, .int .i64 7, .int .i64 8, .int .i64 9, .int .i64 0, .int .i64 11, .int .i64 4, .int .i64 5, .int .i64 6, .int .i64 0, .int .i64 13, .int .i64 0, .int .i64 0, .int .i64 0, .int .i64 17, .int .i64 18, .int .i64 19, .int .i64 20, .int .i64 21, .int .i64 22, .int .i64 23, .int .i64 24, .int .i64 25, .int .i64 26]
theorem tabV_at : ∀ k, k < 26 → tabV[k]? = some (.int .i64 (Vs.tab.getD (65 + k) 0)) := by
  intro k hk
  match k, hk with
  | 0, _ => rfl
  | 1, _ => rfl
  | 2, _ => rfl
  | 3, _ => rfl
  | 4, _ => rfl
  | 5, _ => rfl
  | 6, _ => rfl
  | 7, _ => rfl
  | 8, _ => rfl
  | 9, _ => rfl
  | 10, _ => rfl
  | 11, _ => rfl
  | 12, _ => rfl
  | 13, _ => rfl
  | 14, _ => rfl
  | 15, _ => rfl
  | 16, _ => rfl
  | 17, _ => rfl
  | 18, _ => rfl
  | 19, _ => rfl
  | 20, _ => rfl
  | 21, _ => rfl
  | 22, _ => rfl
  | 23, _ => rfl
  | 24, _ => rfl
  | 25, _ => rfl
  | n + 26, h => exact absurd h (by omega)
theorem tab_low : ∀ k, k < 65 → Vs.tab.getD k 0 = 0 := by decide +kernel

theorem vaLevel {w : World} {B L cap : Nat} {s : Vs.St} (h : Pst w B L cap s) : Calls Tryd.prog 17 #[.pointer (some ⟨B, 0, none⟩)] w fun e w' => e = .returned (.int .i64 ((s.n : Int) - 1)) ∧ w = w' := by
  have c0 := h.cell0
  have h1 := h.ok.n1
  have h2 := h.ok.n2
  clear h
  go_enter Tryd.func17, Tryd.ntmps17
  go_wp2
  go_ret
  exact ⟨rfl, rfl⟩
end Go.Proofs.YtkfipjlknfinpaaDoor

/- The walks of Get, Set and Host. -/
set_option linter.unusedVariables false
set_option linter.unusedSimpArgs false
namespace Go.Proofs.YtkfipjlknfinpaaDoor
open Go.RowKit


/-- Where a variable lies. -/
def place (B L : Nat) (s : Vs.St) (n : Int) : Option Addr :=
  if Vs.isL n then some ⟨L, s.at n, none⟩ else if Vs.isC n then some ⟨B, 1 + (n - 100).toNat, none⟩ else if Vs.isS n then some ⟨B, 101 + (n - 5000).toNat, none⟩ else none

theorem at_lt {s : Vs.St} (h : s.ok) {n : Int} (hn : Vs.isL n) : s.at n < s.n * 33 := by
  have h1 := h.n1
  unfold Vs.isL at hn
  unfold Vs.St.at
  omega

theorem addr_eq {b x y : Nat} (h : x = y) : (⟨b, x, none⟩ : Addr) = ⟨b, y, none⟩ := by rw [h]
theorem ret_ptr {b x y : Nat} (h : x = y) : Ending.returned (.pointer (some ⟨b, x, none⟩)) = .returned (.pointer (some ⟨b, y, none⟩)) := by rw [h]

set_option maxRecDepth 100000 in
set_option maxHeartbeats 4000000 in
theorem vaFind {w : World} {B L cap : Nat} {s : Vs.St} (h : Pst w B L cap s) (n : Int) : Calls Tryd.prog 34 #[.pointer (some ⟨B, 0, none⟩), .int .i64 n] w fun e w' => e = .returned (.pointer (place B L s n)) ∧ Qw w w' := by
  unfold place
  by_cases hL : Vs.isL n
  · rw [if_pos hL]
    have c0 := h.cell0
    have h1 := h.ok.n1
    have h2 := h.ok.n2
    have h3 := h.c1
    have hcap := h.c2
    unfold maxLen at hcap
    obtain ⟨k1, k2⟩ := hL
    have hlv : ∀ w', Qw w w' → Calls Tryd.prog 17 #[.pointer (some ⟨B, 0, none⟩)] w' fun e w'' => e = .returned (.int .i64 ((s.n : Int) - 1)) ∧ w' = w'' := fun w' q => vaLevel (h.kept q)
    obtain ⟨m, hm⟩ : ∃ m : Nat, s.n = m + 1 := ⟨s.n - 1, by omega⟩
    obtain ⟨j, rfl⟩ : ∃ j : Nat, n = 1 + (j : Int) := ⟨(n - 1).toNat, by omega⟩
    have eat : s.at (1 + (j : Int)) = m * 33 + j := by unfold Vs.St.at; omega
    rw [eat]
    have en : ((s.n : Int) - 1) = (m : Int) := by omega
    rw [en] at hlv
    have HL := Lib.hid hlv
    have e1 : IntKind.i64.wrap (1 + (j : Int) - 1) = j := (IntWalk.i64_in _ (by omega)).trans (by omega)
    generalize s.n = N at *
    subst hm
    have b1 : (m : Int) < ((m + 1 : Nat) : Int) := by omega
    have b2 : 0 ≤ (m : Int) := by omega
    have b3 : (j : Int) < 33 := by omega
    clear hlv en eat h
    go_enter Tryd.func34, Tryd.ntmps34
    go_wp2
    go_quiet ((go_at_call 17; exact Calls.quiet_of_same ((HL.out _ (Qw.dn (Qw.refl _) _)).mono fun _ _ ⟨h1, h2⟩ => ⟨h1, h2.symm⟩)))
    go_wp2
    go_ret
    exact ⟨ret_ptr (by omega), Qw.dn (Qw.refl _) _⟩
  · rw [if_neg hL]
    by_cases hC : Vs.isC n
    · rw [if_pos hC]
      obtain ⟨k1, k2⟩ := hC
      clear hL h
      obtain ⟨j, rfl⟩ : ∃ j : Nat, n = 100 + (j : Int) := ⟨(n - 100).toNat, by omega⟩
      have e1 : IntKind.i64.wrap (100 + (j : Int) - 100) = j := (IntWalk.i64_in _ (by omega)).trans (by omega)
      have b3 : (j : Int) < 100 := by omega
      have e2 : (100 + (j : Int) - 100).toNat = j := by omega
      rw [e2]
      clear e2
      go_enter Tryd.func34, Tryd.ntmps34
      go_wp2
      go_ret
      exact ⟨ret_ptr (by omega), Qw.refl _⟩
    · rw [if_neg hC]
      by_cases hS : Vs.isS n
      · rw [if_pos hS]
        have hs := vaSystem n
        rw [decide_eq_true hS] at hs
        obtain ⟨k1, k2⟩ := hS
        have hs := Lib.hid hs
        clear hL hC h
        obtain ⟨j, rfl⟩ : ∃ j : Nat, n = 5000 + (j : Int) := ⟨(n - 5000).toNat, by omega⟩
        have e1 : IntKind.i64.wrap (5000 + (j : Int) - 5000) = j := (IntWalk.i64_in _ (by omega)).trans (by omega)
        have b3 : (j : Int) < 1000 := by omega
        have e2 : (5000 + (j : Int) - 5000).toNat = j := by omega
        rw [e2]
        clear e2
        go_enter Tryd.func34, Tryd.ntmps34
        go_wp2_with (go_at_call 38; ((with_reducible refine (hs.out _).mono ?_); rintro e w' ⟨rfl, rfl⟩))
        go_ret
        exact ⟨ret_ptr (by omega), Qw.refl _⟩
      · rw [if_neg hS]
        have hs := vaSystem n
        rw [decide_eq_false hS] at hs
        have hs := Lib.hid hs
        unfold Vs.isL at hL
        unfold Vs.isC at hC
        clear h hS
        rcases (show n < 1 ∨ (33 < n ∧ n < 100) ∨ 199 < n by omega) with k | k | k
        · clear hL hC
          go_enter Tryd.func34, Tryd.ntmps34
          go_wp2_with (go_at_call 38; ((with_reducible refine (hs.out _).mono ?_); rintro e w' ⟨rfl, rfl⟩))
          go_ret
          exact ⟨rfl, Qw.refl _⟩
        · clear hL hC
          obtain ⟨k1, k2⟩ := k
          go_enter Tryd.func34, Tryd.ntmps34
          go_wp2_with (go_at_call 38; ((with_reducible refine (hs.out _).mono ?_); rintro e w' ⟨rfl, rfl⟩))
          go_ret
          exact ⟨rfl, Qw.refl _⟩
        · clear hL hC
          go_enter Tryd.func34, Tryd.ntmps34
          go_wp2_with (go_at_call 38; ((with_reducible refine (hs.out _).mono ?_); rintro e w' ⟨rfl, rfl⟩))
          go_ret
          exact ⟨rfl, Qw.refl _⟩

/-! ### what lies there -/

theorem place_none {B L : Nat} {s : Vs.St} {n : Int} (h : place B L s n = none) : ¬ Vs.isL n ∧ ¬ Vs.isC n ∧ ¬ Vs.isS n := by
  unfold place at h
  by_cases h1 : Vs.isL n
  · rw [if_pos h1] at h; cases h
  · rw [if_neg h1] at h
    by_cases h2 : Vs.isC n
    · rw [if_pos h2] at h; cases h
    · rw [if_neg h2] at h
      by_cases h3 : Vs.isS n
      · rw [if_pos h3] at h; cases h
      · exact ⟨h1, h2, h3⟩

theorem disjoint (n : Int) : (Vs.isL n → ¬ Vs.isC n ∧ ¬ Vs.isS n) ∧ (Vs.isC n → ¬ Vs.isL n ∧ ¬ Vs.isS n) ∧ (Vs.isS n → ¬ Vs.isL n ∧ ¬ Vs.isC n) := by
  unfold Vs.isL Vs.isC Vs.isS; omega

/-- The place of a variable: its block, its number within, what it holds, and what a store of v there leaves. -/
theorem place_some {T E : TypeId} {w : World} {B L cap : Nat} {s : Vs.St} (h : Stb T E w B L cap s) {n : Int} {a : Addr} (e : place B L s n = some a) :
    ∃ b o, a = ⟨b, o, none⟩ ∧ (b = B ∨ b = L) ∧ w.cell? ⟨b, o, none⟩ = some (.int .i64 (s.get n)) ∧ w.frozen? ⟨b, o, none⟩ = false ∧ b < w.heap.size ∧ Vs.gerr n = 0 ∧
      (∀ v, ¬ Vs.isS n → Vs.vld v → Stb T E (w.setCell ⟨b, o, none⟩ (.int .i64 v)) B L cap (s.set n v) ∧ Vs.serr n v = 0) ∧
      (∀ v, Vs.isS n → Vs.vld v → Stb T E (w.setCell ⟨b, o, none⟩ (.int .i64 v)) B L cap (s.host n v) ∧ Vs.herr n v = 0) := by
  obtain ⟨d1, d2, d3⟩ := disjoint n
  unfold place at e
  by_cases h1 : Vs.isL n
  · rw [if_pos h1] at e
    injection e with e
    subst e
    have lt := at_lt h.ok h1
    have sl := h.setL lt
    refine ⟨L, s.at n, rfl, .inr rfl, ?_, h.freeL _, h.ltL, ?_, ?_, ?_⟩
    · unfold Vs.St.get; rw [if_pos h1]; exact h.cellL lt
    · unfold Vs.gerr; rw [if_pos (.inl h1)]
    · intro v hs hv
      have e0 : Vs.serr n v = 0 := by unfold Vs.serr; rw [if_neg hs, if_neg (fun k => k.1 h1), if_pos hv]
      refine ⟨?_, e0⟩
      unfold Vs.St.set
      rw [if_neg (fun k => k e0), if_pos h1]
      exact sl v
    · intro v hs; exact absurd hs (d1 h1).2
  · rw [if_neg h1] at e
    by_cases h2 : Vs.isC n
    · rw [if_pos h2] at e
      injection e with e
      subst e
      have lt : (n - 100).toNat < 100 := by unfold Vs.isC at h2; omega
      refine ⟨B, 1 + (n - 100).toNat, rfl, .inl rfl, ?_, h.freeB _, h.ltB, ?_, ?_, ?_⟩
      · unfold Vs.St.get; rw [if_neg h1, if_pos h2]; exact h.cellC lt
      · unfold Vs.gerr; rw [if_pos (.inr (.inl h2))]
      · intro v hs hv
        have e0 : Vs.serr n v = 0 := by unfold Vs.serr; rw [if_neg hs, if_neg (fun k => k.2 h2), if_pos hv]
        refine ⟨?_, e0⟩
        unfold Vs.St.set
        rw [if_neg (fun k => k e0), if_neg h1]
        exact h.setC lt v
      · intro v hs; exact absurd hs (d2 h2).2
    · rw [if_neg h2] at e
      by_cases h3 : Vs.isS n
      · rw [if_pos h3] at e
        injection e with e
        subst e
        have lt : (n - 5000).toNat < 1000 := by unfold Vs.isS at h3; omega
        refine ⟨B, 101 + (n - 5000).toNat, rfl, .inl rfl, ?_, h.freeB _, h.ltB, ?_, ?_, ?_⟩
        · unfold Vs.St.get; rw [if_neg h1, if_neg h2, if_pos h3]; exact h.cellS lt
        · unfold Vs.gerr; rw [if_pos (.inr (.inr h3))]
        · intro v hs; exact absurd h3 hs
        · intro v hs hv
          have e0 : Vs.herr n v = 0 := by unfold Vs.herr; rw [if_neg (fun k => k h3), if_pos hv]
          refine ⟨?_, e0⟩
          unfold Vs.St.host
          rw [if_neg (fun k => k e0)]
          exact h.setS lt v
      · rw [if_neg h3] at e; cases e

theorem Ty.drewN {B L : Nat} {a w : World} (h : Ty B L a w) (n : Nat) : Ty B L a (w.drewN n) := h.trans ⟨rfl, rfl, rfl, Nat.le_refl _, fun _ _ _ _ => rfl⟩
theorem Ty.one {B L b : Nat} {w w1 : World} (q : Qw w w1) (hb : b = B ∨ b = L) (o : Nat) (u : Value) : Ty B L w (w1.setCell ⟨b, o, none⟩ u) := by
  refine Ty.trans (Ty.of q) ?_
  rcases hb with rfl | rfl
  · exact Ty.setB _ _ _ _ _
  · exact Ty.setL _ _ _ _ _

set_option maxRecDepth 100000 in
set_option maxHeartbeats 4000000 in
theorem vaGet {w : World} {B L cap : Nat} {s : Vs.St} (h : Pst w B L cap s) (n : Int) : Calls Tryd.prog 15 #[.pointer (some ⟨B, 0, none⟩), .int .i64 n] w fun e w' => e = .returned (.tuple #[.int .i64 (s.get n), .int .i64 (Vs.gerr n)]) ∧ Qw w w' := by
  have hf := vaFind h n
  cases e : place B L s n with
  | none =>
    obtain ⟨h1, h2, h3⟩ := place_none e
    have e1 : s.get n = 0 := by unfold Vs.St.get; rw [if_neg h1, if_neg h2, if_neg h3]
    have e2 : Vs.gerr n = 6 := by unfold Vs.gerr; rw [if_neg (by intro k; rcases k with k | k | k; exact h1 k; exact h2 k; exact h3 k)]
    rw [e1, e2]
    rw [e] at hf
    have HF := Lib.hid hf
    clear hf e e1 e2 h1 h2 h3 h
    go_enter Tryd.func15, Tryd.ntmps15
    go_wp2_with (go_at_call 34; ((with_reducible refine HF.out.mono ?_); rintro e w' ⟨rfl, q⟩; have q0 := Lib.hid q; clear q))
    go_ret2
    exact ⟨rfl, q0.out⟩
  | some a =>
    obtain ⟨b, o, rfl, _, hc, hz, hb, hg, _⟩ := place_some h e
    rw [e] at hf
    rw [hg]
    have HF := Lib.hid hf
    generalize s.get n = x at *
    clear hf e hg h
    go_enter Tryd.func15, Tryd.ntmps15
    go_wp2_with (go_at_call 34; ((with_reducible refine HF.out.mono ?_); rintro e w' ⟨rfl, q⟩; have hc' : w'.cell? ⟨b, o, none⟩ = some (.int .i64 x) := (q.cell (p := ⟨b, o, none⟩) hb).trans hc; have q0 := Lib.hid q; clear q))
    go_ret2
    exact ⟨rfl, q0.out⟩

set_option maxRecDepth 100000 in
set_option maxHeartbeats 4000000 in
theorem vaSet {w : World} {B L cap : Nat} {s : Vs.St} (h : Pst w B L cap s) (n v : Int) : Calls Tryd.prog 24 #[.pointer (some ⟨B, 0, none⟩), .int .i64 n, .int .i64 v] w fun e w' => e = .returned (.int .i64 (Vs.serr n v)) ∧ Pst w' B L cap (s.set n v) ∧ Ty B L w w' := by
  have hf := vaFind h n
  have hs := vaSystem n
  have hv := vaValid v
  cases e : place B L s n with
  | none =>
    obtain ⟨h1, h2, h3⟩ := place_none e
    have e2 : Vs.serr n v = 6 := by unfold Vs.serr; rw [if_neg h3, if_pos ⟨h1, h2⟩]
    have e1 : s.set n v = s := by unfold Vs.St.set; rw [if_pos (by rw [e2]; decide)]
    rw [e1, e2]
    rw [e] at hf
    have HF := Lib.hid hf
    have H := Lib.hid h
    clear hf e e1 e2 h1 h2 h3 h hs hv
    go_enter Tryd.func24, Tryd.ntmps24
    go_wp2_with (go_at_call 34; ((with_reducible refine HF.out.mono ?_); rintro e w' ⟨rfl, q⟩; have q0 := Lib.hid q; clear q))
    go_ret
    exact ⟨rfl, H.out.kept q0.out, Ty.of q0.out⟩
  | some a =>
    have H := Lib.hid h
    obtain ⟨b, o, rfl, hbb, hc, hz, hb, hg, hset, _⟩ := place_some h e
    rw [e] at hf
    by_cases h3 : Vs.isS n
    · have e2 : Vs.serr n v = 13 := by unfold Vs.serr; rw [if_pos h3]
      have e1 : s.set n v = s := by unfold Vs.St.set; rw [if_pos (by rw [e2]; decide)]
      rw [e1, e2]
      rw [decide_eq_true h3] at hs
      have HF := Lib.hid hf
      have HS := Lib.hid hs
      clear hf e e1 e2 h3 h hs hv hset hg hc
      go_enter Tryd.func24, Tryd.ntmps24
      go_wp2_with (first | (go_at_call 34; ((with_reducible refine HF.out.mono ?_); rintro e w' ⟨rfl, q⟩; have q0 := Lib.hid q; clear q)) | (go_at_call 38; ((with_reducible refine (HS.out _).mono ?_); rintro e w' ⟨rfl, rfl⟩)))
      go_ret
      exact ⟨rfl, H.out.kept q0.out, Ty.of q0.out⟩
    · rw [decide_eq_false h3] at hs
      by_cases h4 : Vs.vld v
      · rw [decide_eq_true h4] at hv
        have e2 := (hset v h3 h4).2
        rw [e2]
        have HF := Lib.hid hf
        have HS := Lib.hid hs
        have HV := Lib.hid hv
        have HB := Lib.hid hbb
        have HP : Hid (∀ w', Qw w w' → Pst (w'.setCell ⟨b, o, none⟩ (.int .i64 v)) B L cap (s.set n v)) := Lib.hid fun w' q => by
          obtain ⟨b', o', e', _, _, _, _, _, k, _⟩ := place_some (h.kept q) e
          injection e' with x1 x2
          subst x1 x2
          exact (k v h3 h4).1
        generalize s.get n = x at *
        clear hf e e2 h3 h4 h hs hv hset hg hbb
        go_enter Tryd.func24, Tryd.ntmps24
        go_wp2_with (first | (go_at_call 34; ((with_reducible refine HF.out.mono ?_); rintro e w' ⟨rfl, q⟩; have hc' : w'.cell? ⟨b, o, none⟩ = some (.int .i64 x) := (q.cell (p := ⟨b, o, none⟩) hb).trans hc; have hz' : w'.frozen? ⟨b, o, none⟩ = false := (q.frozen (p := ⟨b, o, none⟩) hb).trans hz; have q0 := Lib.hid q; clear q)) | (go_at_call 38; ((with_reducible refine (HS.out _).mono ?_); rintro e w' ⟨rfl, rfl⟩)) | (go_at_call 39; ((with_reducible refine (HV.out _).mono ?_); rintro e w' ⟨rfl, rfl⟩)))
        go_ret
        exact ⟨rfl, HP.out _ q0.out, Ty.one q0.out HB.out _ _⟩
      · rw [decide_eq_false h4] at hv
        have e2 : Vs.serr n v = 3 := by
          have k : ¬ (¬ Vs.isL n ∧ ¬ Vs.isC n) := fun k => by
            unfold place at e
            rw [if_neg k.1, if_neg k.2, if_neg h3] at e
            cases e
          unfold Vs.serr; rw [if_neg h3, if_neg k, if_neg h4]
        have e1 : s.set n v = s := by unfold Vs.St.set; rw [if_pos (by rw [e2]; decide)]
        rw [e1, e2]
        have HF := Lib.hid hf
        have HS := Lib.hid hs
        have HV := Lib.hid hv
        clear hf e e1 e2 h3 h4 h hs hv hset hg hc
        go_enter Tryd.func24, Tryd.ntmps24
        go_wp2_with (first | (go_at_call 34; ((with_reducible refine HF.out.mono ?_); rintro e w' ⟨rfl, q⟩; have q0 := Lib.hid q; clear q)) | (go_at_call 38; ((with_reducible refine (HS.out _).mono ?_); rintro e w' ⟨rfl, rfl⟩)) | (go_at_call 39; ((with_reducible refine (HV.out _).mono ?_); rintro e w' ⟨rfl, rfl⟩)))
        go_ret
        exact ⟨rfl, H.out.kept q0.out, Ty.of q0.out⟩

end Go.Proofs.YtkfipjlknfinpaaDoor

/- The walk of package vars' arguments. -/
set_option linter.unusedVariables false
set_option linter.unusedSimpArgs false
namespace Go.Proofs.YtkfipjlknfinpaaDoor
open Go.RowKit


/-- A slice of values (a letter and a number each) below block C. -/
def ValsB (C : Nat) (w : World) (v : Value) (l : Vs.Ar) : Prop :=
  ∃ (a : Option Addr) (cap : Nat), v = .slice a l.length cap ∧ l.length ≤ cap ∧ cap ≤ 9223372036854775807 ∧ (l = [] ∨ ∃ b off, a = some ⟨b, off, none⟩ ∧ b < C ∧
    ∀ i, i < l.length → w.cell? ⟨b, off + i * 2, none⟩ = some (.int .i64 (Vs.ltr l i)) ∧ w.cell? ⟨b, off + i * 2 + 1, none⟩ = some (.int .i64 (Vs.num l i)) ∧
      -9223372036854775808 ≤ Vs.num l i ∧ Vs.num l i ≤ 9223372036854775807)
theorem ValsB.kept {B C : Nat} {w w' : World} {v : Value} {l : Vs.Ar} (h : ValsB B w v l) (hb : Below C w w') (hC : B ≤ C) : ValsB B w' v l := by
  obtain ⟨a, cap, h1, h2, h3, h4⟩ := h
  refine ⟨a, cap, h1, h2, h3, ?_⟩
  rcases h4 with h4 | ⟨b, off, e, hB, h⟩
  · exact .inl h4
  · refine .inr ⟨b, off, e, hB, fun i hi => ?_⟩
    have k : ∀ o, w'.cell? ⟨b, o, none⟩ = w.cell? ⟨b, o, none⟩ := fun o => hb.cell (p := ⟨b, o, none⟩) (by show b < C; omega)
    rw [k, k]
    exact h i hi
theorem ValsB.mono {B C : Nat} {w : World} {v : Value} {l : Vs.Ar} (h : ValsB B w v l) (hC : B ≤ C) : ValsB C w v l := by
  obtain ⟨a, cap, h1, h2, h3, h4⟩ := h
  refine ⟨a, cap, h1, h2, h3, ?_⟩
  rcases h4 with h4 | ⟨b, off, e, hB, h⟩
  · exact .inl h4
  · exact .inr ⟨b, off, e, by omega, h⟩
theorem ValsB.nil (C : Nat) (w : World) : ValsB C w (.slice none 0 0) [] := ⟨none, 0, rfl, Nat.le_refl _, by decide, .inl rfl⟩

/-! ### arrays of numbers, of marks -/
def ivs (l : List Int) : Array Value := (l.map (Value.int .i64)).toArray
def bvs (l : List Bool) : Array Value := (l.map Value.bool).toArray
theorem ivs_size (l : List Int) : (ivs l).size = l.length := by simp [ivs]
theorem bvs_size (l : List Bool) : (bvs l).size = l.length := by simp [bvs]
theorem ivs_at {l : List Int} {i : Nat} (h : i < l.length) : (ivs l)[i]? = some (.int .i64 (l.getD i 0)) := by
  simp [ivs, List.getD_eq_getElem?_getD, List.getElem?_eq_getElem h]
theorem bvs_at {l : List Bool} {i : Nat} (h : i < l.length) : (bvs l)[i]? = some (.bool (l.getD i false)) := by
  simp [bvs, List.getD_eq_getElem?_getD, List.getElem?_eq_getElem h]
theorem ivs_set (l : List Int) (i : Nat) (n : Int) : (ivs l).setIfInBounds i (.int .i64 n) = ivs (l.set i n) := by
  apply Array.ext'
  simp [ivs, ← List.map_set]
theorem bvs_set (l : List Bool) (i : Nat) (n : Bool) : (bvs l).setIfInBounds i (.bool n) = bvs (l.set i n) := by
  apply Array.ext'
  simp [bvs, ← List.map_set]
theorem ivs_one (l : List Int) : (ivs l).all (·.oneCell') = true := by
  simp [ivs, Value.oneCell']

theorem Qw.sr {a w : World} (h : Qw a w) {g : Nat} (hg : a.heap.size ≤ g) (cs : Array Value) : Qw a (w.setRow g cs) :=
  ⟨h.os, h.tape, h.output, by rw [setRow_size]; exact h.size, fun k hk => (setRow_other w g k cs (by omega)).trans (h.block k hk)⟩
theorem Bx.sr {w : World} {g : Nat} {old : Array Value} {t : TypeId} (h : Bx w g old t) (cs : Array Value) : Bx (w.setRow g cs) g cs t := setRow_heap w g old cs t _ h
theorem Bx.srOther {w : World} {b g : Nat} {old : Array Value} {t : TypeId} (h : Bx w b old t) (hb : b ≠ g) (cs : Array Value) : Bx (w.setRow g cs) b old t := (setRow_other w g b cs hb).trans h

theorem info_loc : (Tryd.prog.info? 79).map (·.size) = some 33 := by kernel_rfl
theorem und_loc : Tryd.prog.underlying 79 = some (.array 33 3) := by kernel_rfl
theorem built_loc : Tryd.prog.built 79 [] = some (ivs (Vs.zer 33)) := by kernel_rfl
theorem bx3 (w : World) {A B C A' B' C' : Array Value} (ta tb tc : TypeId) (hA : A = A') (hB : B = B') (hC : C = C') :
    Bx (((w.alloc (.cells A ta)).alloc (.cells B tb)).alloc (.cells C tc)) w.heap.size A' ta ∧ Bx (((w.alloc (.cells A ta)).alloc (.cells B tb)).alloc (.cells C tc)) (w.heap.size + 1) B' tb ∧
      Bx (((w.alloc (.cells A ta)).alloc (.cells B tb)).alloc (.cells C tc)) (w.heap.size + 1 + 1) C' tc := by
  subst hA hB hC
  have e1 : (w.alloc (.cells A ta)).heap.size = w.heap.size + 1 := by simp
  have e2 : ((w.alloc (.cells A ta)).alloc (.cells B tb)).heap.size = w.heap.size + 1 + 1 := by simp
  refine ⟨((Bx.new w _ _).alloc _).alloc _, ?_, ?_⟩
  · have := (Bx.new (w.alloc (.cells A ta)) B tb).alloc (.cells C tc)
    rwa [e1] at this
  · have := Bx.new ((w.alloc (.cells A ta)).alloc (.cells B tb)) C tc
    rwa [e2] at this

theorem ret_arr {fn : Func} {a : Act} {w : World} {R : Nat} {l : List Int} {t : TypeId} {n : Int} (hr : fn.results = #[.cell 2 79, .tmp 3]) (h2 : a.tmps[2]?.getD undef = .pointer (some ⟨R, 0, none⟩)) (h3 : a.tmps[3]?.getD undef = .int .i64 n)
    (X : Bx w R (ivs l) t) (hl : l.length = 33) : (results fn a.tmps).run Tryd.prog w = .ok (.tuple #[.agg (ivs l), .int .i64 n]) w := by
  have h := run_loadVar_row (P := Tryd.prog) w R t 79 (ivs l) (0, 0) _ X und_loc rfl (by rw [ivs_size, hl]; exact info_loc)
  simp [results, hr, h2, h3, asAddr, h]

section
variable {ops : Array Oper} {rest : List Oper} {dst : Option Tmp} {ty : TypeId} {pos : String} {after : Array Edge} {a : Act} {w : World} {Q : Exit → Act → World → Prop}
theorem bu_loc (h : wpList Tryd.prog ops Q rest (a.put dst (.agg (ivs (Vs.zer 33)))) w) :
    wpList Tryd.prog ops Q (⟨dst, .build 79 #[], ty, pos, after, none⟩ :: rest) a w := by
  have e : Tryd.prog.built 79 ((#[] : Array (Nat × Operand)).map fun (i, x) => (i, a.eval x)).toList = some (ivs (Vs.zer 33)) := by simpa using built_loc
  refine wpList_build rfl 79 #[] rfl (by rw [e]; rfl) ?_
  rw [e]
  exact h
theorem st_loc (x y : Tmp) {R : Nat} {t : TypeId} {old : Array Value} {l : List Int} (hx : a.eval (.tmp x) = .pointer (some ⟨R, 0, none⟩)) (hy : a.eval (.tmp y) = .agg (ivs l)) (X : Bx w R old t) (ho : old.size = 33) (hl : l.length = 33)
    (h : wpList Tryd.prog ops Q rest (a.put dst undef) (w.setRow R (ivs l))) : wpList Tryd.prog ops Q (⟨dst, .store 79 (.tmp x) (.tmp y), ty, pos, after, none⟩ :: rest) a w :=
  wpList_store_row rfl 79 (.tmp x) (.tmp y) rfl R (ivs l) hx hy t old X (by rw [ivs_size, hl]; exact info_loc) (by rw [ho, ivs_size, hl]) (ivs_one l) h
theorem ld_loc (x : Tmp) {R : Nat} {t : TypeId} {l : List Int} (hx : a.eval (.tmp x) = .pointer (some ⟨R, 0, none⟩)) (X : Bx w R (ivs l) t) (hl : l.length = 33)
    (h : wpList Tryd.prog ops Q rest (a.put dst (.agg (ivs l))) w) : wpList Tryd.prog ops Q (⟨dst, .load 79 (.tmp x), ty, pos, after, none⟩ :: rest) a w :=
  wpList_load_row rfl 79 (.tmp x) rfl R hx t (ivs l) (0, 0) _ X und_loc rfl (by rw [ivs_size, hl]; exact info_loc) h
end

def ArgsR (l : Vs.Ar) (w : World) (e : Ending) (w' : World) : Prop := (∃ vs : List Int, vs.length = 33 ∧ (Vs.err l = 0 → vs = Vs.vals l l.length) ∧ e = .returned (.tuple #[.agg (ivs vs), .int .i64 (Vs.err l)])) ∧ Qw w w'

end Go.Proofs.YtkfipjlknfinpaaDoor
