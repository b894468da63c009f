
/- Stores of variables in memory: of the program and of its specification. -/
import Derived.Test.YtijakijjeoaikaaCore
import Derived.Test.YtijakijjeoaikaaKept
import Derived.Test.YtijakijjeoaikaaVaP
import Derived.ArgAppend
import Derived.OwnWalk
import Derived.OneCell
import Derived.IntWalk
import Derived.Deep.QuietTactic
import Derived.BigQuiet
import Derived.StillTailTactics
import Derived.WalkLawsBesides
import Derived.Outline
set_option linter.unusedVariables false
set_option linter.unusedSimpArgs false
namespace Go.Proofs.Ytijakijjeoaikaa
open Go.RowKit

theorem Qw.al {a w : World} (h : Qw a w) (o : Obj) : Qw a (w.alloc o) := Below.alloc h h.size o
theorem Qw.dr {a w : World} (h : Qw a w) : Qw a w.drew := Below.drew h
theorem Qw.dn {a w : World} (h : Qw a w) (n : Nat) : Qw a (w.drewN n) := Below.trans h ⟨rfl, rfl, rfl, Nat.le_refl _, fun _ _ => rfl⟩
theorem Qw.sc {a w : World} (h : Qw a w) {p : Addr} (hp : a.heap.size ≤ p.block) (u : Value) : Qw a (w.setCell p u) := Below.setCell h hp u
theorem Qw.le {w w' : World} (h : Qw w w') : w.heap.size ≤ w'.heap.size := h.size
theorem Qw.bel {w w' : World} (h : Qw w w') : Below w.heap.size w w' := h

/-- Only the blocks B and L of the old ones have turned. -/
structure Ty (B L : Nat) (w w' : World) : Prop where
  os : w'.os = w.os
  tape : w'.tape = w.tape
  output : w'.output = w.output
  size : w.heap.size ≤ w'.heap.size
  block : ∀ k, k < w.heap.size → k ≠ B → k ≠ L → w'.heap[k]? = w.heap[k]?

theorem Ty.refl (B L : Nat) (w : World) : Ty B L w w := ⟨rfl, rfl, rfl, Nat.le_refl _, fun _ _ _ _ => rfl⟩
theorem Ty.of {B L : Nat} {w w' : World} (q : Qw w w') : Ty B L w w' := ⟨q.os, q.tape, q.output, q.size, fun k h _ _ => q.block k h⟩
theorem Ty.trans {B L : Nat} {a b c : World} (h : Ty B L a b) (k : Ty B L b c) : Ty B L a c :=
  ⟨k.os.trans h.os, k.tape.trans h.tape, k.output.trans h.output, Nat.le_trans h.size k.size, fun i hi h1 h2 => (k.block i (Nat.lt_of_lt_of_le hi h.size) h1 h2).trans (h.block i hi h1 h2)⟩
theorem Ty.setB (B L : Nat) (w : World) (o : Nat) (u : Value) : Ty B L w (w.setCell ⟨B, o, none⟩ u) :=
  ⟨rfl, rfl, rfl, by simp [World.setCell], fun k _ h _ => Below.heap_setCell _ _ _ _ h⟩
theorem Ty.setL (B L : Nat) (w : World) (o : Nat) (u : Value) : Ty B L w (w.setCell ⟨L, o, none⟩ u) :=
  ⟨rfl, rfl, rfl, by simp [World.setCell], fun k _ _ h => Below.heap_setCell _ _ _ _ h⟩
theorem Ty.setNew {B L : Nat} {a w : World} (h : Ty B L a w) {p : Addr} (hp : a.heap.size ≤ p.block) (u : Value) : Ty B L a (w.setCell p u) :=
  ⟨h.os, h.tape, h.output, by have := h.size; simpa [World.setCell] using this, fun k hk h1 h2 => (Below.heap_setCell _ _ _ _ (by omega)).trans (h.block k hk h1 h2)⟩
/-- What lies below a block that lies below both is as it was. -/
theorem Ty.below {B L C : Nat} {w w' : World} (h : Ty B L w w') (hB : C ≤ B) (hL : C ≤ L) (hC : C ≤ w.heap.size) : Below C w w' := ⟨h.os, h.tape, h.output, h.size, fun k hk => h.block k (by omega) (by omega) (by omega)⟩
theorem Bx.ty {B L : Nat} {w w' : World} {b : Nat} {cs : Array Value} {t : TypeId} (h : Bx w b cs t) (q : Ty B L w w') (h1 : b ≠ B) (h2 : b ≠ L) : Bx w' b cs t := (q.block b h.lt h1 h2).trans h

/-- The cells of a store. -/
def stc (v : Value) (s : Vs.St) : Array Value := (v :: (s.cm ++ s.sy).map (Value.int .i64)).toArray
theorem stc_size (v : Value) {s : Vs.St} (h : s.ok) : (stc v s).size = 1101 := by simp [stc, h.hc, h.hs]
theorem stc_0 (v : Value) (s : Vs.St) : (stc v s)[0]? = some v := rfl
theorem stc_c (v : Value) {s : Vs.St} (h : s.ok) {k : Nat} (hk : k < 100) : (stc v s)[1 + k]? = some (.int .i64 (s.cm.getD k 0)) := by
  have l := h.hc
  have e : (stc v s)[1 + k]? = ((s.cm ++ s.sy).map (Value.int .i64))[k]? := by unfold stc; rw [Nat.add_comm]; simp
  rw [e, List.getElem?_map, List.getElem?_append_left (by omega), List.getD_eq_getElem?_getD, List.getElem?_eq_getElem (by omega)]
  rfl
theorem stc_s (v : Value) {s : Vs.St} (h : s.ok) {k : Nat} (hk : k < 1000) : (stc v s)[101 + k]? = some (.int .i64 (s.sy.getD k 0)) := by
  have l := h.hc
  have l2 := h.hs
  have e : (stc v s)[101 + k]? = ((s.cm ++ s.sy).map (Value.int .i64))[100 + k]? := by unfold stc; rw [show 101 + k = 100 + k + 1 by omega]; simp
  rw [e, List.getElem?_map, List.getElem?_append_right (by omega), List.getD_eq_getElem?_getD, List.getElem?_eq_getElem (by omega), List.getElem?_eq_getElem (by omega)]
  simp [l]
theorem stc_set0 (v u : Value) (s : Vs.St) : (stc v s).setIfInBounds 0 u = stc u s := by
  apply Array.ext'
  simp [stc]
theorem stc_setc (v : Value) {s : Vs.St} (h : s.ok) {k : Nat} (hk : k < 100) (n : Int) : (stc v s).setIfInBounds (1 + k) (.int .i64 n) = stc v { s with cm := s.cm.set k n } := by
  have l := h.hc
  apply Array.ext'
  unfold stc
  rw [Nat.add_comm]
  simp [List.set_append, l, hk, ← List.map_set]
theorem stc_sets (v : Value) {s : Vs.St} (h : s.ok) {k : Nat} (hk : k < 1000) (n : Int) : (stc v s).setIfInBounds (101 + k) (.int .i64 n) = stc v { s with sy := s.sy.set k n } := by
  have l := h.hc
  apply Array.ext'
  unfold stc
  rw [show 101 + k = 100 + k + 1 by omega]
  simp [List.set_append, l, hk, ← List.map_set]

/-- Block L holds, first of all, the levels. -/
def Lvl (E : TypeId) (w : World) (L cap : Nat) (s : Vs.St) : Prop :=
  ∃ cur : Array Value, w.heap[L]? = some (.cells cur E (0, 0)) ∧ cur.size = cap * 33 ∧ cur.toList.take (s.n * 33) = s.ls.map (Value.int .i64)
theorem Lvl.lt {E : TypeId} {w : World} {L cap : Nat} {s : Vs.St} (h : Lvl E w L cap s) : L < w.heap.size := by
  obtain ⟨cur, hg, _⟩ := h
  exact (Array.getElem?_eq_some_iff.1 hg).1
theorem Lvl.same {E : TypeId} {w w' : World} {L cap : Nat} {s : Vs.St} (h : Lvl E w L cap s) (e : w'.heap[L]? = w.heap[L]?) : Lvl E w' L cap s := by
  obtain ⟨cur, hg, r⟩ := h
  exact ⟨cur, e.trans hg, r⟩

/-- Block B holds a store whose levels lie in block L. -/
structure Stb (T E : TypeId) (w : World) (B L cap : Nat) (s : Vs.St) : Prop where
  bx : Bx w B (stc (.slice (some ⟨L, 0, none⟩) s.n cap) s) T
  lv : Lvl E w L cap s
  ne : L ≠ B
  c1 : s.n ≤ cap
  c2 : cap ≤ maxLen
  ok : s.ok

section
variable {T E : TypeId} {w w' : World} {B L cap : Nat} {s : Vs.St}
theorem Stb.ltB (h : Stb T E w B L cap s) : B < w.heap.size := h.bx.lt
theorem Stb.ltL (h : Stb T E w B L cap s) : L < w.heap.size := h.lv.lt
theorem Stb.kept (h : Stb T E w B L cap s) (q : Qw w w') : Stb T E w' B L cap s :=
  ⟨h.bx.kept q, h.lv.same (q.block L h.ltL), h.ne, h.c1, h.c2, h.ok⟩
theorem Stb.ty {B' L' : Nat} (h : Stb T E w B L cap s) (q : Ty B' L' w w') (h1 : B ≠ B') (h2 : B ≠ L') (h3 : L ≠ B') (h4 : L ≠ L') : Stb T E w' B L cap s :=
  ⟨h.bx.ty q h1 h2, h.lv.same (q.block L h.ltL h3 h4), h.ne, h.c1, h.c2, h.ok⟩
theorem Stb.cell0 (h : Stb T E w B L cap s) : w.cell? ⟨B, 0, none⟩ = some (.slice (some ⟨L, 0, none⟩) s.n cap) := h.bx.cell' 0 _ (stc_0 _ _)
theorem Stb.cellC (h : Stb T E w B L cap s) {k : Nat} (hk : k < 100) : w.cell? ⟨B, 1 + k, none⟩ = some (.int .i64 (s.cm.getD k 0)) := h.bx.cell' _ _ (stc_c _ h.ok hk)
theorem Stb.cellS (h : Stb T E w B L cap s) {k : Nat} (hk : k < 1000) : w.cell? ⟨B, 101 + k, none⟩ = some (.int .i64 (s.sy.getD k 0)) := h.bx.cell' _ _ (stc_s _ h.ok hk)
theorem Stb.cellL (h : Stb T E w B L cap s) {k : Nat} (hk : k < s.n * 33) : w.cell? ⟨L, k, none⟩ = some (.int .i64 (s.ls.getD k 0)) := by
  obtain ⟨cur, hg, hs, ht⟩ := h.lv
  have l := h.ok.hl
  rw [cell_of_row w L k cur E (0, 0) hg]
  have e : (cur.toList.take (s.n * 33))[k]? = (s.ls.map (Value.int .i64))[k]? := by rw [ht]
  rw [List.getElem?_take_of_lt hk, List.getElem?_map, List.getElem?_eq_getElem (l := s.ls) (by omega)] at e
  rw [List.getD_eq_getElem?_getD, List.getElem?_eq_getElem (by omega)]
  simpa using e
theorem Stb.freeB (h : Stb T E w B L cap s) (o : Nat) : w.frozen? ⟨B, o, none⟩ = false := h.bx.free o
theorem Stb.freeL (h : Stb T E w B L cap s) (o : Nat) : w.frozen? ⟨L, o, none⟩ = false := by
  obtain ⟨cur, hg, _⟩ := h.lv
  exact frozen_of_row w L o cur E hg
theorem Stb.setC (h : Stb T E w B L cap s) {k : Nat} (hk : k < 100) (n : Int) : Stb T E (w.setCell ⟨B, 1 + k, none⟩ (.int .i64 n)) B L cap { s with cm := s.cm.set k n } := by
  have b := h.bx.set (1 + k) (.int .i64 n)
  rw [stc_setc _ h.ok hk] at b
  obtain ⟨o1, o2, o3, o4, o5⟩ := h.ok
  exact ⟨b, h.lv.same (Below.heap_setCell _ _ _ _ h.ne), h.ne, h.c1, h.c2, ⟨o1, o2, o3, by simpa using o4, o5⟩⟩
theorem Stb.setS (h : Stb T E w B L cap s) {k : Nat} (hk : k < 1000) (n : Int) : Stb T E (w.setCell ⟨B, 101 + k, none⟩ (.int .i64 n)) B L cap { s with sy := s.sy.set k n } := by
  have b := h.bx.set (101 + k) (.int .i64 n)
  rw [stc_sets _ h.ok hk] at b
  obtain ⟨o1, o2, o3, o4, o5⟩ := h.ok
  exact ⟨b, h.lv.same (Below.heap_setCell _ _ _ _ h.ne), h.ne, h.c1, h.c2, ⟨o1, o2, o3, o4, by simpa using o5⟩⟩
theorem Stb.setL (h : Stb T E w B L cap s) {k : Nat} (hk : k < s.n * 33) (n : Int) : Stb T E (w.setCell ⟨L, k, none⟩ (.int .i64 n)) B L cap { s with ls := s.ls.set k n } := by
  obtain ⟨cur, hg, hs, ht⟩ := h.lv
  have g := heap_setCell_same w L k cur E (.int .i64 n) hg
  obtain ⟨o1, o2, o3, o4, o5⟩ := h.ok
  refine ⟨(Below.heap_setCell _ _ _ _ (Ne.symm h.ne)).trans h.bx, ⟨_, g, by simpa using hs, ?_⟩, h.ne, h.c1, h.c2, ⟨o1, o2, by simpa using o3, o4, o5⟩⟩
  show (cur.setIfInBounds k (.int .i64 n)).toList.take (s.n * 33) = (s.ls.set k n).map _
  rw [Array.toList_setIfInBounds, List.take_set, ht, ← List.map_set]
/-- The levels shortened. -/
theorem Stb.cut (h : Stb T E w B L cap s) (hn : s.n ≠ 1) : Stb T E (w.setCell ⟨B, 0, none⟩ (.slice (some ⟨L, 0, none⟩) (s.n - 1) cap)) B L cap s.pop := by
  have b := h.bx.set 0 (.slice (some ⟨L, 0, none⟩) (s.n - 1) cap)
  rw [stc_set0] at b
  have e : s.pop = { s with n := s.n - 1, ls := s.ls.take ((s.n - 1) * 33) } := if_neg hn
  have ok := Vs.pop_ok h.ok
  obtain ⟨cur, hg, hs, ht⟩ := h.lv
  have c1 := h.c1
  rw [e] at ok ⊢
  refine ⟨b, ⟨cur, (Below.heap_setCell _ _ _ _ h.ne).trans hg, hs, ?_⟩, h.ne, by show s.n - 1 ≤ cap; omega, h.c2, ok⟩
  show cur.toList.take ((s.n - 1) * 33) = (s.ls.take ((s.n - 1) * 33)).map _
  rw [List.map_take, ← ht, List.take_take, Nat.min_eq_left (by omega)]
/-- The levels own their row. -/
theorem Stb.owns (h : Stb T E w B L cap s) : w.ownsRow L E 33 (.slice (some ⟨L, 0, none⟩) s.n cap) s.n (s.ls.map (Value.int .i64)) := by
  obtain ⟨cur, hg, hs, ht⟩ := h.lv
  exact ⟨by simpa using h.ok.hl, .inr ⟨L, cap, cur, rfl, Nat.le_refl _, hg, h.c1, h.c2, hs, ht⟩⟩
theorem Stb.owns_cells (h : Stb T E w B L cap s) : ∀ j u, (s.ls.map (Value.int .i64))[j]? = some u → w.cell? ((⟨L, 0, none⟩ : Addr).add j) = some u := h.owns.cells (g := L) rfl
end

theorem ints_one (l : List Int) : ∀ u ∈ l.map (Value.int .i64), u.oneCell' = true := by
  intro u hu
  obtain ⟨x, _, rfl⟩ := List.mem_map.1 hu
  rfl

/-- Another slice of levels stored. -/
theorem Stb.putRow {T E : TypeId} {w : World} {B : Nat} {s : Vs.St} {v0 : Value} (X : Bx w B (stc v0 s) T) {L' cap' n' : Nat} {ls' : List Int} (hb : L' ≠ B)
    (own : w.ownsRow L' E 33 (.slice (some ⟨L', 0, none⟩) n' cap') n' (ls'.map (Value.int .i64))) (ok : ({ s with n := n', ls := ls' } : Vs.St).ok) :
    Stb T E (w.setCell ⟨B, 0, none⟩ (.slice (some ⟨L', 0, none⟩) n' cap')) B L' cap' { s with n := n', ls := ls' } := by
  have b := X.set 0 (.slice (some ⟨L', 0, none⟩) n' cap')
  rw [stc_set0] at b
  rcases own.2 with ⟨h, _⟩ | ⟨g, c, cur, h, _, hg, h1, h2, h3, h4⟩
  · cases h
  · injection h with e1 e2 e3
    injection e1 with e1
    injection e1 with e1
    subst e1 e3
    exact ⟨b, ⟨cur, (Below.heap_setCell _ _ _ _ hb).trans hg, h3, h4⟩, hb, h1, h2, ok⟩

end Go.Proofs.Ytijakijjeoaikaa
