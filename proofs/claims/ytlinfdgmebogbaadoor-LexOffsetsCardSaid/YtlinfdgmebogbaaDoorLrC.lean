
/- The walk of the specification's Tokens. -/
import Derived.Test.YtlinfdgmebogbaaDoorLrB
import Derived.Test.YtlinfdgmebogbaaDoorLxD
import Derived.Test.YtlinfdgmebogbaaDoorFxE
import Derived.Outline
set_option linter.unusedVariables false
set_option linter.unusedSimpArgs false
namespace Go.Proofs.YtlinfdgmebogbaaDoor
open Go.RowKit

theorem one_new (w : World) (cs : Array Value) (t : TypeId) : (w.alloc (.cells cs t)).heap[w.heap.size]? = some (.cells cs t (0, 0)) := Bx.new w cs t
theorem le_one {w : World} {B : Nat} (hs : B ≤ w.heap.size) {o : Obj} : B ≤ (w.alloc o).heap.size := by simp; omega
theorem after_one {w wr w1 w2 : World} {B : Nat} (hB : Below B w wr) (hs : B ≤ wr.heap.size) (q : Qw wr w1) {o : Obj} (hb : Below B (w1.alloc o) w2) : Below B w w2 ∧ B ≤ w2.heap.size := by
  have h1 := q.size
  have h2 := hb.size
  have h3 : B ≤ (w1.alloc o).heap.size := by simp; omega
  exact ⟨((hB.trans (q.mono hs)).alloc (by omega) _).trans hb, by omega⟩

namespace Lx
theorem index_step (l : List UInt8) (j : Nat) (h : j < l.length) : (l[j] = 41 → Lib.indexByte (l.drop j) 41 = 0) ∧ (l[j] ≠ 41 → Lib.indexByte (l.drop j) 41 = if Lib.indexByte (l.drop (j + 1)) 41 = -1 then -1 else Lib.indexByte (l.drop (j + 1)) 41 + 1) := by
  have e : l.drop j = l[j] :: l.drop (j + 1) := List.drop_eq_getElem_cons h
  have u : Lib.indexByte (l[j] :: l.drop (j + 1)) 41 = if l[j] == 41 then 0 else if Lib.indexByte (l.drop (j + 1)) 41 == -1 then -1 else Lib.indexByte (l.drop (j + 1)) 41 + 1 := rfl
  rw [e, u]
  refine ⟨fun h => by rw [h]; rfl, fun h => ?_⟩
  rw [if_neg (by simpa using h)]
  by_cases z : Lib.indexByte (l.drop (j + 1)) 41 = -1
  · rw [z]; rfl
  · rw [if_neg z, if_neg (by simpa using z)]

/-- No closing bracket from a to j. -/
def Opn (l : List UInt8) (a j : Nat) : Prop := a ≤ j ∧ j ≤ l.length ∧ Lib.indexByte (l.drop a) 41 = if Lib.indexByte (l.drop j) 41 = -1 then -1 else Lib.indexByte (l.drop j) 41 + ((j : Int) - (a : Int))
theorem Opn.start (l : List UInt8) (a : Nat) (h : a ≤ l.length) : Opn l a a := ⟨Nat.le_refl _, h, by split <;> omega⟩
theorem Opn.more {l : List UInt8} {a j : Nat} (h : Opn l a j) (hj : j < l.length) (n : l[j] ≠ 41) : Opn l a (j + 1) := by
  obtain ⟨h1, h2, h3⟩ := h
  refine ⟨by omega, by omega, ?_⟩
  rw [h3, (index_step l j hj).2 n]
  have := Lib.indexByte_ge (l.drop (j + 1)) 41
  split <;> split <;> omega
theorem Opn.fin {l : List UInt8} {a j : Nat} (h : Opn l a j) (hj : j = l.length) : Lib.indexByte (l.drop a) 41 = -1 := by
  rw [h.2.2, hj, List.drop_length]; rfl
theorem Opn.hit {l : List UInt8} {a j : Nat} (h : Opn l a j) (hj : j < l.length) (n : l[j] = 41) : Lib.indexByte (l.drop a) 41 = ((j - a : Nat) : Int) := by
  rw [h.2.2, (index_step l j hj).1 n]
  have := h.1
  simp; omega

theorem fst_num {c : UInt8} {t : List UInt8} (h : isn c = true) : fst (c :: t) = fnum (c :: t) := if_pos h
theorem fst_up {c : UInt8} {t : List UInt8} (h : isn c = false) (h1 : isu c = true) : fst (c :: t) = if fnm (c :: t) = [] then ⟨1, c.toNat, [], 1⟩ else ⟨3, 0, fnm (c :: t), (fnm (c :: t)).length⟩ := by
  unfold fst; rw [if_neg (by rw [show (c :: t).getD 0 0 = c from rfl, h]; decide), if_pos (by exact h1)]; rfl
theorem fst_sg {c : UInt8} {t : List UInt8} (h : isn c = false) (h1 : isu c = false) (h2 : isg c = true) : fst (c :: t) = ⟨4, 0, [c], 1⟩ := by
  unfold fst; rw [if_neg (by rw [show (c :: t).getD 0 0 = c from rfl, h]; decide), if_neg (by rw [show (c :: t).getD 0 0 = c from rfl, h1]; decide), if_pos (by exact h2)]; rfl
theorem fst_no {c : UInt8} {t : List UInt8} (h : isn c = false) (h1 : isu c = false) (h2 : isg c = false) : fst (c :: t) = ⟨0, 0, [], 0⟩ := by
  unfold fst; rw [if_neg (by rw [show (c :: t).getD 0 0 = c from rfl, h]; decide), if_neg (by rw [show (c :: t).getD 0 0 = c from rfl, h1]; decide), if_neg (by rw [show (c :: t).getD 0 0 = c from rfl, h2]; decide)]
theorem act_one {c : UInt8} {t : List UInt8} {f : F} (h : act c t = if f.m = 0 then .bad else .tok f) (hm : ¬ f.m = 0) : act c t = .tok f := by rw [h, if_neg hm]
end Lx

theorem tok_append2 {ops : Array Oper} {rest : List Oper} {dst : Option Tmp} {ty : TypeId} {pos : String} {after : Array Edge} {a : Act} {w : World} {Q : Exit → Act → World → Prop} (s x : Tmp) (tk tn : Int) (tp : Nat) (tx : List UInt8) (B : Nat) (v : Value) (ts : List Lx.Tok) (g : Nat)
    (hs : a.eval (.tmp s) = v) (hx : a.eval (.tmp x) = .slice (some ⟨g, 0, none⟩) 1 1) (hb : w.heap[g]? = some (.cells #[.int .i64 tk, .int .i64 tn, .int .i64 (tp : Int), .string (bs tx)] 39 (0, 0)))
    (hown : OwnT B w v ts) (hl : ts.length ≤ 1000000) (hB : B ≤ w.heap.size)
    (h : ∀ v' w', OwnT B w' v' (ts ++ [⟨tk, tn, tp, tx⟩]) → Below B w w' → wpList Tryd.prog ops Q rest (a.put dst v') w') :
    wpList Tryd.prog ops Q (⟨dst, .call { callee := .builtin .append, args := #[.tmp s, .tmp x], argTypes := #[28, 28] }, ty, pos, after, none⟩ :: rest) a w :=
  tok_append s x ⟨tk, tn, tp, tx⟩ B v ts g hs hx hb hown hl hB h

end Go.Proofs.YtlinfdgmebogbaaDoor
