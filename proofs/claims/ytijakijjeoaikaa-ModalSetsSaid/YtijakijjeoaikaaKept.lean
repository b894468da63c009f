
/- Worlds in which nothing old has turned, as a class for regions that draw their order; blocks that are known whole. -/
import Derived.Test.YtijakijjeoaikaaCore
import Derived.Test.YtijakijjeoaikaaQtail
import Derived.Lib.Hide
import Derived.Outline
set_option linter.unusedVariables false
namespace Go.Proofs.Ytijakijjeoaikaa
open Go Go.RowKit

/-- A world behind this one in which nothing old has turned. -/
structure Kept (w : World) where
  v : World
  h : Qw w v
instance (w : World) : Nonempty (Kept w) := ⟨⟨w, Qw.refl w⟩⟩

theorem qw_drew1 (w : World) : Qw w w.drew := ⟨rfl, rfl, rfl, Nat.le_refl _, fun _ _ => rfl⟩

theorem Kept.call {P : Program} {w : World} {f : FuncId} {args : Array Value} {n : Kept w} {v : Value} (h : Calls P f args n.v fun e w' => e = .returned v ∧ Qw n.v w') :
    Calls P f args n.v fun e w'' => e = .returned v ∧ ∃ p : Kept w, w'' = p.v :=
  h.mono fun _ w'' ⟨he, hq⟩ => ⟨he, ⟨w'', n.h.trans hq⟩, rfl⟩
theorem Kept.same {P : Program} {w : World} {f : FuncId} {args : Array Value} {n : Kept w} {v : Value} (h : Calls P f args n.v fun e w' => e = .returned v ∧ n.v = w') :
    Calls P f args n.v fun e w'' => e = .returned v ∧ ∃ p : Kept w, w'' = p.v :=
  h.mono fun _ _ ⟨he, hq⟩ => ⟨he, n, hq.symm⟩

/-- A region that draws its order, of loads and of calls that may make memory. -/
theorem region_kept {P : Program} {id : Nat} {Q : Exit → Act → World → Prop} {a : Act} {w : World} {l : List Oper} (hm : P.follows .mixedOrders = true) (hB : Region.lexB .any l.toArray = true)
    (h : wpQuiet P l.toArray (fun w' => ∃ p : Kept w, w' = p.v) (fun a' => ∀ w', Qw w w' → Q .normal a' w') l a) : (Code.region id l.toArray true).wp P Q a w := by
  have hh : wpQuiet P l.toArray (fun w' => ∃ p : Kept w, w' = p.v) (fun a' => ∀ w', (∃ p : Kept w, w' = p.v) → Q .normal a' w') l a := by
    have key : (fun a' => ∀ w', (∃ p : Kept w, w' = p.v) → Q .normal a' w') = (fun a' => ∀ w', Qw w w' → Q .normal a' w') := by
      funext a'
      exact propext ⟨fun k w' hq => k w' ⟨⟨w', hq⟩, rfl⟩, fun k w' ⟨p, e⟩ => k w' (e ▸ p.h)⟩
    rw [key]; exact h
  exact wp_region_quiet (C := fun w' => ∃ p : Kept w, w' = p.v) hm hB ⟨⟨_, qw_drew1 w⟩, rfl⟩ (by simpa using hh)

/-- The same for a long region, by the quicker check. -/
theorem region_kept_fast {P : Program} {id : Nat} {Q : Exit → Act → World → Prop} {a : Act} {w : World} {l : List Oper} (hm : P.follows .mixedOrders = true) (hB : (Region.noSelect l.toArray && fastFrom l.toArray 0 l) = true)
    (h : wpQuiet P l.toArray (fun w' => ∃ p : Kept w, w' = p.v) (fun a' => ∀ w', Qw w w' → Q .normal a' w') l a) : (Code.region id l.toArray true).wp P Q a w := by
  refine region_quiet_fast (C := fun w' => ∃ p : Kept w, w' = p.v) hm hB ⟨⟨_, qw_drew1 w⟩, rfl⟩ ?_
  have key : (fun a' => ∀ w', (∃ p : Kept w, w' = p.v) → Q .normal a' w') = (fun a' => ∀ w', Qw w w' → Q .normal a' w') := by
    funext a'
    exact propext ⟨fun k w' hq => k w' ⟨⟨w', hq⟩, rfl⟩, fun k w' ⟨p, e⟩ => k w' (e ▸ p.h)⟩
  rw [key]; exact h

/-- The same with stores at the end. -/
theorem region_kept_tail {P : Program} {id : Nat} {Q : Exit → Act → World → Prop} {a : Act} {w : World} {l : List Oper} (n : Nat) (hm : P.follows .mixedOrders = true)
    (hB : (Region.noSelect l.toArray && decide (0 < n) && decide (n ≤ l.length) && Region.sinkB .any l.toArray (n - 1) && restB l.toArray n && lexOk l.toArray n n 0 (Array.replicate l.length false) &&
      Region.seqB .any l.toArray (l.length - n) n (doneAt n 0 (Array.replicate l.length false))) = true)
    (h : wpQuiet P l.toArray (fun w' => ∃ p : Kept w, w' = p.v) (fun a' => ∀ w', Qw w w' → wpList P l.toArray Q (l.drop n) a' w') (l.take n) a) : (Code.region id l.toArray true).wp P Q a w := by
  refine region_quiet_tail (C := fun w' => ∃ p : Kept w, w' = p.v) n hm hB ⟨⟨_, qw_drew1 w⟩, rfl⟩ ?_
  have key : (fun a' => ∀ w', (∃ p : Kept w, w' = p.v) → wpList P l.toArray Q (l.drop n) a' w') = (fun a' => ∀ w', Qw w w' → wpList P l.toArray Q (l.drop n) a' w') := by
    funext a'
    exact propext ⟨fun k w' hq => k w' ⟨⟨w', hq⟩, rfl⟩, fun k w' ⟨p, e⟩ => k w' (e ▸ p.h)⟩
  rw [key]; exact h
/-- The same, where one number may still be reckoned among the stores. -/
theorem region_kept_rest {P : Program} {id : Nat} {Q : Exit → Act → World → Prop} {a : Act} {w : World} {l : List Oper} (n : Nat) (hm : P.follows .mixedOrders = true)
    (hB : (Region.noSelect l.toArray && decide (0 < n) && decide (n ≤ l.length) && Region.sinkB .any l.toArray (n - 1) && restB l.toArray n && lexOk l.toArray n n 0 (Array.replicate l.length false)) = true)
    (h : wpQuiet P l.toArray (fun w' => ∃ p : Kept w, w' = p.v) (fun a' => ∀ w', Qw w w' → wpAny P .any l.toArray Q (l.length - n) (doneAt n 0 (Array.replicate l.length false)) a' w') (l.take n) a) : (Code.region id l.toArray true).wp P Q a w := by
  refine region_quiet_rest (C := fun w' => ∃ p : Kept w, w' = p.v) n hm hB ⟨⟨_, qw_drew1 w⟩, rfl⟩ ?_
  have key : (fun a' => ∀ w', (∃ p : Kept w, w' = p.v) → wpAny P .any l.toArray Q (l.length - n) (doneAt n 0 (Array.replicate l.length false)) a' w') = (fun a' => ∀ w', Qw w w' → wpAny P .any l.toArray Q (l.length - n) (doneAt n 0 (Array.replicate l.length false)) a' w') := by
    funext a'
    exact propext ⟨fun k w' hq => k w' ⟨⟨w', hq⟩, rfl⟩, fun k w' ⟨p, e⟩ => k w' (e ▸ p.h)⟩
  rw [key]; exact h

/-- The world under a name. -/
theorem code_of {P : Program} {c : Code} {Q : Exit → Act → World → Prop} {a : Act} {w : World} (S : World → Prop) (h : S w) (k : ∀ w', S w' → c.wp P Q a w') : c.wp P Q a w := k w h

/-- Block b is known whole, and may be written. -/
def Bx (w : World) (b : Nat) (cs : Array Value) (t : TypeId) : Prop := w.heap[b]? = some (.cells cs t (0, 0))
section
variable {w w' : World} {b : Nat} {cs : Array Value} {t : TypeId}
theorem Bx.lt (h : Bx w b cs t) : b < w.heap.size := (Array.getElem?_eq_some_iff.1 h).1
theorem Bx.kept (h : Bx w b cs t) (q : Qw w w') : Bx w' b cs t := (q.block b h.lt).trans h
theorem Bx.below {B : Nat} (h : Bx w b cs t) (q : Below B w w') (hb : b < B) : Bx w' b cs t := (q.block b hb).trans h
theorem Bx.cell (h : Bx w b cs t) (i : Nat) : w.cell? ⟨b, i, none⟩ = cs[i]? := by simp only [Bx] at h; simp [World.cell?, h]
theorem Bx.free (h : Bx w b cs t) (i : Nat) : w.frozen? ⟨b, i, none⟩ = false := by simp only [Bx] at h; simp [World.frozen?, h]
theorem Bx.new (w : World) (cs : Array Value) (t : TypeId) : Bx (w.alloc (.cells cs t)) w.heap.size cs t := by
  show (w.heap.push _)[w.heap.size]? = _
  simp
theorem Bx.alloc (h : Bx w b cs t) (o : Obj) : Bx (w.alloc o) b cs t := (Below.heap_alloc w o b h.lt).trans h
theorem Bx.set (h : Bx w b cs t) (i : Nat) (v : Value) : Bx (w.setCell ⟨b, i, none⟩ v) b (cs.setIfInBounds i v) t := by
  simp only [Bx] at h ⊢
  simp only [World.setCell, Array.getElem?_modify, if_true, h, Option.map_some]
  rfl
theorem Bx.other (h : Bx w b cs t) {a : Addr} (hb : b ≠ a.block) (v : Value) : Bx (w.setCell a v) b cs t := (Below.heap_setCell w a v b hb).trans h
theorem Bx.kcell (h : Bx w b cs t) (i : Nat) (v : Value) (hv : cs[i]? = some v) : ∀ p : Kept w, p.v.cell? ⟨b, i, none⟩ = some v := fun p => ((h.kept p.h).cell i).trans hv
theorem Bx.kfree (h : Bx w b cs t) (i : Nat) : ∀ p : Kept w, p.v.frozen? ⟨b, i, none⟩ = false := fun p => (h.kept p.h).free i
theorem Bx.cell' (h : Bx w b cs t) (i : Nat) (v : Value) (hv : cs[i]? = some v) : w.cell? ⟨b, i, none⟩ = some v := (h.cell i).trans hv
end
end Go.Proofs.Ytijakijjeoaikaa
