
/- The walks of fixed.appendFraction and fixed.Format. -/
import Derived.Test.YtlinfdgmebogbaaDoorFxA
import Derived.Test.YtlinfdgmebogbaaDoorFxF
import Derived.Test.YtlinfdgmebogbaaDoorRows
import Derived.Test.YtlinfdgmebogbaaDoorRefB
import Derived.Laws.IdiomStrings
import Derived.Outline
set_option linter.unusedVariables false
set_option linter.unusedSimpArgs false
namespace Go.Proofs.YtlinfdgmebogbaaDoor
open Go.RowKit

/-- A slice that holds the bytes l in a block of its own, from block B on. -/
def OwnB (B : Nat) (w : World) (v : Value) (l : List UInt8) : Prop := w.ownsRow B 5 1 v l.length (Lib.byteCells l)

theorem ownB_nil (B : Nat) (w : World) : OwnB B w (.slice none 0 0) [] := World.ownsRow_nil w _ _ _

theorem info_u8 : (Tryd.prog.info? 5).map (fun i => (i.zero, i.size, i.bytes)) = some (some (.int .u8 0), 1, 1) := by kernel_rfl

theorem ownB_push {B : Nat} {w : World} {v : Value} {l : List UInt8} {c : UInt8} (h : w.ownsRow B 5 1 v (l.length + 1) (Lib.byteCells l ++ [.int .u8 (c.toNat : Int)])) : OwnB B w v (l ++ [c]) := by
  unfold OwnB
  rw [show (l ++ [c]).length = l.length + 1 by simp, show Lib.byteCells (l ++ [c]) = Lib.byteCells l ++ [.int .u8 (c.toNat : Int)] by simp [Lib.byteCells]]
  exact h

theorem below_grown {B : Nat} {w wr w1 : World} {v : Value} {l : List UInt8} (h : Below B w wr) (hB : B ≤ w.heap.size) (hr : OwnB B wr v l) (wx : World) (hq : Below wr.heap.size wr wx) (hg : wx.grownBy w1 v.ownBlock) : Below B w w1 :=
  Below.grown (h.trans (hq.mono (by have := h.size; omega))) hg (by have := h.size; have := hq.size; omega) (fun k hk => (World.ownsRow.lt hr k hk).1)

/-- What is known at the head of a round of appendFraction. -/
def FracK (B : Nat) (f : Int) (l : List UInt8) (w : World) (tv fv uv : Value) (wr : World) (k : Nat) : Prop :=
  k ≤ 6 ∧ (∀ i, i < k → f % um i ≠ 0) ∧ fv = .int .i64 (f % um k) ∧ uv = .int .i64 (un k) ∧ OwnB B wr tv (l ++ 46 :: dgs f k) ∧ Below B w wr

theorem ownB_more {B : Nat} {w : World} {v : Value} {l k : List UInt8} (h : w.ownsRow B 5 1 v (l.length + k.length) (Lib.byteCells l ++ Lib.byteCells k)) : OwnB B w v (l ++ k) := by
  unfold OwnB
  rw [List.length_append, show Lib.byteCells (l ++ k) = Lib.byteCells l ++ Lib.byteCells k by simp [Lib.byteCells]]
  exact h

theorem dec_len10 (l : List UInt8) (m : Int) (hl : l.length ≤ 1) (h0 : 0 ≤ m) (h1 : m ≤ 1000000000000000) : (l ++ Lib.decDigits (m / 1000000).toNat).length ≤ 1000 := by
  have p : (10 : Nat) ^ (9 + 1) = 10000000000 := by decide
  have := dec_len 9 (m / 1000000).toNat (by rw [p]; omega)
  rw [List.length_append]; omega

theorem own_cases {B : Nat} {w : World} {v : Value} {l : List UInt8} (h : OwnB B w v l) (hl : l ≠ []) :
    ∃ g cap, v = .slice (some ⟨g, 0, none⟩) l.length cap ∧ ∀ j (hj : j < l.length), w.cell? ((⟨g, 0, none⟩ : Addr).add j) = some (.int .u8 (l[j].toNat : Int)) := by
  have h0 := h
  obtain ⟨h1, h2⟩ := h
  rcases h2 with ⟨h2, h3⟩ | ⟨g, cap, cur, rfl, hg, hh, r1, r2, r3, r4⟩
  · exact absurd (List.eq_nil_of_length_eq_zero h3) hl
  · refine ⟨g, cap, rfl, fun j hj => ?_⟩
    refine World.ownsRow.cells h0 rfl j _ ?_
    unfold Lib.byteCells
    rw [List.getElem?_map, List.getElem?_eq_getElem hj]; rfl

end Go.Proofs.YtlinfdgmebogbaaDoor
