
/- The walk of package vars' arguments. -/
import Derived.Test.YtijakijjeoaikaaVaB
set_option linter.unusedVariables false
set_option linter.unusedSimpArgs false
namespace Go.Proofs.Ytijakijjeoaikaa
open Go.RowKit


/-- A slice of values (a letter and a number each) below block C. -/
def ValsB (C : Nat) (w : World) (v : Value) (l : Vs.Ar) : Prop :=
  ∃ (a : Option Addr) (cap : Nat), v = .slice a l.length cap ∧ l.length ≤ cap ∧ cap ≤ 9223372036854775807 ∧ (l = [] ∨ ∃ b off, a = some ⟨b, off, none⟩ ∧ b < C ∧
    ∀ i, i < l.length → w.cell? ⟨b, off + i * 2, none⟩ = some (.int .i64 (Vs.ltr l i)) ∧ w.cell? ⟨b, off + i * 2 + 1, none⟩ = some (.int .i64 (Vs.num l i)) ∧
      -9223372036854775808 ≤ Vs.num l i ∧ Vs.num l i ≤ 9223372036854775807)
theorem ValsB.kept {B C : Nat} {w w' : World} {v : Value} {l : Vs.Ar} (h : ValsB B w v l) (hb : Below C w w') (hC : B ≤ C) : ValsB B w' v l := by
  obtain ⟨a, cap, h1, h2, h3, h4⟩ := h
  refine ⟨a, cap, h1, h2, h3, ?_⟩
  rcases h4 with h4 | ⟨b, off, e, hB, h⟩
  · exact .inl h4
  · refine .inr ⟨b, off, e, hB, fun i hi => ?_⟩
    have k : ∀ o, w'.cell? ⟨b, o, none⟩ = w.cell? ⟨b, o, none⟩ := fun o => hb.cell (p := ⟨b, o, none⟩) (by show b < C; omega)
    rw [k, k]
    exact h i hi
theorem ValsB.mono {B C : Nat} {w : World} {v : Value} {l : Vs.Ar} (h : ValsB B w v l) (hC : B ≤ C) : ValsB C w v l := by
  obtain ⟨a, cap, h1, h2, h3, h4⟩ := h
  refine ⟨a, cap, h1, h2, h3, ?_⟩
  rcases h4 with h4 | ⟨b, off, e, hB, h⟩
  · exact .inl h4
  · exact .inr ⟨b, off, e, by omega, h⟩
theorem ValsB.nil (C : Nat) (w : World) : ValsB C w (.slice none 0 0) [] := ⟨none, 0, rfl, Nat.le_refl _, by decide, .inl rfl⟩

/-! ### arrays of numbers, of marks -/
def ivs (l : List Int) : Array Value := (l.map (Value.int .i64)).toArray
def bvs (l : List Bool) : Array Value := (l.map Value.bool).toArray
theorem ivs_size (l : List Int) : (ivs l).size = l.length := by simp [ivs]
theorem bvs_size (l : List Bool) : (bvs l).size = l.length := by simp [bvs]
theorem ivs_at {l : List Int} {i : Nat} (h : i < l.length) : (ivs l)[i]? = some (.int .i64 (l.getD i 0)) := by
  simp [ivs, List.getD_eq_getElem?_getD, List.getElem?_eq_getElem h]
theorem bvs_at {l : List Bool} {i : Nat} (h : i < l.length) : (bvs l)[i]? = some (.bool (l.getD i false)) := by
  simp [bvs, List.getD_eq_getElem?_getD, List.getElem?_eq_getElem h]
theorem ivs_set (l : List Int) (i : Nat) (n : Int) : (ivs l).setIfInBounds i (.int .i64 n) = ivs (l.set i n) := by
  apply Array.ext'
  simp [ivs, ← List.map_set]
theorem bvs_set (l : List Bool) (i : Nat) (n : Bool) : (bvs l).setIfInBounds i (.bool n) = bvs (l.set i n) := by
  apply Array.ext'
  simp [bvs, ← List.map_set]
theorem ivs_one (l : List Int) : (ivs l).all (·.oneCell') = true := by
  simp [ivs, Value.oneCell']

theorem Qw.sr {a w : World} (h : Qw a w) {g : Nat} (hg : a.heap.size ≤ g) (cs : Array Value) : Qw a (w.setRow g cs) :=
  ⟨h.os, h.tape, h.output, by rw [setRow_size]; exact h.size, fun k hk => (setRow_other w g k cs (by omega)).trans (h.block k hk)⟩
theorem Bx.sr {w : World} {g : Nat} {old : Array Value} {t : TypeId} (h : Bx w g old t) (cs : Array Value) : Bx (w.setRow g cs) g cs t := setRow_heap w g old cs t _ h
theorem Bx.srOther {w : World} {b g : Nat} {old : Array Value} {t : TypeId} (h : Bx w b old t) (hb : b ≠ g) (cs : Array Value) : Bx (w.setRow g cs) b old t := (setRow_other w g b cs hb).trans h

theorem bx3 (w : World) {A B C A' B' C' : Array Value} (ta tb tc : TypeId) (hA : A = A') (hB : B = B') (hC : C = C') :
    Bx (((w.alloc (.cells A ta)).alloc (.cells B tb)).alloc (.cells C tc)) w.heap.size A' ta ∧ Bx (((w.alloc (.cells A ta)).alloc (.cells B tb)).alloc (.cells C tc)) (w.heap.size + 1) B' tb ∧
      Bx (((w.alloc (.cells A ta)).alloc (.cells B tb)).alloc (.cells C tc)) (w.heap.size + 1 + 1) C' tc := by
  subst hA hB hC
  have e1 : (w.alloc (.cells A ta)).heap.size = w.heap.size + 1 := by simp
  have e2 : ((w.alloc (.cells A ta)).alloc (.cells B tb)).heap.size = w.heap.size + 1 + 1 := by simp
  refine ⟨((Bx.new w _ _).alloc _).alloc _, ?_, ?_⟩
  · have := (Bx.new (w.alloc (.cells A ta)) B tb).alloc (.cells C tc)
    rwa [e1] at this
  · have := Bx.new ((w.alloc (.cells A ta)).alloc (.cells B tb)) C tc
    rwa [e2] at this

section
variable {ops : Array Oper} {rest : List Oper} {dst : Option Tmp} {ty : TypeId} {pos : String} {after : Array Edge} {a : Act} {w : World} {Q : Exit → Act → World → Prop}
end

def ArgsR (l : Vs.Ar) (w : World) (e : Ending) (w' : World) : Prop := (∃ vs : List Int, vs.length = 33 ∧ (Vs.err l = 0 → vs = Vs.vals l l.length) ∧ e = .returned (.tuple #[.agg (ivs vs), .int .i64 (Vs.err l)])) ∧ Qw w w'

end Go.Proofs.Ytijakijjeoaikaa
