import Derived.Test.YtfijmdaeaahodaaDoorZP12
import Derived.Test.YtfijmdaeaahodaaDoorZP15
set_option linter.unusedVariables false
set_option linter.unusedSimpArgs false
namespace Go.Proofs.YtfijmdaeaahodaaDoor
open Go.RowKit
theorem IntsB.then {w w' : World} {v : Value} {zs : List Int} (h : IntsB w.heap.size w v zs) (q : Qw w w') : IntsB w'.heap.size w' v zs := (h.kept q (Nat.le_refl _)).mono q.size
theorem Qw.px {P : Nat} {w0 w w' : World} (q : Qw w0 w) (h : Px P w w') (hP : w0.heap.size ≤ P) : Qw w0 w' :=
  ⟨h.os.trans q.os, h.tape.trans q.tape, h.output.trans q.output, Nat.le_trans q.size h.size, fun k hk => (h.block k (Nat.lt_of_lt_of_le hk q.size) (by omega)).trans (q.block k hk)⟩
def NwT (w0 : World) (v : Value) (zs : List Int) (e : Ending) (w' : World) : Prop := ∃ B, e = .returned (.pointer (some ⟨B, 0, none⟩)) ∧ w0.heap.size ≤ B ∧ TpB w' B v zs ∧ Qw w0 w'
theorem newX {v : Value} {zs : List Int} (w0 w : World) (h : IntsB w0.heap.size w0 v zs) (q : Qw w0 w) : Calls Tryd.prog 17 #[v] w (NwT w0 v zs) := (newF v zs w (h.then q)).mono (by
  rintro e w' ⟨rfl, tp, q2⟩
  exact ⟨_, rfl, q.size, ⟨0, tp⟩, Qw.trans q q2⟩)
theorem NwT.open_ {w0 : World} {v : Value} {zs : List Int} {e : Ending} {w' : World} (h : NwT w0 v zs e w') : ∃ B, e = .returned (.pointer (some ⟨B, 0, none⟩)) ∧ w0.heap.size ≤ B ∧ TpB w' B v zs ∧ Qw w0 w' := h
def FwQ (w0 : World) (e : Ending) (w' : World) : Prop := ∃ a cap l s, e = .returned (.slice a l.length cap) ∧ l.length ≤ 40 ∧ BlksB w' (fun k => w0.heap.size ≤ k) a cap l ∧ Lb.build l = .ok s ∧ (∃ lab, Lb.Fl 2 lab 0 l s) ∧ (∀ b ∈ l, Sy.Fwn b) ∧ Qw w0 w'
theorem FwQ.open_ {w0 : World} {e : Ending} {w' : World} (h : FwQ w0 e w') : ∃ a cap l s, e = .returned (.slice a l.length cap) ∧ l.length ≤ 40 ∧ BlksB w' (fun k => w0.heap.size ≤ k) a cap l ∧ Lb.build l = .ok s ∧ (∃ lab, Lb.Fl 2 lab 0 l s) ∧ (∀ b ∈ l, Sy.Fwn b) ∧ Qw w0 w' := h
theorem flowX {B : Nat} {v : Value} {zs : List Int} (w0 w : World) (hB : w0.heap.size ≤ B) (hT : TpB w B v zs) (q : Qw w0 w) : Calls Tryd.prog 18 #[.pointer (some ⟨B, 0, none⟩)] w (FwQ w0) := (flowW w hT).mono (by
  intro e w' h
  obtain ⟨a, cap, l, lab, rfl, h1, h2, ⟨s, h3⟩, h4, h5, h6⟩ := h
  have hs := q.size
  exact ⟨a, cap, l, s, rfl, h1, h2.go fun b hb _ => ⟨rfl, by omega⟩, h3.build (by omega), ⟨lab, h3⟩, h4, Qw.px q h6 hB⟩)
theorem BdY.open_ {w : World} {bs : List Sy.Bl} {s : Lb.St} {e : Ending} {w' : World} (h : BdY w bs s e w') : ∃ ba bc pa pc ma mc, e = .returned (.tuple #[.agg #[.slice ba bs.length bc, .slice pa s.pg.length pc, .slice ma s.mate.length mc], .int .i64 (bs.length : Nat), .int .i64 0]) ∧ LibX w' (fun b => w.heap.size ≤ b) w.heap.size ba bc pa pc ma mc bs s ∧ Qw w w' := h
structure Lw (w : World) (R : Nat) (ba : Option Addr) (bc : Nat) (pa : Option Addr) (pc : Nat) (ma : Option Addr) (mc : Nat) (bs : List Sy.Bl) (s : Lb.St) (wx : World) : Prop where
  X : Bx wx R #[.slice ba bs.length bc, .slice pa s.pg.length pc, .slice ma s.mate.length mc] 41
  L : LibX wx (fun _ => True) 0 ba bc pa pc ma mc bs s
  Q : Qw w wx
theorem LibX.any {w : World} {S : Nat → Prop} {B : Nat} {ba pa ma : Option Addr} {bc pc mc : Nat} {bs : List Sy.Bl} {s : Lb.St} (h : LibX w S B ba bc pa pc ma mc bs s) : LibX w (fun _ => True) 0 ba bc pa pc ma mc bs s := ⟨h.b.go fun b hb _ => ⟨rfl, trivial⟩, h.p.base (Nat.zero_le _), h.m.base (Nat.zero_le _)⟩
theorem Lw.kept {w wx w' : World} {R : Nat} {ba pa ma : Option Addr} {bc pc mc : Nat} {bs : List Sy.Bl} {s : Lb.St} (h : Lw w R ba bc pa pc ma mc bs s wx) (q : Qw wx w') : Lw w R ba bc pa pc ma mc bs s w' := ⟨h.X.kept q, h.L.kept q, Qw.trans h.Q q⟩
theorem Lw.cells {w wx : World} {R : Nat} {ba pa ma : Option Addr} {bc pc mc : Nat} {bs : List Sy.Bl} {s : Lb.St} (h : Lw w R ba bc pa pc ma mc bs s wx) : wx.cell? ⟨R, 0, none⟩ = some (.slice ba bs.length bc) ∧ wx.cell? ⟨R, 1, none⟩ = some (.slice pa s.pg.length pc) ∧ wx.cell? ⟨R, 2, none⟩ = some (.slice ma s.mate.length mc) ∧ R < wx.heap.size := ⟨h.X.cell' 0 _ rfl, h.X.cell' 1 _ rfl, h.X.cell' 2 _ rfl, h.X.lt⟩
namespace Lb
def atP (l : List Pg) (i : Nat) : Nat := if i = 0 then 0 else (l.getD (i - 1) ⟨0, 0, 0⟩).fin
theorem atP_first {l : List Pg} {z : Nat} (h : lay 0 l z) {i : Nat} (hi : i < l.length) : l[i].first = atP l i := lay_next h i hi
theorem atP_succ (l : List Pg) {i : Nat} (hi : i < l.length) : atP l (i + 1) = l[i].fin := by
  unfold atP
  rw [if_neg (by omega), Nat.add_sub_cancel, List.getD_eq_getElem?_getD, List.getElem?_eq_getElem hi]; rfl
theorem lay_last : ∀ {l : List Pg} {a z : Nat}, lay a l z → l ≠ [] → (l.getD (l.length - 1) ⟨0, 0, 0⟩).fin = z
  | [], _, _, _, h => absurd rfl h
  | [p], a, z, h, _ => h.2.2
  | p :: q :: l, a, z, h, _ => by
    have := lay_last h.2.2 (by simp)
    simpa using this
theorem fl_three {lab : Int} {l : List Sy.Bl} {s : St} (h : Fl 2 lab 0 l s) : s.pg.length = 3 ∧ (∀ i (hi : i < s.pg.length), s.pg[i].num = (i : Int)) ∧ lay 0 s.pg s.i ∧ s.i = l.length ∧ atP s.pg 3 = l.length := by
  have hn := h.nm
  have h3 : s.pg.length = 3 := by have := congrArg List.length hn; simpa [nums] using this
  have hi : s.i = l.length := by have := Mi.run Mi.start h.run; simpa using this.hi
  refine ⟨h3, fun i hi' => ?_, h.ly, hi, ?_⟩
  · have := congrArg (fun l => l[i]?) hn
    simp only [List.getElem?_map, List.getElem?_eq_getElem hi', Option.map_some, nums] at this
    rw [List.getElem?_range (by omega)] at this
    simpa using this
  · have := lay_last h.ly (by intro e; rw [e] at h3; simp at h3)
    rw [h3] at this
    unfold atP
    rw [if_neg (by decide)]
    rw [← hi]; exact this
end Lb
end Go.Proofs.YtfijmdaeaahodaaDoor

