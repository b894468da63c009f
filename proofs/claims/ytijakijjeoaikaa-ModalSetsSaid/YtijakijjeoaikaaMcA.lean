
/- A modal state that blocks turn, round by round. -/
import Derived.Test.YtijakijjeoaikaaMvE
import Derived.Test.YtijakijjeoaikaaMvC
import Derived.Test.YtijakijjeoaikaaMdG
import Derived.Test.YtijakijjeoaikaaMaA
set_option linter.unusedVariables false
set_option linter.unusedSimpArgs false
namespace Go.Proofs.Ytijakijjeoaikaa
open Go.RowKit

/-- Between rounds: the tape, and the state's block. -/
structure Cm (w0 : World) (tv : Value) (zs : List Int) (P : Nat) (s : Md.S) (w : World) : Prop where
  t : ∃ k, TapeAt w w0.heap.size tv zs k
  x : Bx w P (mdc s) MT
  q : Qw w0 w
  p : w0.heap.size < P
section
variable {w0 w w' : World} {tv : Value} {zs : List Int} {P : Nat} {s : Md.S}
theorem Cm.grow {k : Nat} (h : Cm w0 tv zs P s w) (g : w.grownBy w' (some w0.heap.size)) (t : TapeAt w' w0.heap.size tv zs k) : Cm w0 tv zs P s w' :=
  ⟨⟨k, t⟩, h.x.grM g (by have := h.p; omega), ⟨g.os.trans h.q.os, g.tape.trans h.q.tape, g.output.trans h.q.output, Nat.le_trans h.q.size g.size, fun b hb => (g.block b (by have := h.q.size; omega) (by simp; omega)).trans (h.q.block b hb)⟩, h.p⟩
theorem Cm.quiet (h : Cm w0 tv zs P s w) (q : Qw w w') : Cm w0 tv zs P s w' := by
  obtain ⟨k, t⟩ := h.t
  exact ⟨⟨k, t.kept q⟩, h.x.kept q, Qw.trans h.q q, h.p⟩
theorem tape_row {B : Nat} {k : Nat} (h : TapeAt w B tv zs k) (hP : B < P) (cs : Array Value) : TapeAt (w.setRow P cs) B tv zs k := by
  have q : Below B w (w.setRow P cs) := ⟨rfl, rfl, rfl, by rw [setRow_size]; exact Nat.le_refl _, fun b hb => setRow_other w P b cs (by omega)⟩
  exact ⟨(setRow_other w P B cs (by omega)).trans h.1, h.2.1.kept q (Nat.le_refl _), h.2.2⟩
theorem Cm.put (h : Cm w0 tv zs P s w) (t : Md.S) : Cm w0 tv zs P t (w.setRow P (mdc t)) := by
  obtain ⟨k, e⟩ := h.t
  exact ⟨⟨k, tape_row e h.p _⟩, h.x.srS, h.q.sr' (Nat.le_of_lt h.p) _, h.p⟩
theorem Cm.row (h : Cm w0 tv zs P s w) {R : Nat} (hR : P < R) (cs : Array Value) : Cm w0 tv zs P s (w.setRow R cs) := by
  obtain ⟨k, e⟩ := h.t
  have := h.p
  exact ⟨⟨k, tape_row e (by omega) _⟩, h.x.sr' (by omega), h.q.sr' (by omega) _, h.p⟩
theorem valsC (h : Cm w0 tv zs P s w) : Calls Try.prog 16 #[.pointer (some ⟨w0.heap.size, 0, none⟩)] w fun e w' => (∃ (sv : Value) (l : Vs.Ar), e = .returned sv ∧ ValsB w'.heap.size w' sv l) ∧ Cm w0 tv zs P s w' ∧ w.grownBy w' (some w0.heap.size) := by
  obtain ⟨k, t⟩ := h.t
  exact (valuesM t).mono fun e w' ⟨E, k', sv, l, he, V, _⟩ => ⟨⟨sv, l, he, V.o.vals V.n⟩, h.grow V.g V.t, V.g⟩
end
section
variable {ops : Array Oper} {rest : List Oper} {dst : Option Tmp} {ty : TypeId} {pos : String} {after : Array Edge} {gd : Option (Nat × Bool)} {a : Act} {w : World} {Q : Exit → Act → World → Prop} {K : Act → World → Prop} {P : Nat} {s : Md.S}
set_option maxRecDepth 100000 in
theorem yi_md {S : World → Prop} (x : Tmp) (hx : a.eval (.tmp x) = .pointer (some ⟨P, 0, none⟩)) (hS : ∀ w, S w → Bx w P (mdc s) MT) : YieldsIf Try.prog ops S ⟨dst, .load MT (.tmp x), ty, pos, after, none⟩ (.agg (mdc s)) a :=
  .inl ⟨rfl, fun w hw => by
    have hr := run_loadVar_row (P := Try.prog) w P MT MT (mdc s) (0, 0) _ (hS w hw) Try.underlying36 rfl (by rw [mdc_size]; exact info_md)
    unfold execOp
    simp only [hx, Instr.loadAt, Instr.sureAddr, Sem.run_bind, Sem.run_pure, Result.andThen_ok, hr]⟩
set_option maxRecDepth 100000 in
theorem ld_wp (x : Tmp) (hx : a.eval (.tmp x) = .pointer (some ⟨P, 0, none⟩)) (X : Bx w P (mdc s) MT) (h : K (a.put dst (.agg (mdc s))) w) : Oper.wp Try.prog ⟨dst, .load MT (.tmp x), ty, pos, after, gd⟩ a w K Q := by
  have hr := run_loadVar_row (P := Try.prog) w P MT MT (mdc s) (0, 0) _ X Try.underlying36 rfl (by rw [mdc_size]; exact info_md)
  unfold Oper.wp execOp
  simp only [hx, Instr.loadAt, Instr.sureAddr, Sem.run_bind, Sem.run_pure, Result.andThen_ok, hr]
  exact h
set_option maxRecDepth 100000 in
theorem bu_wp (h : K (a.put dst (.agg (mdc Md.S.zero))) w) : Oper.wp Try.prog ⟨dst, .build MT #[], ty, pos, after, gd⟩ a w K Q := by
  have e : Try.prog.built MT ((#[] : Array (Nat × Operand)).map fun (i, x) => (i, a.eval x)).toList = some (mdc Md.S.zero) := by simpa using built_md
  refine wp_build MT #[] rfl (by rw [e]; rfl) ?_
  rw [e]
  exact h
set_option maxRecDepth 100000 in
/-- Behind a guard that holds: a state is read; the state of zeros. -/
theorem gd_load (x : Tmp) (hw : Region.wanted ⟨dst, .load MT (.tmp x), ty, pos, after, gd⟩ (yielded ops a.tmps) = true) (hx : a.eval (.tmp x) = .pointer (some ⟨P, 0, none⟩)) (X : Bx w P (mdc s) MT) (h : wpList Try.prog ops Q rest (a.put dst (.agg (mdc s))) w) :
    wpList Try.prog ops Q (⟨dst, .load MT (.tmp x), ty, pos, after, gd⟩ :: rest) a w :=
  wpList_step fun K hK => by
    rw [if_pos hw]
    exact ld_wp x hx X (hK _ _ h)
set_option maxRecDepth 100000 in
theorem gd_build (hw : Region.wanted ⟨dst, .build MT #[], ty, pos, after, gd⟩ (yielded ops a.tmps) = true) (h : wpList Try.prog ops Q rest (a.put dst (.agg (mdc Md.S.zero))) w) :
    wpList Try.prog ops Q (⟨dst, .build MT #[], ty, pos, after, gd⟩ :: rest) a w :=
  wpList_step fun K hK => by
    rw [if_pos hw]
    exact bu_wp (hK _ _ h)
/-- The same, where the guard's value is known by a fact. -/
theorem gd_load2 {i : Nat} {b c : Bool} (x : Tmp) (hy : yielded ops a.tmps i = some c) (hc : c = b) (hx : a.eval (.tmp x) = .pointer (some ⟨P, 0, none⟩)) (X : Bx w P (mdc s) MT) (h : wpList Try.prog ops Q rest (a.put dst (.agg (mdc s))) w) :
    wpList Try.prog ops Q (⟨dst, .load MT (.tmp x), ty, pos, after, some (i, b)⟩ :: rest) a w :=
  gd_load x (by subst hc; simp [Region.wanted, hy]) hx X h
theorem gd_build2 {i : Nat} {b c : Bool} (hy : yielded ops a.tmps i = some c) (hc : c = b) (h : wpList Try.prog ops Q rest (a.put dst (.agg (mdc Md.S.zero))) w) :
    wpList Try.prog ops Q (⟨dst, .build MT #[], ty, pos, after, some (i, b)⟩ :: rest) a w :=
  gd_build (by subst hc; simp [Region.wanted, hy]) h
end
set_option maxRecDepth 100000 in
theorem ne_md0 (w : World) : (binOp .neq MT (.agg (mdc Md.S.zero)) (.agg (mdc Md.S.zero))).run Try.prog w = .ok (.bool false) w := by kernel_rfl
end Go.Proofs.Ytijakijjeoaikaa
