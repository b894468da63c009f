
/- Modal states in memory. -/
import Derived.Test.YtijakijjeoaikaaMdP
import Derived.Test.YtijakijjeoaikaaVaM
import Derived.Great.Ranges
import Derived.Laws.Tables
import Derived.Laws.Rows
set_option linter.unusedVariables false
set_option linter.unusedSimpArgs false
namespace Go.Proofs.Ytijakijjeoaikaa
open Go.RowKit

/-- The cells of a state. -/
def mdc (s : Md.S) : Array Value := #[.int .i64 s.mo, .int .i64 s.pl, .int .i64 s.di, .int .i64 s.un, .int .i64 s.fe, .int .i64 s.cu, .int .i64 s.le, .int .i64 s.re, .int .i64 s.sy, .int .i64 s.pa, .int .i64 s.po, .int .i64 s.tu, .int .i64 s.sp, .bool s.mi, .bool s.fl, .int .i64 s.bl, .int .i64 s.fd, .int .i64 s.se, .int .i64 s.tl, .int .i64 s.lo, .int .i64 s.h, .int .i64 s.d]
theorem mdc_size (s : Md.S) : (mdc s).size = 22 := rfl
theorem mdc_one (s : Md.S) : (mdc s).all (·.oneCell') = true := by simp [mdc, Value.oneCell']
theorem mdc_cells (s : Md.S) : (Value.agg (mdc s)).cells = mdc s := by simp [Value.cells, mdc]
theorem info_md : (Try.prog.info? 36).map (·.size) = some 22 := by kernel_rfl
theorem zero_md (w : World) : (zeroValue 36).run Try.prog w = .ok (.agg (mdc Md.S.zero)) w := by kernel_rfl
theorem built_md : Try.prog.built 36 [] = some (mdc Md.S.zero) := by kernel_rfl
theorem built_start : ∀ l, l = [(0, Value.int .i64 80), (1, .int .i64 17), (2, .int .i64 90), (3, .int .i64 21), (4, .int .i64 94), (5, .int .i64 40), (6, .int .i64 49), (7, .int .i64 98), (8, .int .i64 54), (9, .int .i64 61), (10, .int .i64 15), (11, .int .i64 69), (12, .int .i64 5)] → Try.prog.built 36 l = some (mdc Md.S.start) := by rintro l rfl; kernel_rfl
theorem run_alloc_md (w : World) : (Instr.alloc 36 true (.tuple #[])).run Try.prog w = .ok (.pointer (some ⟨w.heap.size, 0, none⟩)) (w.alloc (.cells (mdc Md.S.zero) 36)) := by
  simp only [Instr.alloc, Sem.run_bind, zero_md, Result.andThen_ok]
  simp only [newVar, newRow, Sem.run_bind, run_newObj_alloc, Sem.run_pure, Result.andThen_ok, mdc_cells]
abbrev MT : TypeId := 36
/-- Two blocks of a call's own: a state and the result's. -/
structure Two (w0 w : World) (P R : Nat) (s r : Md.S) : Prop where
  bp : Bx w P (mdc s) MT
  br : Bx w R (mdc r) MT
  ne : P ≠ R
  q : Qw w0 w
  hp : w0.heap.size ≤ P
  hr : w0.heap.size ≤ R
section
variable {w0 w w' : World} {P R : Nat} {s r : Md.S}
theorem Two.kept (h : Two w0 w P R s r) (q : Qw w w') : Two w0 w' P R s r := ⟨h.bp.kept q, h.br.kept q, h.ne, Qw.trans h.q q, h.hp, h.hr⟩
theorem Bx.sr' {g b : Nat} {old cs : Array Value} {t : TypeId} (h : Bx w b old t) (hb : b ≠ g) : Bx (w.setRow g cs) b old t := (setRow_other w g b cs hb).trans h
theorem Bx.srS {g : Nat} {old cs : Array Value} {t : TypeId} (h : Bx w g old t) : Bx (w.setRow g cs) g cs t := setRow_heap w g old cs t _ h
theorem Qw.sr' {a w : World} (h : Qw a w) {g : Nat} (hg : a.heap.size ≤ g) (cs : Array Value) : Qw a (w.setRow g cs) :=
  ⟨h.os, h.tape, h.output, by rw [setRow_size]; exact h.size, fun k hk => (setRow_other w g k cs (by omega)).trans (h.block k hk)⟩
theorem Two.putR (h : Two w0 w P R s r) (t : Md.S) : Two w0 (w.setRow R (mdc t)) P R s t := ⟨h.bp.sr' h.ne, h.br.srS, h.ne, h.q.sr' h.hr _, h.hp, h.hr⟩
theorem Two.putP (h : Two w0 w P R s r) (t : Md.S) : Two w0 (w.setRow P (mdc t)) P R t r := ⟨h.bp.srS, h.br.sr' (fun e => h.ne e.symm), h.ne, h.q.sr' h.hp _, h.hp, h.hr⟩
theorem Two.setP (h : Two w0 w P R s r) (k : Nat) (v : Value) (t : Md.S) (ht : (mdc s).setIfInBounds k v = mdc t) : Two w0 (w.setCell ⟨P, k, none⟩ v) P R t r :=
  ⟨ht ▸ h.bp.set k v, h.br.other (fun e => h.ne e.symm) v, h.ne, h.q.sc h.hp v, h.hp, h.hr⟩
theorem Two.cell (h : Two w0 w P R s r) (k : Nat) (v : Value) (hv : (mdc s)[k]? = some v) : w.cell? ⟨P, k, none⟩ = some v := h.bp.cell' k v hv
end

section
variable {ops : Array Oper} {rest : List Oper} {dst : Option Tmp} {ty : TypeId} {pos : String} {after : Array Edge} {a : Act} {w w0 : World} {Q : Exit → Act → World → Prop} {P R : Nat} {s r : Md.S}
set_option maxRecDepth 100000 in
/-- The head of a function with a state as its argument and a state as its result. -/
theorem two_start (x : Tmp) {dst2 : Option Tmp} {ty2 : TypeId} {pos2 : String} {after2 : Array Edge} (hx : a.eval (.tmp x) = .agg (mdc s))
    (h : ∀ w' P R, Two w w' P R s Md.S.zero → wpList Try.prog ops Q rest ((a.put dst (.pointer (some ⟨P, 0, none⟩))).put dst2 (.pointer (some ⟨R, 0, none⟩))) w') :
    wpList Try.prog ops Q (⟨dst, .box MT (.tmp x), ty, pos, after, none⟩ :: ⟨dst2, .alloc MT, ty2, pos2, after2, none⟩ :: rest) a w := by
  refine Go.Great.wpList_boxTo rfl MT (.tmp x) rfl dst rfl w.heap.size rfl (mdc s) (by rw [hx]; exact mdc_cells s) ?_
  refine wpList_plain rfl fun K hK => ?_
  unfold Oper.wp execOp
  have e := run_alloc_md (w.alloc (.cells (mdc s) MT))
  simp only [e]
  refine hK _ _ ?_
  have hs : (w.alloc (.cells (mdc s) MT)).heap.size = w.heap.size + 1 := by simp
  refine h _ w.heap.size _ ⟨(Bx.new w _ _).alloc _, Bx.new _ _ _, by omega, Qw.al (Qw.al (Qw.refl w) _) _, Nat.le_refl _, by omega⟩
set_option maxRecDepth 100000 in
theorem box_md (x : Tmp) (hx : a.eval (.tmp x) = .agg (mdc s))
    (h : ∀ w' P, w.heap.size ≤ P → Bx w' P (mdc s) MT → Qw w w' → wpList Try.prog ops Q rest (a.put dst (.pointer (some ⟨P, 0, none⟩))) w') :
    wpList Try.prog ops Q (⟨dst, .box MT (.tmp x), ty, pos, after, none⟩ :: rest) a w :=
  Go.Great.wpList_boxTo rfl MT (.tmp x) rfl dst rfl w.heap.size rfl (mdc s) (by rw [hx]; exact mdc_cells s) (h _ _ (Nat.le_refl _) (Bx.new w _ _) (Qw.al (Qw.refl w) _))
set_option maxRecDepth 100000 in
theorem al_md (h : ∀ w' P, w.heap.size ≤ P → Bx w' P (mdc Md.S.zero) MT → Qw w w' → wpList Try.prog ops Q rest (a.put dst (.pointer (some ⟨P, 0, none⟩))) w') :
    wpList Try.prog ops Q (⟨dst, .alloc MT, ty, pos, after, none⟩ :: rest) a w := by
  refine wpList_plain rfl fun K hK => ?_
  unfold Oper.wp execOp
  simp only [run_alloc_md w]
  exact hK _ _ (h _ _ (Nat.le_refl _) (Bx.new w _ _) (Qw.al (Qw.refl w) _))
theorem bu_md (h : wpList Try.prog ops Q rest (a.put dst (.agg (mdc Md.S.zero))) w) : wpList Try.prog ops Q (⟨dst, .build MT #[], ty, pos, after, none⟩ :: rest) a w := by
  have e : Try.prog.built MT ((#[] : Array (Nat × Operand)).map fun (i, x) => (i, a.eval x)).toList = some (mdc Md.S.zero) := by simpa using built_md
  refine wpList_build rfl MT #[] rfl (by rw [e]; rfl) ?_
  rw [e]
  exact h
theorem ld_md (x : Tmp) {P : Nat} (hx : a.eval (.tmp x) = .pointer (some ⟨P, 0, none⟩)) (X : Bx w P (mdc s) MT) (h : wpList Try.prog ops Q rest (a.put dst (.agg (mdc s))) w) :
    wpList Try.prog ops Q (⟨dst, .load MT (.tmp x), ty, pos, after, none⟩ :: rest) a w := by
  exact wpList_load_row rfl MT (.tmp x) rfl P hx MT (mdc s) (0, 0) _ X Try.underlying36 rfl (by rw [mdc_size]; exact info_md) h
theorem st_md (x y : Tmp) {t : Md.S} {old : Md.S} (hx : a.eval (.tmp x) = .pointer (some ⟨P, 0, none⟩)) (hy : a.eval (.tmp y) = .agg (mdc t)) (X : Bx w P (mdc old) MT)
    (h : wpList Try.prog ops Q rest (a.put dst undef) (w.setRow P (mdc t))) : wpList Try.prog ops Q (⟨dst, .store MT (.tmp x) (.tmp y), ty, pos, after, none⟩ :: rest) a w :=
  wpList_store_row rfl MT (.tmp x) (.tmp y) rfl P (mdc t) hx hy MT (mdc old) X (by rw [mdc_size]; exact info_md) (by rw [mdc_size, mdc_size]) (mdc_one t) h
/-- The result is put in its place. -/
theorem st_R (x y : Tmp) {t : Md.S} (T : Two w0 w P R s r) (hx : a.eval (.tmp x) = .pointer (some ⟨R, 0, none⟩)) (hy : a.eval (.tmp y) = .agg (mdc t))
    (h : ∀ w', Two w0 w' P R s t → wpList Try.prog ops Q rest (a.put dst undef) w') : wpList Try.prog ops Q (⟨dst, .store MT (.tmp x) (.tmp y), ty, pos, after, none⟩ :: rest) a w :=
  st_md x y hx hy T.br (h _ (T.putR t))
theorem st_P (x y : Tmp) {t : Md.S} (T : Two w0 w P R s r) (hx : a.eval (.tmp x) = .pointer (some ⟨P, 0, none⟩)) (hy : a.eval (.tmp y) = .agg (mdc t))
    (h : ∀ w', Two w0 w' P R t r → wpList Try.prog ops Q rest (a.put dst undef) w') : wpList Try.prog ops Q (⟨dst, .store MT (.tmp x) (.tmp y), ty, pos, after, none⟩ :: rest) a w :=
  st_md x y hx hy T.bp (h _ (T.putP t))
end
theorem ret_m1 {fn : Func} {a : Act} {w : World} {R : Nat} {s : Md.S} (p : Tmp) (hr : fn.results = #[.cell p MT]) (h2 : a.tmps.getD p undef = .pointer (some ⟨R, 0, none⟩)) (X : Bx w R (mdc s) MT) : (results fn a.tmps).run Try.prog w = .ok (.agg (mdc s)) w := by
  exact results_cell_row hr a.tmps w R MT (mdc s) (0, 0) _ h2 X Try.underlying36 rfl (by rw [mdc_size]; exact info_md)
theorem ret_m2 {fn : Func} {a : Act} {w : World} {R : Nat} {s : Md.S} {n : Int} (p q : Tmp) (hr : fn.results = #[.cell p MT, .tmp q]) (h2 : a.tmps[p]?.getD undef = .pointer (some ⟨R, 0, none⟩)) (h3 : a.tmps[q]?.getD undef = .int .i64 n) (X : Bx w R (mdc s) MT) :
    (results fn a.tmps).run Try.prog w = .ok (.tuple #[.agg (mdc s), .int .i64 n]) w := by
  have h := run_loadVar_row (P := Try.prog) w R MT MT (mdc s) (0, 0) _ X Try.underlying36 rfl (by rw [mdc_size]; exact info_md)
  simp [results, hr, h2, h3, asAddr, h]
/-- States compare as they are. -/
theorem fields_md : Try.prog.underlying MT = some (.struct (Try.prog.fieldsOf MT)) := by kernel_rfl
theorem held_md : Try.prog.stoodInHeld MT = false := by kernel_rfl
theorem guard_md : Try.prog.eqGuardType Try.prog.depth MT = false := by kernel_rfl
set_option maxRecDepth 100000 in
theorem eq_md (w : World) (s : Md.S) : (binOp .eql MT (.agg (mdc s)) (.agg (mdc s))).run Try.prog w = .ok (.bool true) w := by
  rw [run_eql_struct, run_equalIn_agg w 9999 MT _ _ fields_md held_md]
  have e : (Op.eqFields 9999 (mdc s) (mdc s) (Try.prog.fieldsOf MT).toList).run Try.prog w = .ok true w := by
    unfold mdc
    go_simp
    done
  rw [e]
  rfl
end Go.Proofs.Ytijakijjeoaikaa
