
/- Copy, Pop and Push of the specification. -/
import Derived.Test.YtkfipjlknfinpaaDoorVaH
set_option linter.unusedVariables false
set_option linter.unusedSimpArgs false
namespace Go.Proofs.YtkfipjlknfinpaaDoor
open Go.RowKit


section
variable {ops : Array Oper} {dst : Option Tmp} {ty : TypeId} {pos : String} {after : Array Edge} {a : Act}
theorem yi_c {S : World → Prop} (x : Tmp) {B : Nat} {l : List Int} (hx : a.eval (.tmp x) = .pointer (some ⟨B, 1, none⟩)) (hS : ∀ w, S w → w.rangeAt B 1 (l.map (Value.int .i64))) (hl : l.length = 100) :
    YieldsIf Tryd.prog ops S ⟨dst, .load 63 (.tmp x), ty, pos, after, none⟩ (.agg (ivs l)) a :=
  yieldsIf_load_mid rfl 63 (.tmp x) rfl B 1 hx (l.map (Value.int .i64)) _ hS Tryd.underlying63 rfl (by rw [List.length_map, hl]; kernel_rfl)
theorem yi_s {S : World → Prop} (x : Tmp) {B : Nat} {l : List Int} (hx : a.eval (.tmp x) = .pointer (some ⟨B, 101, none⟩)) (hS : ∀ w, S w → w.rangeAt B 101 (l.map (Value.int .i64))) (hl : l.length = 1000) :
    YieldsIf Tryd.prog ops S ⟨dst, .load 64 (.tmp x), ty, pos, after, none⟩ (.agg (ivs l)) a :=
  yieldsIf_load_mid rfl 64 (.tmp x) rfl B 101 hx (l.map (Value.int .i64)) _ hS Tryd.underlying64 rfl (by rw [List.length_map, hl]; kernel_rfl)
theorem yi_b {S : World → Prop} (x y z : Tmp) {b : Option Addr} {n c : Nat} {s : Vs.St} (ok : s.ok) (hx : a.eval (.tmp x) = .slice b n c) (hy : a.eval (.tmp y) = .agg (ivs s.cm)) (hz : a.eval (.tmp z) = .agg (ivs s.sy)) :
    YieldsIf Tryd.prog ops S ⟨dst, .build 66 #[(0, .tmp x), (1, .tmp y), (2, .tmp z)], ty, pos, after, none⟩ (.agg (stc (.slice b n c) s)) a :=
  .inl ⟨rfl, fun w hw => by
    have e : Tryd.prog.built 66 ((#[(0, Operand.tmp x), (1, Operand.tmp y), (2, Operand.tmp z)] : Array (Nat × Operand)).map fun (i, x) => (i, a.eval x)).toList = some (stc (.slice b n c) s) := by
      rw [built_r]
      have e2 : ((#[(0, Operand.tmp x), (1, Operand.tmp y), (2, Operand.tmp z)] : Array (Nat × Operand)).map fun (i, x) => (i, a.eval x)).toList = [(0, Value.slice b n c), (1, .agg (ivs s.cm)), (2, .agg (ivs s.sy))] := by simp [hx, hy, hz]
      rw [e2]
      exact fill_all b n c ok
    unfold execOp
    simp only [Sem.run_bind, run_build w 66 _ _ e, Result.andThen_ok, Sem.run_pure]⟩
end
theorem Stb.rangeC {T E : TypeId} {w : World} {B L cap : Nat} {s : Vs.St} (h : Stb T E w B L cap s) : w.rangeAt B 1 (s.cm.map (Value.int .i64)) := by
  intro j v hj
  have hl := h.ok.hc
  have hlt : j < s.cm.length := by
    have := (List.getElem?_eq_some_iff.1 hj).1
    simpa using this
  rw [h.cellC (k := j) (by omega), ← hj, List.getElem?_map, List.getElem?_eq_getElem hlt, List.getD_eq_getElem?_getD, List.getElem?_eq_getElem hlt]
  rfl
theorem Stb.rangeS {T E : TypeId} {w : World} {B L cap : Nat} {s : Vs.St} (h : Stb T E w B L cap s) : w.rangeAt B 101 (s.sy.map (Value.int .i64)) := by
  intro j v hj
  have hl := h.ok.hs
  have hlt : j < s.sy.length := by
    have := (List.getElem?_eq_some_iff.1 hj).1
    simpa using this
  rw [h.cellS (k := j) (by omega), ← hj, List.getElem?_map, List.getElem?_eq_getElem hlt, List.getD_eq_getElem?_getD, List.getElem?_eq_getElem hlt]
  rfl

theorem Qw.gbn {w0 w w' : World} {L : Nat} (q : Qw w0 w) (h : w.grownBy w' (some L)) (hL : w0.heap.size ≤ L) : Qw w0 w' :=
  ⟨h.os.trans q.os, h.tape.trans q.tape, h.output.trans q.output, Nat.le_trans q.size h.size, fun k hk => (h.block k (Nat.lt_of_lt_of_le hk q.size) (by simp; omega)).trans (q.block k hk)⟩

theorem Bx.new' (w : World) (A B : Array Value) (t : TypeId) (h : A = B) : Bx (w.alloc (.cells A t)) w.heap.size B t := h ▸ Bx.new w A t
theorem Qw.ty {w w' : World} (B L : Nat) (q : Qw w w') : Ty B L w w' := Ty.of q
/-- The first levels of a list in memory. -/
theorem Stb.some_cells {T E : TypeId} {w : World} {B L cap : Nat} {s : Vs.St} (h : Stb T E w B L cap s) (k : Nat) : ∀ j u, ((s.ls.take k).map (Value.int .i64))[j]? = some u → w.cell? ((⟨L, 0, none⟩ : Addr).add j) = some u := by
  intro j u hj
  refine h.owns_cells j u ?_
  rw [List.map_take] at hj
  have hk : j < k := by
    have := (List.getElem?_eq_some_iff.1 hj).1
    rw [List.length_take] at this
    omega
  rwa [List.getElem?_take_of_lt hk] at hj

end Go.Proofs.YtkfipjlknfinpaaDoor
