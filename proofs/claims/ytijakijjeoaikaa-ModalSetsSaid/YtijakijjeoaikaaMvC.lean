
/- Drawing a modal state from a tape: cncstage.Modal. -/
import Derived.Test.YtijakijjeoaikaaMvB
import Derived.Test.YtijakijjeoaikaaReg
set_option linter.unusedVariables false
set_option linter.unusedSimpArgs false
namespace Go.Proofs.Ytijakijjeoaikaa
open Go.RowKit

def mol : List Int := [0, 1, 2, 3, 33, 73, 74, 80, 81, 82, 83, 84, 85, 86, 89]
def lel : List Int := [43, 44, 49]
def pal : List Int := [61, 64]
/-- While a state is drawn: the tape, the result's block, the three tables. -/
structure Mv (w0 : World) (B R D1 D2 D3 : Nat) (tv : Value) (zs : List Int) (k : Nat) (w : World) : Prop where
  t : TapeAt w B tv zs k
  xr : Bx w R (mdc Md.S.zero) MT
  x1 : Bx w D1 (ivm mol) 3
  x2 : Bx w D2 (ivm lel) 3
  x3 : Bx w D3 (ivm pal) 3
  g : w0.grownBy w (some B)
  b : B < w0.heap.size
  r : w0.heap.size ≤ R
  d1 : w0.heap.size ≤ D1
  d2 : w0.heap.size ≤ D2
  d3 : w0.heap.size ≤ D3
def Mx (w0 : World) (B R D1 D2 D3 : Nat) (tv : Value) (zs : List Int) (w : World) : Prop := ∃ k, Mv w0 B R D1 D2 D3 tv zs k w
section
variable {w0 w w' : World} {B R D1 D2 D3 : Nat} {tv : Value} {zs : List Int} {k : Nat}
theorem Mv.next {k' : Nat} (h : Mv w0 B R D1 D2 D3 tv zs k w) (t : TapeAt w' B tv zs k') (g : w.grownBy w' (some B)) : Mv w0 B R D1 D2 D3 tv zs k' w' := by
  have hb := h.b
  exact ⟨t, h.xr.grM g (by have := h.r; omega), h.x1.grM g (by have := h.d1; omega), h.x2.grM g (by have := h.d2; omega), h.x3.grM g (by have := h.d3; omega), h.g.trans g, h.b, h.r, h.d1, h.d2, h.d3⟩
/-- What is new, and what does not lie in the blocks that are known. -/
theorem Mv.new (h : Mv w0 B R D1 D2 D3 tv zs k w) (q : Qw w w') : Mv w0 B R D1 D2 D3 tv zs k w' :=
  ⟨h.t.kept q, h.xr.kept q, h.x1.kept q, h.x2.kept q, h.x3.kept q, h.g.trans ⟨q.os, q.tape, q.output, q.size, fun b hb _ => q.block b hb⟩, h.b, h.r, h.d1, h.d2, h.d3⟩
theorem Mx.new (h : Mx w0 B R D1 D2 D3 tv zs w) (q : Qw w w') : Mx w0 B R D1 D2 D3 tv zs w' := by obtain ⟨k, h⟩ := h; exact ⟨k, h.new q⟩
theorem Mx.x1 (h : Mx w0 B R D1 D2 D3 tv zs w) : Bx w D1 (ivm mol) 3 := by obtain ⟨k, h⟩ := h; exact h.x1
theorem Mx.x2 (h : Mx w0 B R D1 D2 D3 tv zs w) : Bx w D2 (ivm lel) 3 := by obtain ⟨k, h⟩ := h; exact h.x2
theorem Mx.x3 (h : Mx w0 B R D1 D2 D3 tv zs w) : Bx w D3 (ivm pal) 3 := by obtain ⟨k, h⟩ := h; exact h.x3
theorem Mx.xr (h : Mx w0 B R D1 D2 D3 tv zs w) : Bx w R (mdc Md.S.zero) MT := by obtain ⟨k, h⟩ := h; exact h.xr
theorem Mx.gr (h : Mx w0 B R D1 D2 D3 tv zs w) : w0.grownBy w (some B) := by obtain ⟨k, h⟩ := h; exact h.g
end
set_option maxRecDepth 100000 in
theorem rangeM (B : Nat) (tv : Value) (zs : List Int) (k : Nat) (lo hi : Int) (h0 : 0 ≤ lo) (h1 : lo ≤ hi) (h2 : hi ≤ 1000000) (w : World) (h : TapeAt w B tv zs k) :
    Calls Try.prog 49 #[.pointer (some ⟨B, 0, none⟩), .int .i64 lo, .int .i64 hi] w fun e w' => e = .returned (.int .i64 (lo + nxt zs k (hi - lo + 1))) ∧ TapeAt w' B tv zs (adv zs k) ∧ w.grownBy w' (some B) := by
  have c := nextM B tv zs k (hi - lo + 1) (by omega) (by omega) w h
  have b := nxt_bd zs k (hi - lo + 1) (by omega)
  generalize nxt zs k (hi - lo + 1) = n at *
  obtain ⟨b0, b1⟩ := b
  have C := Lib.hid c
  clear c h
  go_enter Try.func49, Try.ntmps49
  go_wp2_with (go_at_call 35; ((with_reducible refine (C.out).mono ?_); rintro e w1 ⟨rfl, t, g⟩; have T1 := Lib.hid t; have G1 := Lib.hid g; clear t g))
  go_ret
  exact ⟨rfl, T1.out, G1.out⟩
section
variable {w0 : World} {B R D1 D2 D3 : Nat} {tv : Value} {zs : List Int}
def NumR (w0 : World) (B R D1 D2 D3 : Nat) (tv : Value) (zs : List Int) (w : World) (m : Int) (e : Ending) (w' : World) : Prop := (∃ n : Int, e = .returned (.int .i64 n) ∧ 0 ≤ n ∧ n < m) ∧ Mx w0 B R D1 D2 D3 tv zs w' ∧ w.grownBy w' (some B)
theorem nextX (m : Int) (m0 : 1 ≤ m) (m1 : m ≤ 1000000) (w : World) (h : Mx w0 B R D1 D2 D3 tv zs w) : Calls Try.prog 35 #[.pointer (some ⟨B, 0, none⟩), .int .i64 m] w fun e w' => (∃ n : Int, e = .returned (.int .i64 n) ∧ 0 ≤ n ∧ n < m) ∧ Mx w0 B R D1 D2 D3 tv zs w' ∧ w.grownBy w' (some B) := by
  obtain ⟨k, h⟩ := h
  have b := nxt_bd zs k m (by omega)
  exact (nextM B tv zs k m (by omega) (by omega) w h.t).mono fun e w' ⟨he, t, g⟩ => ⟨⟨_, he, b.1, b.2⟩, ⟨_, h.next t g⟩, g⟩
theorem rangeX (lo hi : Int) (h0 : 0 ≤ lo) (h1 : lo ≤ hi) (h2 : hi ≤ 1000000) (w : World) (h : Mx w0 B R D1 D2 D3 tv zs w) : Calls Try.prog 49 #[.pointer (some ⟨B, 0, none⟩), .int .i64 lo, .int .i64 hi] w fun e w' => (∃ n : Int, e = .returned (.int .i64 n)) ∧ Mx w0 B R D1 D2 D3 tv zs w' ∧ w.grownBy w' (some B) := by
  obtain ⟨k, h⟩ := h
  exact (rangeM B tv zs k lo hi h0 h1 h2 w h.t).mono fun e w' ⟨he, t, g⟩ => ⟨⟨_, he⟩, ⟨_, h.next t g⟩, g⟩
end
/-- The state that is drawn lies in block P. -/
structure Mz (w0 : World) (B R D1 D2 D3 : Nat) (tv : Value) (zs : List Int) (P : Nat) (s : Md.S) (w : World) : Prop where
  m : Mx w0 B R D1 D2 D3 tv zs w
  x : Bx w P (mdc s) MT
  ne : w0.heap.size ≤ P ∧ P ≠ R ∧ P ≠ D1 ∧ P ≠ D2 ∧ P ≠ D3
section
variable {w0 w w' : World} {B R D1 D2 D3 P : Nat} {tv : Value} {zs : List Int} {s : Md.S}
theorem Mz.next (h : Mz w0 B R D1 D2 D3 tv zs P s w) (m : Mx w0 B R D1 D2 D3 tv zs w') (g : w.grownBy w' (some B)) : Mz w0 B R D1 D2 D3 tv zs P s w' := by
  obtain ⟨k, hk⟩ := h.m
  exact ⟨m, h.x.grM g (by have := hk.b; have := h.ne.1; omega), h.ne⟩
theorem Mz.gen (h : Mz w0 B R D1 D2 D3 tv zs P s w) (g : w.grownBy w' (some P)) (t : Md.S) (x : Bx w' P (mdc t) MT) : Mz w0 B R D1 D2 D3 tv zs P t w' := by
  obtain ⟨⟨k, hk⟩, h2, h3, h4, h5, h6, h7⟩ := h
  have hb := hk.b
  have hB := lt_of_block hk.t.1
  refine ⟨⟨k, ⟨(g.block B hB (by simp; omega)).trans hk.t.1, ?_, hk.t.2.2⟩, hk.xr.grM g (by omega), hk.x1.grM g (by omega), hk.x2.grM g (by omega), hk.x3.grM g (by omega), ?_, hb, hk.r, hk.d1, hk.d2, hk.d3⟩, x, h3, h4, h5, h6, h7⟩
  · exact hk.t.2.1.kept (C := B) ⟨g.os, g.tape, g.output, g.size, fun b hl => g.block b (by omega) (by simp; omega)⟩ (Nat.le_refl _)
  · exact ⟨g.os.trans hk.g.os, g.tape.trans hk.g.tape, g.output.trans hk.g.output, Nat.le_trans hk.g.size g.size, fun b hl hn => (g.block b (by have := hk.g.size; omega) (by simp; omega)).trans (hk.g.block b hl hn)⟩
theorem Mz.set (h : Mz w0 B R D1 D2 D3 tv zs P s w) (k : Nat) (v : Value) (t : Md.S) (ht : (mdc s).setIfInBounds k v = mdc t) : Mz w0 B R D1 D2 D3 tv zs P t (w.setCell ⟨P, k, none⟩ v) :=
  h.gen (grownSet w P k v) t (ht ▸ h.x.set k v)
theorem Mz.new (h : Mx w0 B R D1 D2 D3 tv zs w) (q : Qw w w') (hP : w.heap.size ≤ P) (x : Bx w' P (mdc s) MT) : Mz w0 B R D1 D2 D3 tv zs P s w' := by
  obtain ⟨k, hk⟩ := h
  exact ⟨⟨k, hk.new q⟩, x, Nat.le_trans hk.g.size hP, by have := hk.xr.lt; omega, by have := hk.x1.lt; omega, by have := hk.x2.lt; omega, by have := hk.x3.lt; omega⟩
theorem Mz.row (h : Mz w0 B R D1 D2 D3 tv zs P s w) (t : Md.S) : Mz w0 B R D1 D2 D3 tv zs P t (w.setRow P (mdc t)) :=
  h.gen (show w.grownBy (w.setRow P (mdc t)) (some P) from ⟨rfl, rfl, rfl, by rw [setRow_size]; exact Nat.le_refl _, fun b _ hn => setRow_other w P b _ (fun e => hn (by rw [e]))⟩) t h.x.srS
end
section
variable {dst : Option Tmp} {ty : TypeId} {pos : String} {after : Array Edge} {a : Act} {w : World} {Q : Exit → Act → World → Prop} {K : Act → World → Prop}
set_option maxRecDepth 100000 in
theorem al_wp (h : ∀ w' P, w.heap.size ≤ P → Bx w' P (mdc Md.S.zero) MT → Qw w w' → K (a.put dst (.pointer (some ⟨P, 0, none⟩))) w') : Oper.wp Try.prog ⟨dst, .alloc MT, ty, pos, after, none⟩ a w K Q := by
  unfold Oper.wp execOp
  simp only [run_alloc_md w]
  exact h _ _ (Nat.le_refl _) (Bx.new w _ _) (Qw.al (Qw.refl w) _)
theorem st_wp (x y : Tmp) {P : Nat} {t : Md.S} {old : Md.S} (hx : a.eval (.tmp x) = .pointer (some ⟨P, 0, none⟩)) (hy : a.eval (.tmp y) = .agg (mdc t)) (X : Bx w P (mdc old) MT)
    (h : K (a.put dst undef) (w.setRow P (mdc t))) : Oper.wp Try.prog ⟨dst, .store MT (.tmp x) (.tmp y), ty, pos, after, none⟩ a w K Q :=
  wp_store_row MT (.tmp x) (.tmp y) rfl P (mdc t) hx hy MT (mdc old) X (by rw [mdc_size]; exact info_md) (by rw [mdc_size, mdc_size]) (mdc_one t) h
end
theorem mol_at (n : Int) (h0 : 0 ≤ n) (h1 : n < 15) : ∃ (N : Nat) (x : Int), n = N ∧ N < 15 ∧ (ivm mol)[N]? = some (.int .i64 x) := ⟨n.toNat, _, by omega, by omega, ivm_at (show n.toNat < 15 by omega)⟩
theorem lel_at (n : Int) (h0 : 0 ≤ n) (h1 : n < 3) : ∃ (N : Nat) (x : Int), n = N ∧ N < 3 ∧ (ivm lel)[N]? = some (.int .i64 x) := ⟨n.toNat, _, by omega, by omega, ivm_at (show n.toNat < 3 by omega)⟩
theorem pal_at (n : Int) (h0 : 0 ≤ n) (h1 : n < 2) : ∃ (N : Nat) (x : Int), n = N ∧ N < 2 ∧ (ivm pal)[N]? = some (.int .i64 x) := ⟨n.toNat, _, by omega, by omega, ivm_at (show n.toNat < 2 by omega)⟩
end Go.Proofs.Ytijakijjeoaikaa
