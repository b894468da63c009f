import Derived.Test.YtnjcbgnghfppoaaDoorGH
import Derived.Test.YtnjcbgnghfppoaaDoorGI
import Derived.Test.YtnjcbgnghfppoaaDoorGSc
import Derived.Deep.MidRow
import Derived.Deep.DeepCutAuto
import Derived.Deep.Cut

/- Frames: plain words, and frames in memory (32 cells as one array). -/
set_option linter.unusedVariables false
set_option linter.unusedSimpArgs false
namespace Go.Proofs.YtnjcbgnghfppoaaDoor
open Go.RowKit

namespace Fm
/-- A frame: the eighteen numbers of its systems, its system's number, Local, Shift, Length, Turned, Plane, Center, Angle. -/
structure F where
  c : Nat → Int
  n : Int
  lx : Int
  ly : Int
  lz : Int
  sx : Int
  sy : Int
  sz : Int
  g : Int
  t : Bool
  p : Int
  ex : Int
  ey : Int
  ez : Int
  a : Int
def F.zero : F := ⟨fun _ => 0, 0, 0, 0, 0, 0, 0, 0, 0, false, 0, 0, 0, 0, 0⟩
end Fm
/-- The cells of a frame. -/
def frc (f : Fm.F) : Array Value := #[.int .i64 (f.c 0), .int .i64 (f.c 1), .int .i64 (f.c 2), .int .i64 (f.c 3), .int .i64 (f.c 4), .int .i64 (f.c 5), .int .i64 (f.c 6), .int .i64 (f.c 7), .int .i64 (f.c 8), .int .i64 (f.c 9), .int .i64 (f.c 10), .int .i64 (f.c 11), .int .i64 (f.c 12), .int .i64 (f.c 13), .int .i64 (f.c 14), .int .i64 (f.c 15), .int .i64 (f.c 16), .int .i64 (f.c 17), .int .i64 f.n, .int .i64 f.lx, .int .i64 f.ly, .int .i64 f.lz, .int .i64 f.sx, .int .i64 f.sy, .int .i64 f.sz, .int .i64 f.g, .bool f.t, .int .i64 f.p, .int .i64 f.ex, .int .i64 f.ey, .int .i64 f.ez, .int .i64 f.a]
/-- The cells of six vectors. -/
def sysc (c : Nat → Int) : List Value := [.int .i64 (c 0), .int .i64 (c 1), .int .i64 (c 2), .int .i64 (c 3), .int .i64 (c 4), .int .i64 (c 5), .int .i64 (c 6), .int .i64 (c 7), .int .i64 (c 8), .int .i64 (c 9), .int .i64 (c 10), .int .i64 (c 11), .int .i64 (c 12), .int .i64 (c 13), .int .i64 (c 14), .int .i64 (c 15), .int .i64 (c 16), .int .i64 (c 17)]
theorem frc_size (f : Fm.F) : (frc f).size = 32 := rfl
theorem frc_one (f : Fm.F) : (frc f).all (·.oneCell') = true := by simp [frc, Value.oneCell']
theorem frc_cells (f : Fm.F) : (Value.agg (frc f)).cells = frc f := by simp [Value.cells, frc]
abbrev FT : TypeId := 26
theorem info_fr : (Tryd.prog.info? 26).map (·.size) = some 32 := by kernel_rfl
theorem info_sys : (Tryd.prog.info? 24).map (·.size) = some 18 := by kernel_rfl
theorem zero_fr (w : World) : (zeroValue 26).run Tryd.prog w = .ok (.agg (frc Fm.F.zero)) w := by kernel_rfl
theorem frc_sys (f : Fm.F) (k : Nat) (hk : k < 18) : (frc f)[k]? = some (.int .i64 (f.c k)) := by
  have h : k = 0 ∨ k = 1 ∨ k = 2 ∨ k = 3 ∨ k = 4 ∨ k = 5 ∨ k = 6 ∨ k = 7 ∨ k = 8 ∨ k = 9 ∨ k = 10 ∨ k = 11 ∨ k = 12 ∨ k = 13 ∨ k = 14 ∨ k = 15 ∨ k = 16 ∨ k = 17 := by omega
  rcases h with rfl | rfl | rfl | rfl | rfl | rfl | rfl | rfl | rfl | rfl | rfl | rfl | rfl | rfl | rfl | rfl | rfl | rfl <;> rfl
theorem sysc_length (c : Nat → Int) : (sysc c).length = 18 := rfl
theorem sysc_at (c : Nat → Int) (k : Nat) (hk : k < 18) : (sysc c)[k]? = some (.int .i64 (c k)) := by
  have h : k = 0 ∨ k = 1 ∨ k = 2 ∨ k = 3 ∨ k = 4 ∨ k = 5 ∨ k = 6 ∨ k = 7 ∨ k = 8 ∨ k = 9 ∨ k = 10 ∨ k = 11 ∨ k = 12 ∨ k = 13 ∨ k = 14 ∨ k = 15 ∨ k = 16 ∨ k = 17 := by omega
  rcases h with rfl | rfl | rfl | rfl | rfl | rfl | rfl | rfl | rfl | rfl | rfl | rfl | rfl | rfl | rfl | rfl | rfl | rfl <;> rfl
theorem index_sys (c : Nat → Int) (k : Nat) (hk : k < 6) (w : World) : (Instr.index 24 (.agg (sysc c).toArray) (.int .i64 (k : Int))).run Tryd.prog w = .ok (.agg #[.int .i64 (c (3 * k)), .int .i64 (c (3 * k + 1)), .int .i64 (c (3 * k + 2))]) w := by
  have i0 : ∀ w, (Instr.index 24 (.agg (sysc c).toArray) (.int .i64 0)).run Tryd.prog w = .ok (.agg #[.int .i64 (c 0), .int .i64 (c 1), .int .i64 (c 2)]) w := fun w => by kernel_rfl
  have i1 : ∀ w, (Instr.index 24 (.agg (sysc c).toArray) (.int .i64 1)).run Tryd.prog w = .ok (.agg #[.int .i64 (c 3), .int .i64 (c 4), .int .i64 (c 5)]) w := fun w => by kernel_rfl
  have i2 : ∀ w, (Instr.index 24 (.agg (sysc c).toArray) (.int .i64 2)).run Tryd.prog w = .ok (.agg #[.int .i64 (c 6), .int .i64 (c 7), .int .i64 (c 8)]) w := fun w => by kernel_rfl
  have i3 : ∀ w, (Instr.index 24 (.agg (sysc c).toArray) (.int .i64 3)).run Tryd.prog w = .ok (.agg #[.int .i64 (c 9), .int .i64 (c 10), .int .i64 (c 11)]) w := fun w => by kernel_rfl
  have i4 : ∀ w, (Instr.index 24 (.agg (sysc c).toArray) (.int .i64 4)).run Tryd.prog w = .ok (.agg #[.int .i64 (c 12), .int .i64 (c 13), .int .i64 (c 14)]) w := fun w => by kernel_rfl
  have i5 : ∀ w, (Instr.index 24 (.agg (sysc c).toArray) (.int .i64 5)).run Tryd.prog w = .ok (.agg #[.int .i64 (c 15), .int .i64 (c 16), .int .i64 (c 17)]) w := fun w => by kernel_rfl
  have h : k = 0 ∨ k = 1 ∨ k = 2 ∨ k = 3 ∨ k = 4 ∨ k = 5 := by omega
  rcases h with rfl | rfl | rfl | rfl | rfl | rfl
  · exact i0 w
  · exact i1 w
  · exact i2 w
  · exact i3 w
  · exact i4 w
  · exact i5 w
theorem run_alloc_fr (w : World) : (Instr.alloc 26 true (.tuple #[])).run Tryd.prog w = .ok (.pointer (some ⟨w.heap.size, 0, none⟩)) (w.alloc (.cells (frc Fm.F.zero) 26)) := by
  simp only [Instr.alloc, Sem.run_bind, zero_fr, Result.andThen_ok]
  simp only [newVar, newRow, Sem.run_bind, run_newObj_alloc, Sem.run_pure, Result.andThen_ok, frc_cells]
theorem run_load_fr (w : World) (P : Nat) (f : Fm.F) (X : Bx w P (frc f) FT) : (Instr.loadAt FT (.pointer (some ⟨P, 0, none⟩))).run Tryd.prog w = .ok (.agg (frc f)) w := by
  simp only [Instr.loadAt, Instr.sureAddr, Sem.run_bind, Sem.run_pure, Result.andThen_ok, run_loadVar_row w P 26 26 (frc f) (0, 0) _ X Tryd.underlying26 rfl (by rw [frc_size]; exact info_fr)]
section
variable {ops : Array Oper} {rest : List Oper} {dst : Option Tmp} {ty : TypeId} {pos : String} {after : Array Edge} {a : Act} {w w0 : World} {Q : Exit → Act → World → Prop} {P R : Nat} {f g : Fm.F}
set_option maxRecDepth 100000 in
theorem box_fr (x : Tmp) (hx : a.eval (.tmp x) = .agg (frc f))
    (h : ∀ w' P, w.heap.size ≤ P → Bx w' P (frc f) FT → Qw w w' → wpList Tryd.prog ops Q rest (a.put dst (.pointer (some ⟨P, 0, none⟩))) w') :
    wpList Tryd.prog ops Q (⟨dst, .box FT (.tmp x), ty, pos, after, none⟩ :: rest) a w :=
  Go.Great.wpList_boxTo rfl FT (.tmp x) rfl dst rfl w.heap.size rfl (frc f) (by rw [hx]; exact frc_cells f) (h _ _ (Nat.le_refl _) (Bx.new w _ _) (Qw.al (Qw.refl w) _))
set_option maxRecDepth 100000 in
theorem al_fr (h : ∀ w' P, w.heap.size ≤ P → Bx w' P (frc Fm.F.zero) FT → Qw w w' → wpList Tryd.prog ops Q rest (a.put dst (.pointer (some ⟨P, 0, none⟩))) w') :
    wpList Tryd.prog ops Q (⟨dst, .alloc FT, ty, pos, after, none⟩ :: rest) a w := by
  refine wpList_plain rfl fun K hK => ?_
  unfold Oper.wp execOp
  simp only [run_alloc_fr w]
  exact hK _ _ (h _ _ (Nat.le_refl _) (Bx.new w _ _) (Qw.al (Qw.refl w) _))
theorem ld_fr (x : Tmp) {P : Nat} (hx : a.eval (.tmp x) = .pointer (some ⟨P, 0, none⟩)) (X : Bx w P (frc f) FT) (h : wpList Tryd.prog ops Q rest (a.put dst (.agg (frc f))) w) :
    wpList Tryd.prog ops Q (⟨dst, .load FT (.tmp x), ty, pos, after, none⟩ :: rest) a w :=
  wpList_load_row rfl FT (.tmp x) rfl P hx FT (frc f) (0, 0) _ X Tryd.underlying26 rfl (by rw [frc_size]; exact info_fr) h
theorem st_fr (x y : Tmp) (hx : a.eval (.tmp x) = .pointer (some ⟨P, 0, none⟩)) (hy : a.eval (.tmp y) = .agg (frc g)) (X : Bx w P (frc f) FT)
    (h : ∀ w', Bx w' P (frc g) FT → (∀ w0, Qw w0 w → w0.heap.size ≤ P → Qw w0 w') → wpList Tryd.prog ops Q rest (a.put dst undef) w') : wpList Tryd.prog ops Q (⟨dst, .store FT (.tmp x) (.tmp y), ty, pos, after, none⟩ :: rest) a w :=
  wpList_store_row rfl FT (.tmp x) (.tmp y) rfl P (frc g) hx hy FT (frc f) X (by rw [frc_size]; exact info_fr) (by rw [frc_size, frc_size]) (frc_one g) (h _ X.srS (fun w0 q hp => q.sr' hp _))
/-- The six systems, read at once. -/
theorem ld_sys (x : Tmp) {P : Nat} (hx : a.eval (.tmp x) = .pointer (some ⟨P, 0, none⟩)) (X : Bx w P (frc f) FT) (h : wpList Tryd.prog ops Q rest (a.put dst (.agg (sysc f.c).toArray)) w) :
    wpList Tryd.prog ops Q (⟨dst, .load 24 (.tmp x), ty, pos, after, none⟩ :: rest) a w := by
  refine wpList_load_mid rfl 24 (.tmp x) rfl P 0 hx (sysc f.c) _ ?_ Tryd.underlying24 rfl (by rw [sysc_length]; exact info_sys) h
  intro j v hv
  have hj : j < 18 := (List.getElem?_eq_some_iff.1 hv).1
  rw [sysc_at f.c j hj] at hv
  injection hv with hv
  rw [Nat.zero_add, ← hv]
  exact X.cell' j _ (frc_sys f j hj)
/-- A load of a frame, first. -/
theorem ry_fr {S : World → Prop} {o : Oper} (x : Tmp) (ho : o.op = .load FT (.tmp x)) (hg : o.guard = none) (hx : a.eval (.tmp x) = .pointer (some ⟨P, 0, none⟩)) (hS : ∀ w, S w → Bx w P (frc f) FT) :
    YieldsIf Tryd.prog ops S o (.agg (frc f)) a := by
  refine .inl ⟨by simp [Region.wanted, hg], fun w hw => ?_⟩
  unfold execOp
  simp only [ho, hx, Sem.run_bind, run_load_fr w P f (hS w hw), Result.andThen_ok, Sem.run_pure]
end
theorem ret_fr {fn : Func} {a : Act} {w : World} {R : Nat} {f : Fm.F} (p : Tmp) (hr : fn.results = #[.cell p FT]) (h2 : a.tmps.getD p undef = .pointer (some ⟨R, 0, none⟩)) (X : Bx w R (frc f) FT) : (results fn a.tmps).run Tryd.prog w = .ok (.agg (frc f)) w :=
  results_cell_row hr a.tmps w R FT (frc f) (0, 0) _ h2 X Tryd.underlying26 rfl (by rw [frc_size]; exact info_fr)
end Go.Proofs.YtnjcbgnghfppoaaDoor

/- Plain words of layer 12: which frames are valid, their origin, positions to and from. -/
set_option linter.unusedVariables false
set_option linter.unusedSimpArgs false
namespace Go.Proofs.YtnjcbgnghfppoaaDoor
open Go.RowKit

namespace Fm
def hasB (f : F) : Bool := decide (54 ≤ f.n) && decide (f.n ≤ 59)
def zer (f : F) : Bool := decide (f.ex = 0) && (decide (f.ey = 0) && decide (f.ez = 0))
def trnB (f : F) : Bool := if f.t = true then pin f.p && (decide (0 ≤ f.a) && decide (f.a < 360000000)) else decide (f.p = 0) && (zer f && decide (f.a = 0))
def sysB (f : F) (k : Nat) : Bool := wth (f.c (3 * k)) (f.c (3 * k + 1)) (f.c (3 * k + 2))
def allB (f : F) : Nat → Bool
  | 0 => true
  | k + 1 => allB f k && sysB f k
def vldF (f : F) : Bool := allB f 6 && (hasB f && (wth f.lx f.ly f.lz && (wth f.sx f.sy f.sz && (wth f.ex f.ey f.ez && (wth 0 0 f.g && trnB f)))))
theorem allB_no {f : F} {k m : Nat} (h : k < m) (hs : sysB f k = false) : allB f m = false := by
  induction m with
  | zero => omega
  | succ m ih =>
    by_cases e : k = m
    · subst e; simp [allB, hs]
    · simp [allB, ih (by omega)]
/-- All numbers are integers of 64 bits. -/
structure Wf (f : F) : Prop where
  c : ∀ k, k < 18 → -9223372036854775808 ≤ f.c k ∧ f.c k ≤ 9223372036854775807
  n : -9223372036854775808 ≤ f.n ∧ f.n ≤ 9223372036854775807
  lx : -9223372036854775808 ≤ f.lx ∧ f.lx ≤ 9223372036854775807
  ly : -9223372036854775808 ≤ f.ly ∧ f.ly ≤ 9223372036854775807
  lz : -9223372036854775808 ≤ f.lz ∧ f.lz ≤ 9223372036854775807
  sx : -9223372036854775808 ≤ f.sx ∧ f.sx ≤ 9223372036854775807
  sy : -9223372036854775808 ≤ f.sy ∧ f.sy ≤ 9223372036854775807
  sz : -9223372036854775808 ≤ f.sz ∧ f.sz ≤ 9223372036854775807
  g : -9223372036854775808 ≤ f.g ∧ f.g ≤ 9223372036854775807
  p : -9223372036854775808 ≤ f.p ∧ f.p ≤ 9223372036854775807
  ex : -9223372036854775808 ≤ f.ex ∧ f.ex ≤ 9223372036854775807
  ey : -9223372036854775808 ≤ f.ey ∧ f.ey ≤ 9223372036854775807
  ez : -9223372036854775808 ≤ f.ez ∧ f.ez ≤ 9223372036854775807
  a : -9223372036854775808 ≤ f.a ∧ f.a ≤ 9223372036854775807
/-- A frame as it is drawn. -/
structure Gd (f : F) : Prop where
  n1 : 54 ≤ f.n
  n2 : f.n ≤ 59
  c : ∀ k, k < 18 → -50000 ≤ f.c k ∧ f.c k ≤ 50000
  lx : -20000 ≤ f.lx ∧ f.lx ≤ 20000
  ly : -20000 ≤ f.ly ∧ f.ly ≤ 20000
  lz : -20000 ≤ f.lz ∧ f.lz ≤ 20000
  sx : -20000 ≤ f.sx ∧ f.sx ≤ 20000
  sy : -20000 ≤ f.sy ∧ f.sy ≤ 20000
  sz : -20000 ≤ f.sz ∧ f.sz ≤ 20000
  g : -5000 ≤ f.g ∧ f.g ≤ 5000
  ex : -50000 ≤ f.ex ∧ f.ex ≤ 50000
  ey : -50000 ≤ f.ey ∧ f.ey ≤ 50000
  ez : -50000 ≤ f.ez ∧ f.ez ≤ 50000
  a : 0 ≤ f.a ∧ f.a < 360000000
  yes : f.t = true → 17 ≤ f.p ∧ f.p ≤ 19
  no : f.t = false → f.p = 0 ∧ f.ex = 0 ∧ f.ey = 0 ∧ f.ez = 0 ∧ f.a = 0
theorem Gd.p {f : F} (h : Gd f) : 0 ≤ f.p ∧ f.p ≤ 19 := by
  cases ht : f.t
  · have := h.no ht; omega
  · have := h.yes ht; omega
theorem Gd.wf {f : F} (h : Gd f) : Wf f := by
  have hp := h.p
  refine ⟨fun k hk => ?_, ?_, ?_, ?_, ?_, ?_, ?_, ?_, ?_, ?_, ?_, ?_, ?_, ?_⟩
  · have := h.c k hk; omega
  · have := h.n1; have := h.n2; omega
  · have := h.lx; omega
  · have := h.ly; omega
  · have := h.lz; omega
  · have := h.sx; omega
  · have := h.sy; omega
  · have := h.sz; omega
  · have := h.g; omega
  · omega
  · have := h.ex; omega
  · have := h.ey; omega
  · have := h.ez; omega
  · have := h.a; omega
theorem wth_of {x y z : Int} (hx : -1048576 ≤ x ∧ x ≤ 1048576) (hy : -1048576 ≤ y ∧ y ≤ 1048576) (hz : -1048576 ≤ z ∧ z ≤ 1048576) : wth x y z = true := by
  simp [wth, crd, hx, hy, hz]
theorem wth_bd {x y z : Int} (h : wth x y z = true) : (-1048576 ≤ x ∧ x ≤ 1048576) ∧ (-1048576 ≤ y ∧ y ≤ 1048576) ∧ (-1048576 ≤ z ∧ z ≤ 1048576) := by
  simpa [wth, crd] using h
theorem Gd.vld {f : F} (h : Gd f) : vldF f = true := by
  have hs : ∀ k, k < 6 → sysB f k = true := fun k hk => by
    have a := h.c (3 * k) (by omega)
    have b := h.c (3 * k + 1) (by omega)
    have c := h.c (3 * k + 2) (by omega)
    exact wth_of (by omega) (by omega) (by omega)
  have ha : allB f 6 = true := by simp [allB, hs 0 (by omega), hs 1 (by omega), hs 2 (by omega), hs 3 (by omega), hs 4 (by omega), hs 5 (by omega)]
  have hh : hasB f = true := by simp [hasB, h.n1, h.n2]
  have hl : wth f.lx f.ly f.lz = true := wth_of (by have := h.lx; omega) (by have := h.ly; omega) (by have := h.lz; omega)
  have hsx : wth f.sx f.sy f.sz = true := wth_of (by have := h.sx; omega) (by have := h.sy; omega) (by have := h.sz; omega)
  have he : wth f.ex f.ey f.ez = true := wth_of (by have := h.ex; omega) (by have := h.ey; omega) (by have := h.ez; omega)
  have hg : wth 0 0 f.g = true := wth_of (by omega) (by omega) (by have := h.g; omega)
  have ht : trnB f = true := by
    unfold trnB
    cases e : f.t
    · obtain ⟨a, b, c, d, g⟩ := h.no e
      simp [zer, a, b, c, d, g]
    · have p := h.yes e
      have q := h.a
      have : f.p = 17 ∨ f.p = 18 ∨ f.p = 19 := by omega
      rw [if_pos rfl]
      rcases this with k | k | k <;> simp [pin, k, q]
  simp [vldF, ha, hh, hl, hsx, he, hg, ht]
/-- The origin. -/
def sysn (f : F) : Nat := (f.n - 54).toNat
def ox (f : F) : Int := f.c (3 * sysn f) + f.lx + f.sx
def oy (f : F) : Int := f.c (3 * sysn f + 1) + f.ly + f.sy
def oz (f : F) : Int := f.c (3 * sysn f + 2) + f.lz + f.sz + f.g
theorem Gd.o {f : F} (h : Gd f) : (-90000 ≤ ox f ∧ ox f ≤ 90000) ∧ (-90000 ≤ oy f ∧ oy f ≤ 90000) ∧ (-95000 ≤ oz f ∧ oz f ≤ 95000) := by
  have hn : sysn f < 6 := by have := h.n1; have := h.n2; unfold sysn; omega
  have a := h.c (3 * sysn f) (by omega)
  have b := h.c (3 * sysn f + 1) (by omega)
  have c := h.c (3 * sysn f + 2) (by omega)
  have := h.lx; have := h.ly; have := h.lz; have := h.sx; have := h.sy; have := h.sz; have := h.g
  unfold ox oy oz
  omega
/-- A position after the rotation. -/
def ru (f : F) (x y z a : Int) : Int := (rotv (fu f.p x y z - fu f.p f.ex f.ey f.ez) (fw f.p x y z - fw f.p f.ex f.ey f.ez) a).1 + fu f.p f.ex f.ey f.ez
def rw_ (f : F) (x y z a : Int) : Int := (rotv (fu f.p x y z - fu f.p f.ex f.ey f.ez) (fw f.p x y z - fw f.p f.ex f.ey f.ez) a).2 + fw f.p f.ex f.ey f.ez
def tx (f : F) (x y z a : Int) : Int := if f.t = true then sx f.p (ru f x y z a) (rw_ f x y z a) (fh f.p x y z) else x
def ty (f : F) (x y z a : Int) : Int := if f.t = true then sy f.p (ru f x y z a) (rw_ f x y z a) (fh f.p x y z) else y
def tz (f : F) (x y z a : Int) : Int := if f.t = true then sz f.p (ru f x y z a) (rw_ f x y z a) (fh f.p x y z) else z
theorem f_bd {p x y z B : Int} (h0 : 0 ≤ B) (hx : -B ≤ x ∧ x ≤ B) (hy : -B ≤ y ∧ y ≤ B) (hz : -B ≤ z ∧ z ≤ B) : (-B ≤ fu p x y z ∧ fu p x y z ≤ B) ∧ (-B ≤ fw p x y z ∧ fw p x y z ≤ B) ∧ (-B ≤ fh p x y z ∧ fh p x y z ≤ B) := by
  unfold fu fw fh
  refine ⟨?_, ?_, ?_⟩ <;> (repeat' split) <;> omega
theorem s_bd {p x y z B : Int} (h0 : 0 ≤ B) (hx : -B ≤ x ∧ x ≤ B) (hy : -B ≤ y ∧ y ≤ B) (hz : -B ≤ z ∧ z ≤ B) : (-B ≤ Go.Proofs.YtnjcbgnghfppoaaDoor.sx p x y z ∧ Go.Proofs.YtnjcbgnghfppoaaDoor.sx p x y z ≤ B) ∧ (-B ≤ Go.Proofs.YtnjcbgnghfppoaaDoor.sy p x y z ∧ Go.Proofs.YtnjcbgnghfppoaaDoor.sy p x y z ≤ B) ∧ (-B ≤ Go.Proofs.YtnjcbgnghfppoaaDoor.sz p x y z ∧ Go.Proofs.YtnjcbgnghfppoaaDoor.sz p x y z ≤ B) := by
  unfold Go.Proofs.YtnjcbgnghfppoaaDoor.sx Go.Proofs.YtnjcbgnghfppoaaDoor.sy Go.Proofs.YtnjcbgnghfppoaaDoor.sz
  refine ⟨?_, ?_, ?_⟩ <;> (repeat' split) <;> omega
theorem rotv_bd2 (x y a : Int) (x1 : -1250000 ≤ x) (x2 : x ≤ 1250000) (y1 : -1250000 ≤ y) (y2 : y ≤ 1250000) :
    -1800000 ≤ (rotv x y a).1 ∧ (rotv x y a).1 ≤ 1800000 ∧ -1800000 ≤ (rotv x y a).2 ∧ (rotv x y a).2 ≤ 1800000 := by
  have k := Cm.turn_len x y _ _ _ _ 1767768 (Cm.nm_box x1 x2 y1 y2 (by decide) (by decide)) (Cm.sc_bd a) (rotv_near x y a (by omega) (by omega) (by omega) (by omega))
  have p := Cm.nm_re k
  have q := Cm.nm_im k
  omega
/-- What the differences, and the turned position, are at most. -/
theorem Gd.diff {f : F} (h : Gd f) {x y z : Int} (hx : -1200000 ≤ x ∧ x ≤ 1200000) (hy : -1200000 ≤ y ∧ y ≤ 1200000) (hz : -1200000 ≤ z ∧ z ≤ 1200000) :
    (-1250000 ≤ fu f.p x y z - fu f.p f.ex f.ey f.ez ∧ fu f.p x y z - fu f.p f.ex f.ey f.ez ≤ 1250000) ∧ (-1250000 ≤ fw f.p x y z - fw f.p f.ex f.ey f.ez ∧ fw f.p x y z - fw f.p f.ex f.ey f.ez ≤ 1250000) := by
  have a := f_bd (p := f.p) (B := 1200000) (by decide) hx hy hz
  have b := f_bd (p := f.p) (B := 50000) (by decide) h.ex h.ey h.ez
  omega
theorem Gd.r {f : F} (h : Gd f) {x y z : Int} (hx : -1200000 ≤ x ∧ x ≤ 1200000) (hy : -1200000 ≤ y ∧ y ≤ 1200000) (hz : -1200000 ≤ z ∧ z ≤ 1200000) (a : Int) :
    (-1850000 ≤ ru f x y z a ∧ ru f x y z a ≤ 1850000) ∧ (-1850000 ≤ rw_ f x y z a ∧ rw_ f x y z a ≤ 1850000) := by
  have d := h.diff hx hy hz
  have b := f_bd (p := f.p) (B := 50000) (by decide) h.ex h.ey h.ez
  have k := rotv_bd2 _ _ a d.1.1 d.1.2 d.2.1 d.2.2
  unfold ru rw_
  omega
theorem Gd.tb {f : F} (h : Gd f) {x y z : Int} (hx : -1200000 ≤ x ∧ x ≤ 1200000) (hy : -1200000 ≤ y ∧ y ≤ 1200000) (hz : -1200000 ≤ z ∧ z ≤ 1200000) (a : Int) :
    (-1850000 ≤ tx f x y z a ∧ tx f x y z a ≤ 1850000) ∧ (-1850000 ≤ ty f x y z a ∧ ty f x y z a ≤ 1850000) ∧ (-1850000 ≤ tz f x y z a ∧ tz f x y z a ≤ 1850000) := by
  have r := h.r hx hy hz a
  have g := f_bd (p := f.p) (B := 1850000) (by decide) (x := x) (y := y) (z := z) (by omega) (by omega) (by omega)
  have s := s_bd (p := f.p) (B := 1850000) (by decide) r.1 r.2 g.2.2
  unfold tx ty tz
  cases f.t
  · simp only [Bool.false_eq_true, if_false]; omega
  · simp only [if_true]; exact s
/-- A position that is checked. -/
def cvx (x y z n : Int) : Int := if wth x y z = true then n else 0
def cve (x y z : Int) : Int := if wth x y z = true then 0 else 3
/-- The machine position of a program position. -/
def mx (f : F) (x y z : Int) : Int := tx f x y z f.a + ox f
def my (f : F) (x y z : Int) : Int := ty f x y z f.a + oy f
def mz (f : F) (x y z : Int) : Int := tz f x y z f.a + oz f
/-- The program position of a machine position. -/
def px (f : F) (x y z : Int) : Int := tx f (x - ox f) (y - oy f) (z - oz f) (-f.a)
def py (f : F) (x y z : Int) : Int := ty f (x - ox f) (y - oy f) (z - oz f) (-f.a)
def pz (f : F) (x y z : Int) : Int := tz f (x - ox f) (y - oy f) (z - oz f) (-f.a)
def toV (f : F) (x y z n : Int) : Int := if wth x y z = true then cvx (mx f x y z) (my f x y z) (mz f x y z) n else 0
def toE (f : F) (x y z : Int) : Int := if wth x y z = true then cve (mx f x y z) (my f x y z) (mz f x y z) else 3
def frV (f : F) (x y z n : Int) : Int := if wth x y z = true then cvx (px f x y z) (py f x y z) (pz f x y z) n else 0
def frE (f : F) (x y z : Int) : Int := if wth x y z = true then cve (px f x y z) (py f x y z) (pz f x y z) else 3
end Fm
end Go.Proofs.YtnjcbgnghfppoaaDoor

/- The walks of package frame: hasSystem, validTurn, Valid. -/
set_option linter.unusedVariables false
set_option linter.unusedSimpArgs false
namespace Go.Proofs.YtnjcbgnghfppoaaDoor
open Go.RowKit

theorem at_t {f : Fm.F} {b : Bool} (h : f.t = b) : (frc f)[26]? = some (.bool b) := by rw [← h]; rfl
set_option maxRecDepth 100000 in
theorem fmHas (f : Fm.F) (w : World) : Calls Tryd.prog 44 #[.agg (frc f)] w fun e w' => e = .returned (.bool (Fm.hasB f)) ∧ Qw w w' := by
  by_cases h1 : 54 ≤ f.n
  · by_cases h2 : f.n ≤ 59
    · have e : Fm.hasB f = true := by simp [Fm.hasB, h1, h2]
      rw [e]
      clear e
      go_enter Tryd.func44, Tryd.ntmps44
      go_wp2_with (refine box_fr 0 rfl ?_; intro w1 P hp X q; have c18 := X.cell' 18 (.int .i64 f.n) rfl; have Q1 := Lib.hid q; clear X q)
      go_ret
      exact ⟨rfl, Q1.out⟩
    · have e : Fm.hasB f = false := by simp [Fm.hasB, h2]
      rw [e]
      clear e
      go_enter Tryd.func44, Tryd.ntmps44
      go_wp2_with (refine box_fr 0 rfl ?_; intro w1 P hp X q; have c18 := X.cell' 18 (.int .i64 f.n) rfl; have Q1 := Lib.hid q; clear X q)
      go_ret
      exact ⟨rfl, Q1.out⟩
  · have e : Fm.hasB f = false := by simp [Fm.hasB, h1]
    rw [e]
    clear e
    go_enter Tryd.func44, Tryd.ntmps44
    go_wp2_with (refine box_fr 0 rfl ?_; intro w1 P hp X q; have c18 := X.cell' 18 (.int .i64 f.n) rfl; have Q1 := Lib.hid q; clear X q)
    go_ret
    exact ⟨rfl, Q1.out⟩
set_option maxRecDepth 100000 in
set_option maxHeartbeats 2000000 in
theorem fmTurn (f : Fm.F) (hw : Fm.Wf f) (w : World) : Calls Tryd.prog 45 #[.agg (frc f)] w fun e w' => e = .returned (.bool (Fm.trnB f)) ∧ Qw w w' := by
  have q0 : Hid (Qw w w) := Lib.hid (Qw.refl w)
  cases ht : f.t
  · by_cases k0 : f.p = 0
    · by_cases k1 : f.ex = 0
      · by_cases k2 : f.ey = 0
        · by_cases k3 : f.ez = 0
          · by_cases k4 : f.a = 0
            · have e : Fm.trnB f = true := by simp [Fm.trnB, Fm.zer, ht, k0, k1, k2, k3, k4]
              rw [e]
              have y0 : (f.p == 0) = true := by simpa using k0
              have y1 : (f.ex == 0) = true := by simpa using k1
              have y2 : (f.ey == 0) = true := by simpa using k2
              have y3 : (f.ez == 0) = true := by simpa using k3
              have y4 : (f.a == 0) = true := by simpa using k4
              clear e hw k0 k1 k2 k3 k4
              go_enter Tryd.func45, Tryd.ntmps45
              go_wp2_with (first | (refine box_fr 0 rfl ?_; intro w1 P hp X q; have c26 := X.cell' 26 (.bool false) (at_t ht); have c27 := X.cell' 27 (.int .i64 f.p) rfl; have c28 := X.cell' 28 (.int .i64 f.ex) rfl; have c29 := X.cell' 29 (.int .i64 f.ey) rfl; have c30 := X.cell' 30 (.int .i64 f.ez) rfl; have c31 := X.cell' 31 (.int .i64 f.a) rfl; have Q1 := Lib.hid q; clear X q ht))
              go_ret
              exact ⟨rfl, Q1.out⟩
            · have e : Fm.trnB f = false := by simp [Fm.trnB, Fm.zer, ht, k0, k1, k2, k3, k4]
              rw [e]
              have y0 : (f.p == 0) = true := by simpa using k0
              have y1 : (f.ex == 0) = true := by simpa using k1
              have y2 : (f.ey == 0) = true := by simpa using k2
              have y3 : (f.ez == 0) = true := by simpa using k3
              have y4 : (f.a == 0) = false := beq_eq_false_iff_ne.2 k4
              clear e hw k0 k1 k2 k3 k4
              go_enter Tryd.func45, Tryd.ntmps45
              go_wp2_with (first | (refine box_fr 0 rfl ?_; intro w1 P hp X q; have c26 := X.cell' 26 (.bool false) (at_t ht); have c27 := X.cell' 27 (.int .i64 f.p) rfl; have c28 := X.cell' 28 (.int .i64 f.ex) rfl; have c29 := X.cell' 29 (.int .i64 f.ey) rfl; have c30 := X.cell' 30 (.int .i64 f.ez) rfl; have c31 := X.cell' 31 (.int .i64 f.a) rfl; have Q1 := Lib.hid q; clear X q ht))
              go_ret
              exact ⟨rfl, Q1.out⟩
          · have e : Fm.trnB f = false := by simp [Fm.trnB, Fm.zer, ht, k0, k1, k2, k3]
            rw [e]
            have y0 : (f.p == 0) = true := by simpa using k0
            have y1 : (f.ex == 0) = true := by simpa using k1
            have y2 : (f.ey == 0) = true := by simpa using k2
            have y3 : (f.ez == 0) = false := beq_eq_false_iff_ne.2 k3
            clear e hw k0 k1 k2 k3
            go_enter Tryd.func45, Tryd.ntmps45
            go_wp2_with (first | (refine box_fr 0 rfl ?_; intro w1 P hp X q; have c26 := X.cell' 26 (.bool false) (at_t ht); have c27 := X.cell' 27 (.int .i64 f.p) rfl; have c28 := X.cell' 28 (.int .i64 f.ex) rfl; have c29 := X.cell' 29 (.int .i64 f.ey) rfl; have c30 := X.cell' 30 (.int .i64 f.ez) rfl; have c31 := X.cell' 31 (.int .i64 f.a) rfl; have Q1 := Lib.hid q; clear X q ht))
            go_ret
            exact ⟨rfl, Q1.out⟩
        · have e : Fm.trnB f = false := by simp [Fm.trnB, Fm.zer, ht, k0, k1, k2]
          rw [e]
          have y0 : (f.p == 0) = true := by simpa using k0
          have y1 : (f.ex == 0) = true := by simpa using k1
          have y2 : (f.ey == 0) = false := beq_eq_false_iff_ne.2 k2
          clear e hw k0 k1 k2
          go_enter Tryd.func45, Tryd.ntmps45
          go_wp2_with (first | (refine box_fr 0 rfl ?_; intro w1 P hp X q; have c26 := X.cell' 26 (.bool false) (at_t ht); have c27 := X.cell' 27 (.int .i64 f.p) rfl; have c28 := X.cell' 28 (.int .i64 f.ex) rfl; have c29 := X.cell' 29 (.int .i64 f.ey) rfl; have c30 := X.cell' 30 (.int .i64 f.ez) rfl; have c31 := X.cell' 31 (.int .i64 f.a) rfl; have Q1 := Lib.hid q; clear X q ht))
          go_ret
          exact ⟨rfl, Q1.out⟩
      · have e : Fm.trnB f = false := by simp [Fm.trnB, Fm.zer, ht, k0, k1]
        rw [e]
        have y0 : (f.p == 0) = true := by simpa using k0
        have y1 : (f.ex == 0) = false := beq_eq_false_iff_ne.2 k1
        clear e hw k0 k1
        go_enter Tryd.func45, Tryd.ntmps45
        go_wp2_with (first | (refine box_fr 0 rfl ?_; intro w1 P hp X q; have c26 := X.cell' 26 (.bool false) (at_t ht); have c27 := X.cell' 27 (.int .i64 f.p) rfl; have c28 := X.cell' 28 (.int .i64 f.ex) rfl; have c29 := X.cell' 29 (.int .i64 f.ey) rfl; have c30 := X.cell' 30 (.int .i64 f.ez) rfl; have c31 := X.cell' 31 (.int .i64 f.a) rfl; have Q1 := Lib.hid q; clear X q ht))
        go_ret
        exact ⟨rfl, Q1.out⟩
    · have e : Fm.trnB f = false := by simp [Fm.trnB, Fm.zer, ht, k0]
      rw [e]
      have y0 : (f.p == 0) = false := beq_eq_false_iff_ne.2 k0
      clear e hw k0
      go_enter Tryd.func45, Tryd.ntmps45
      go_wp2_with (first | (refine box_fr 0 rfl ?_; intro w1 P hp X q; have c26 := X.cell' 26 (.bool false) (at_t ht); have c27 := X.cell' 27 (.int .i64 f.p) rfl; have c28 := X.cell' 28 (.int .i64 f.ex) rfl; have c29 := X.cell' 29 (.int .i64 f.ey) rfl; have c30 := X.cell' 30 (.int .i64 f.ez) rfl; have c31 := X.cell' 31 (.int .i64 f.a) rfl; have Q1 := Lib.hid q; clear X q ht))
      go_ret
      exact ⟨rfl, Q1.out⟩
  · have fl := fun w => vc_flat f.p 0 0 0 hw.p.1 hw.p.2 w
    have b1 := hw.p
    have b2 := hw.a
    rw [show fu f.p 0 0 0 = 0 by unfold fu; (repeat' split) <;> rfl, show fw f.p 0 0 0 = 0 by unfold fw; (repeat' split) <;> rfl, show fh f.p 0 0 0 = 0 by unfold fh; (repeat' split) <;> rfl] at fl
    cases hp : pin f.p
    · rw [hp] at fl
      have e : Fm.trnB f = false := by simp [Fm.trnB, ht, hp]
      rw [e]
      have FL := Lib.hid fl
      clear e hw fl hp b1 b2
      go_enter Tryd.func45, Tryd.ntmps45
      go_wp2_with (first | (refine box_fr 0 rfl ?_; intro w1 P hp X q; have c26 := X.cell' 26 (.bool true) (at_t ht); have c27 := X.cell' 27 (.int .i64 f.p) rfl; have BX := Lib.hid (fun k v hv {w'} (q : Qw w1 w') => (X.kept q).cell' k v hv); have LX := Lib.hid (fun (w' : World) (q : Qw w1 w') => (X.kept q).lt); have Q1 := Lib.hid q; clear X q ht) | (go_at_call 65; ((with_reducible refine (FL.out _).mono ?_); rintro e w' ⟨rfl, q⟩; replace Q1 := Lib.hid (Qw.trans Q1.out q); have c31 := BX.out 31 (.int .i64 f.a) rfl q; have l31 := LX.out _ q; clear q)))
      go_ret
      exact ⟨rfl, Qw.al Q1.out _⟩
    · rw [hp] at fl
      have FL := Lib.hid fl
      clear fl
      by_cases k0 : 0 ≤ f.a
      · by_cases k1 : f.a < 360000000
        · have e : Fm.trnB f = true := by simp [Fm.trnB, ht, hp, k0, k1]
          rw [e]
          clear e hw hp b1 b2
          go_enter Tryd.func45, Tryd.ntmps45
          go_wp2_with (first | (refine box_fr 0 rfl ?_; intro w1 P hp X q; have c26 := X.cell' 26 (.bool true) (at_t ht); have c27 := X.cell' 27 (.int .i64 f.p) rfl; have BX := Lib.hid (fun k v hv {w'} (q : Qw w1 w') => (X.kept q).cell' k v hv); have LX := Lib.hid (fun (w' : World) (q : Qw w1 w') => (X.kept q).lt); have Q1 := Lib.hid q; clear X q ht) | (go_at_call 65; ((with_reducible refine (FL.out _).mono ?_); rintro e w' ⟨rfl, q⟩; replace Q1 := Lib.hid (Qw.trans Q1.out q); have c31 := BX.out 31 (.int .i64 f.a) rfl q; have l31 := LX.out _ q; clear q)))
          go_ret
          exact ⟨rfl, Qw.al Q1.out _⟩
        · have e : Fm.trnB f = false := by simp [Fm.trnB, ht, hp, k0, k1]
          rw [e]
          have k2 : decide (f.a < 360000000) = false := by simpa using k1
          clear e hw hp b1 b2 k1
          go_enter Tryd.func45, Tryd.ntmps45
          go_wp2_with (first | (refine box_fr 0 rfl ?_; intro w1 P hp X q; have c26 := X.cell' 26 (.bool true) (at_t ht); have c27 := X.cell' 27 (.int .i64 f.p) rfl; have BX := Lib.hid (fun k v hv {w'} (q : Qw w1 w') => (X.kept q).cell' k v hv); have LX := Lib.hid (fun (w' : World) (q : Qw w1 w') => (X.kept q).lt); have Q1 := Lib.hid q; clear X q ht) | (go_at_call 65; ((with_reducible refine (FL.out _).mono ?_); rintro e w' ⟨rfl, q⟩; replace Q1 := Lib.hid (Qw.trans Q1.out q); have c31 := BX.out 31 (.int .i64 f.a) rfl q; have l31 := LX.out _ q; clear q)))
          go_ret
          exact ⟨rfl, Qw.al Q1.out _⟩
      · have e : Fm.trnB f = false := by simp [Fm.trnB, ht, hp, k0]
        rw [e]
        have k2 : f.a < 0 := by omega
        clear e hw hp b1 b2 k0
        go_enter Tryd.func45, Tryd.ntmps45
        go_wp2_with (first | (refine box_fr 0 rfl ?_; intro w1 P hp X q; have c26 := X.cell' 26 (.bool true) (at_t ht); have c27 := X.cell' 27 (.int .i64 f.p) rfl; have BX := Lib.hid (fun k v hv {w'} (q : Qw w1 w') => (X.kept q).cell' k v hv); have LX := Lib.hid (fun (w' : World) (q : Qw w1 w') => (X.kept q).lt); have Q1 := Lib.hid q; clear X q ht) | (go_at_call 65; ((with_reducible refine (FL.out _).mono ?_); rintro e w' ⟨rfl, q⟩; replace Q1 := Lib.hid (Qw.trans Q1.out q); have c31 := BX.out 31 (.int .i64 f.a) rfl q; have l31 := LX.out _ q; clear q)))
        go_ret
        exact ⟨rfl, Qw.al Q1.out _⟩
end Go.Proofs.YtnjcbgnghfppoaaDoor

/- The walks of package frame: small, coordinates, Origin. -/
set_option linter.unusedVariables false
set_option linter.unusedSimpArgs false
namespace Go.Proofs.YtnjcbgnghfppoaaDoor
open Go.RowKit

theorem bxn (w : World) (a : Obj) (cs : Array Value) (t : TypeId) : Bx ((w.alloc a).alloc (.cells cs t)) (w.heap.size + 1) cs t := by
  have h := Bx.new (w.alloc a) cs t
  have e : (w.alloc a).heap.size = w.heap.size + 1 := by simp
  rwa [e] at h
set_option maxRecDepth 100000 in
set_option maxHeartbeats 1000000 in
theorem fmCoord (x y z : Int) (x1 : -9223372036854775808 ≤ x) (x2 : x ≤ 9223372036854775807) (y1 : -9223372036854775808 ≤ y) (y2 : y ≤ 9223372036854775807) (z1 : -9223372036854775808 ≤ z) (z2 : z ≤ 9223372036854775807) (w : World) :
    Calls Tryd.prog 50 #[.agg #[.int .i64 x, .int .i64 y, .int .i64 z]] w fun e w' => e = .returned (.tuple #[.agg #[.int .i64 (Fm.cvx x y z x), .int .i64 (Fm.cvx x y z y), .int .i64 (Fm.cvx x y z z)], .int .i64 (Fm.cve x y z)]) ∧ Qw w w' := by
  have c := fun w => vc_within x y z x1 x2 y1 y2 z1 z2 w
  unfold Fm.cvx Fm.cve
  cases h : wth x y z
  · rw [h] at c
    simp only [Bool.false_eq_true, if_false]
    have C := Lib.hid c
    clear c h x1 x2 y1 y2 z1 z2
    go_enter Tryd.func50, Tryd.ntmps50
    go_wp2_with fail
    refine (C.out _).mono ?_
    rintro e w1 ⟨rfl, q⟩
    have R := (bxn w (.cells #[.int .i64 x, .int .i64 y, .int .i64 z] 23) #[.int .i64 0, .int .i64 0, .int .i64 0] 23).kept q
    have Q := Qw.trans (Qw.al (Qw.al (Qw.refl w) _) _) q
    clear q
    have r0 := R.cell' 0 (.int .i64 0) rfl
    have r1 := R.cell' 1 (.int .i64 0) rfl
    have r2 := R.cell' 2 (.int .i64 0) rfl
    have f0 := R.free 0
    have f1 := R.free 1
    have f2 := R.free 2
    go_wp2
    have S := ((R.set 0 (.int .i64 0)).set 1 (.int .i64 0)).set 2 (.int .i64 0)
    have s0 := S.cell' 0 (.int .i64 0) rfl
    have s1 := S.cell' 1 (.int .i64 0) rfl
    have s2 := S.cell' 2 (.int .i64 0) rfl
    exact bodyPost_ret (v := .tuple #[.agg #[.int .i64 0, .int .i64 0, .int .i64 0], .int .i64 3]) (by simp [results, Tryd.results50, go_sem, s0, s1, s2]) rfl ⟨rfl, ((Q.setCell (by simp) _).setCell (by simp) _).setCell (by simp) _⟩
  · rw [h] at c
    simp only [if_true]
    have C := Lib.hid c
    clear c h x1 x2 y1 y2 z1 z2
    go_enter Tryd.func50, Tryd.ntmps50
    go_wp2_with fail
    refine (C.out _).mono ?_
    rintro e w1 ⟨rfl, q⟩
    have R := (bxn w (.cells #[.int .i64 x, .int .i64 y, .int .i64 z] 23) #[.int .i64 0, .int .i64 0, .int .i64 0] 23).kept q
    have X := ((Bx.new w #[.int .i64 x, .int .i64 y, .int .i64 z] 23).alloc (.cells #[.int .i64 0, .int .i64 0, .int .i64 0] 23)).kept q
    have Q := Qw.trans (Qw.al (Qw.al (Qw.refl w) _) _) q
    clear q
    have x0 := X.cell' 0 (.int .i64 x) rfl
    have x1 := X.cell' 1 (.int .i64 y) rfl
    have x2 := X.cell' 2 (.int .i64 z) rfl
    have r0 := R.cell' 0 (.int .i64 0) rfl
    have r1 := R.cell' 1 (.int .i64 0) rfl
    have r2 := R.cell' 2 (.int .i64 0) rfl
    have f0 := R.free 0
    have f1 := R.free 1
    have f2 := R.free 2
    go_wp2
    have S := ((R.set 0 (.int .i64 x)).set 1 (.int .i64 y)).set 2 (.int .i64 z)
    have s0 := S.cell' 0 (.int .i64 x) rfl
    have s1 := S.cell' 1 (.int .i64 y) rfl
    have s2 := S.cell' 2 (.int .i64 z) rfl
    exact bodyPost_ret (v := .tuple #[.agg #[.int .i64 x, .int .i64 y, .int .i64 z], .int .i64 0]) (by simp [results, Tryd.results50, go_sem, s0, s1, s2]) rfl ⟨rfl, ((Q.setCell (by simp) _).setCell (by simp) _).setCell (by simp) _⟩
/-- Whether none of a few numbers is beyond the reach. -/
def RowI (w : World) (v : Value) (l : List Int) : Prop := ∃ b, v = .slice (some ⟨b, 0, none⟩) l.length l.length ∧ b < w.heap.size ∧ ∀ i, i < l.length → w.cell? ⟨b, i, none⟩ = some (.int .i64 (l.getD i 0))
set_option maxRecDepth 100000 in
set_option maxHeartbeats 1000000 in
theorem fmSmall (v : Value) (l : List Int) (hl : l.length ≤ 3) (hb : ∀ i, i < l.length → -4194304 ≤ l.getD i 0 ∧ l.getD i 0 ≤ 4194304) (w : World) (h : RowI w v l) :
    Calls Tryd.prog 69 #[v] w fun e w' => e = .returned (.bool true) ∧ Qw w w' := by
  obtain ⟨b, rfl, hB, hc⟩ := h
  have HC := Lib.hid hc
  have HB := Lib.hid hb
  clear hc hb
  go_enter Tryd.func69, Tryd.ntmps69
  go_wp2
  go_loopw [7] (fun kv wr => ∃ k : Nat, k ≤ l.length ∧ kv = .int .i64 (k : Int) ∧ Hid (Qw w wr)) (fun kv _ => l.length - (intOf kv).toNat)
  case atStart => exact ⟨0, by omega, rfl, Lib.hid (Qw.refl w)⟩
  case round =>
    obtain ⟨k, hk, rfl, HQ⟩ := hrel
    by_cases hlt : k < l.length
    · obtain ⟨b1, b2⟩ := HB.out k hlt
      have c := (HQ.out.cell (p := ⟨b, k, none⟩) hB).trans (HC.out k hlt)
      have hl1 : (k : Int) < (l.length : Int) := by omega
      generalize l.getD k 0 = n at *
      clear HB HC
      go_wp2
      go_roundw
      case rel => exact ⟨k + 1, by omega, by go_num, HQ⟩
      case measure => simp [intOf]; omega
    · obtain rfl : k = l.length := by omega
      go_wp2
      go_ret
      exact ⟨rfl, HQ.out⟩
/-- The sum after j summands. -/
def Sto (f : Fm.F) (X0 Y0 Z0 j x y z : Int) : Prop := (j = 0 ∧ x = X0 ∧ y = Y0 ∧ z = Z0) ∨ (j = 1 ∧ x = X0 + f.lx ∧ y = Y0 + f.ly ∧ z = Z0 + f.lz) ∨ (j = 2 ∧ x = X0 + f.lx + f.sx ∧ y = Y0 + f.ly + f.sy ∧ z = Z0 + f.lz + f.sz) ∨ (j = 3 ∧ x = X0 + f.lx + f.sx ∧ y = Y0 + f.ly + f.sy ∧ z = Z0 + f.lz + f.sz + f.g)
set_option maxRecDepth 100000 in
set_option maxHeartbeats 4000000 in
theorem fmOrigin (f : Fm.F) (hg : Fm.Gd f) (w : World) : Calls Tryd.prog 18 #[.agg (frc f)] w fun e w' => e = .returned (.agg #[.int .i64 (Fm.ox f), .int .i64 (Fm.oy f), .int .i64 (Fm.oz f)]) ∧ Qw w w' := by
  have hh : Fm.hasB f = true := by simp [Fm.hasB, hg.n1, hg.n2]
  have ch := fun w => fmHas f w
  rw [hh] at ch
  clear hh
  have CH := Lib.hid ch
  clear ch
  have key : ∀ k : Nat, k < 6 → f.n = 54 + (k : Int) → Calls Tryd.prog 18 #[.agg (frc f)] w fun e w' => e = .returned (.agg #[.int .i64 (f.c (3 * k) + f.lx + f.sx), .int .i64 (f.c (3 * k + 1) + f.ly + f.sy), .int .i64 (f.c (3 * k + 2) + f.lz + f.sz + f.g)]) ∧ Qw w w' := by
    intro k hk hn
    have b0 := hg.c (3 * k) (by omega)
    have b1 := hg.c (3 * k + 1) (by omega)
    have b2 := hg.c (3 * k + 2) (by omega)
    obtain ⟨l1, l2⟩ := hg.lx
    obtain ⟨l3, l4⟩ := hg.ly
    obtain ⟨l5, l6⟩ := hg.lz
    obtain ⟨l7, l8⟩ := hg.sx
    obtain ⟨l9, la⟩ := hg.sy
    obtain ⟨lb, lc⟩ := hg.sz
    obtain ⟨ld, le⟩ := hg.g
    have hx := hg.c
    have CX := Lib.hid hx
    clear hx hg
    obtain ⟨X0, e0⟩ : ∃ z, z = f.c (3 * k) := ⟨_, rfl⟩
    obtain ⟨Y0, e1⟩ : ∃ z, z = f.c (3 * k + 1) := ⟨_, rfl⟩
    obtain ⟨Z0, e2⟩ : ∃ z, z = f.c (3 * k + 2) := ⟨_, rfl⟩
    rw [← e0, ← e1, ← e2]
    rw [← e0] at b0
    rw [← e1] at b1
    rw [← e2] at b2
    obtain ⟨b3, b4⟩ := b0
    obtain ⟨b5, b6⟩ := b1
    obtain ⟨b7, b8⟩ := b2
    have E := Lib.hid (And.intro hk (And.intro hn (And.intro e0 (And.intro e1 e2))))
    clear hn e0 e1 e2 hk
    go_enter Tryd.func18, Tryd.ntmps18
    go_upto_region 3 with (first | (refine box_fr 0 rfl ?_; intro w1 P hp X q; have X1 := Lib.hid X; have Q1 := Lib.hid q; clear X q) | (refine ld_fr 1 rfl (X1.out.alloc _) ?_) | (go_at_call 44; ((with_reducible refine (CH.out _).mono ?_); rintro e w2 ⟨rfl, q⟩; have X2 := Lib.hid (Bx.kept (X1.out.alloc _) q); have R2 := Lib.hid (Bx.kept (Bx.new w1 #[.int .i64 0, .int .i64 0, .int .i64 0] 23) q); have Q2 := Lib.hid (Qw.trans (Qw.al Q1.out _) q); have ne : P ≠ w1.heap.size := Nat.ne_of_lt X1.out.lt; clear q)))
    have hr0 : w.heap.size ≤ w1.heap.size := Q1.out.size
    generalize w1.heap.size = R at *
    go_cut [3] (fun pv wx => ∃ O : Nat, pv = .pointer (some ⟨O, 0, none⟩) ∧ P ≠ O ∧ R ≠ O ∧ w.heap.size ≤ O ∧ Hid (Bx wx P (frc f) FT) ∧ Hid (Bx wx R #[.int .i64 0, .int .i64 0, .int .i64 0] 23) ∧ Hid (Bx wx O #[.int .i64 X0, .int .i64 Y0, .int .i64 Z0] 23) ∧ Hid (Qw w wx))
    case first =>
      obtain ⟨hk, hn, e0, e1, e2⟩ := E.out
      have hk6 : k = 0 ∨ k = 1 ∨ k = 2 ∨ k = 3 ∨ k = 4 ∨ k = 5 := by omega
      have hlt := X2.out.lt
      have hltR := R2.out.lt
      clear E hk
      rcases hk6 with rfl | rfl | rfl | rfl | rfl | rfl
      · have c18 := X2.out.cell' 18 (.int .i64 54) (by show some (Value.int .i64 f.n) = _; rw [hn]; rfl)
        have c0 := X2.out.cell' 0 (.int .i64 X0) (by rw [e0]; rfl)
        have c1 := X2.out.cell' 1 (.int .i64 Y0) (by rw [e1]; rfl)
        have c2 := X2.out.cell' 2 (.int .i64 Z0) (by rw [e2]; rfl)
        clear hn e0 e1 e2
        go_wp2
        go_meet
        exact ⟨_, rfl, Nat.ne_of_lt hlt, Nat.ne_of_lt hltR, Q2.out.size, Lib.hid ((X2.out.alloc _)), Lib.hid ((R2.out.alloc _)), Lib.hid (Bx.new _ _ _), Lib.hid (Qw.al Q2.out _)⟩
      · have c18 := X2.out.cell' 18 (.int .i64 55) (by show some (Value.int .i64 f.n) = _; rw [hn]; rfl)
        have c0 := X2.out.cell' 3 (.int .i64 X0) (by rw [e0]; rfl)
        have c1 := X2.out.cell' 4 (.int .i64 Y0) (by rw [e1]; rfl)
        have c2 := X2.out.cell' 5 (.int .i64 Z0) (by rw [e2]; rfl)
        clear hn e0 e1 e2
        go_wp2
        go_meet
        exact ⟨_, rfl, Nat.ne_of_lt hlt, Nat.ne_of_lt hltR, Q2.out.size, Lib.hid ((X2.out.alloc _)), Lib.hid ((R2.out.alloc _)), Lib.hid (Bx.new _ _ _), Lib.hid (Qw.al Q2.out _)⟩
      · have c18 := X2.out.cell' 18 (.int .i64 56) (by show some (Value.int .i64 f.n) = _; rw [hn]; rfl)
        have c0 := X2.out.cell' 6 (.int .i64 X0) (by rw [e0]; rfl)
        have c1 := X2.out.cell' 7 (.int .i64 Y0) (by rw [e1]; rfl)
        have c2 := X2.out.cell' 8 (.int .i64 Z0) (by rw [e2]; rfl)
        clear hn e0 e1 e2
        go_wp2
        go_meet
        exact ⟨_, rfl, Nat.ne_of_lt hlt, Nat.ne_of_lt hltR, Q2.out.size, Lib.hid ((X2.out.alloc _)), Lib.hid ((R2.out.alloc _)), Lib.hid (Bx.new _ _ _), Lib.hid (Qw.al Q2.out _)⟩
      · have c18 := X2.out.cell' 18 (.int .i64 57) (by show some (Value.int .i64 f.n) = _; rw [hn]; rfl)
        have c0 := X2.out.cell' 9 (.int .i64 X0) (by rw [e0]; rfl)
        have c1 := X2.out.cell' 10 (.int .i64 Y0) (by rw [e1]; rfl)
        have c2 := X2.out.cell' 11 (.int .i64 Z0) (by rw [e2]; rfl)
        clear hn e0 e1 e2
        go_wp2
        go_meet
        exact ⟨_, rfl, Nat.ne_of_lt hlt, Nat.ne_of_lt hltR, Q2.out.size, Lib.hid ((X2.out.alloc _)), Lib.hid ((R2.out.alloc _)), Lib.hid (Bx.new _ _ _), Lib.hid (Qw.al Q2.out _)⟩
      · have c18 := X2.out.cell' 18 (.int .i64 58) (by show some (Value.int .i64 f.n) = _; rw [hn]; rfl)
        have c0 := X2.out.cell' 12 (.int .i64 X0) (by rw [e0]; rfl)
        have c1 := X2.out.cell' 13 (.int .i64 Y0) (by rw [e1]; rfl)
        have c2 := X2.out.cell' 14 (.int .i64 Z0) (by rw [e2]; rfl)
        clear hn e0 e1 e2
        go_wp2
        go_meet
        exact ⟨_, rfl, Nat.ne_of_lt hlt, Nat.ne_of_lt hltR, Q2.out.size, Lib.hid ((X2.out.alloc _)), Lib.hid ((R2.out.alloc _)), Lib.hid (Bx.new _ _ _), Lib.hid (Qw.al Q2.out _)⟩
      · have c18 := X2.out.cell' 18 (.int .i64 59) (by show some (Value.int .i64 f.n) = _; rw [hn]; rfl)
        have c0 := X2.out.cell' 15 (.int .i64 X0) (by rw [e0]; rfl)
        have c1 := X2.out.cell' 16 (.int .i64 Y0) (by rw [e1]; rfl)
        have c2 := X2.out.cell' 17 (.int .i64 Z0) (by rw [e2]; rfl)
        clear hn e0 e1 e2
        go_wp2
        go_meet
        exact ⟨_, rfl, Nat.ne_of_lt hlt, Nat.ne_of_lt hltR, Q2.out.size, Lib.hid ((X2.out.alloc _)), Lib.hid ((R2.out.alloc _)), Lib.hid (Bx.new _ _ _), Lib.hid (Qw.al Q2.out _)⟩
    case rest =>
      obtain ⟨O, rfl, n1, n2, hO, X3, R3, O3, Q3⟩ := hcut
      clear E CX R2 Q2 X2 CH
      have c19 := X3.out.cell' 19 (.int .i64 f.lx) rfl
      have c20 := X3.out.cell' 20 (.int .i64 f.ly) rfl
      have c21 := X3.out.cell' 21 (.int .i64 f.lz) rfl
      have c22 := X3.out.cell' 22 (.int .i64 f.sx) rfl
      have c23 := X3.out.cell' 23 (.int .i64 f.sy) rfl
      have c24 := X3.out.cell' 24 (.int .i64 f.sz) rfl
      have c25 := X3.out.cell' 25 (.int .i64 f.g) rfl
      go_wp2
      have no : O ≠ wc.heap.size := Nat.ne_of_lt O3.out.lt
      have S0 : Hid (Bx (wc.alloc (.cells #[.int .i64 f.lx, .int .i64 f.ly, .int .i64 f.lz, .int .i64 f.sx, .int .i64 f.sy, .int .i64 f.sz, .int .i64 0, .int .i64 0, .int .i64 f.g] 23)) wc.heap.size #[.int .i64 f.lx, .int .i64 f.ly, .int .i64 f.lz, .int .i64 f.sx, .int .i64 f.sy, .int .i64 f.sz, .int .i64 0, .int .i64 0, .int .i64 f.g] 23) := Lib.hid (Bx.new _ _ _)
      have hs := Q3.out.size
      go_loopw [25] (fun kv wr => ∃ (j : Int) (x y z : Int), kv = .int .i64 j ∧ Hid (Sto f X0 Y0 Z0 j x y z) ∧ Hid (Bx wr O #[.int .i64 x, .int .i64 y, .int .i64 z] 23) ∧ Hid (Bx wr wc.heap.size #[.int .i64 f.lx, .int .i64 f.ly, .int .i64 f.lz, .int .i64 f.sx, .int .i64 f.sy, .int .i64 f.sz, .int .i64 0, .int .i64 0, .int .i64 f.g] 23) ∧ Hid (Bx wr R #[.int .i64 0, .int .i64 0, .int .i64 0] 23) ∧ Hid (Qw w wr)) (fun kv _ => 3 - (intOf kv).toNat)
      case atStart => exact ⟨0, X0, Y0, Z0, rfl, Lib.hid (.inl ⟨rfl, rfl, rfl, rfl⟩), Lib.hid (O3.out.alloc _), S0, Lib.hid (R3.out.alloc _), Lib.hid (Qw.al Q3.out _)⟩
      case round =>
        clear c19 c20 c21 c22 c23 c24 c25
        obtain ⟨j, x, y, z, rfl, HS, HO, HSL, HR, HQ⟩ := hrel
        have s0 := HSL.out.cell' 0 (.int .i64 f.lx) rfl
        have s1 := HSL.out.cell' 1 (.int .i64 f.ly) rfl
        have s2 := HSL.out.cell' 2 (.int .i64 f.lz) rfl
        have s3 := HSL.out.cell' 3 (.int .i64 f.sx) rfl
        have s4 := HSL.out.cell' 4 (.int .i64 f.sy) rfl
        have s5 := HSL.out.cell' 5 (.int .i64 f.sz) rfl
        have s6 := HSL.out.cell' 6 (.int .i64 0) rfl
        have s7 := HSL.out.cell' 7 (.int .i64 0) rfl
        have s8 := HSL.out.cell' 8 (.int .i64 f.g) rfl
        have o0 := HO.out.cell' 0 (.int .i64 x) rfl
        have o1 := HO.out.cell' 1 (.int .i64 y) rfl
        have o2 := HO.out.cell' 2 (.int .i64 z) rfl
        have lo := HO.out.lt
        rcases HS.out with ⟨rfl, e1, e2, e3⟩ | ⟨rfl, e1, e2, e3⟩ | ⟨rfl, e1, e2, e3⟩ | ⟨rfl, e1, e2, e3⟩
        · have cA := fun w => vc_add x y z f.lx f.ly f.lz (by omega) (by omega) (by omega) (by omega) (by omega) (by omega) (by omega) (by omega) (by omega) (by omega) (by omega) (by omega) w
          have CA := Lib.hid cA
          have EE := Lib.hid (And.intro e1 (And.intro e2 e3))
          clear cA e1 e2 e3 HS
          go_wp2_with (go_at_call 48; ((with_reducible refine (CA.out _).mono ?_); rintro e w5 ⟨rfl, q⟩; have O5 := Lib.hid ((HO.out.alloc _).kept q); have L5 := Lib.hid ((HSL.out.alloc _).kept q); have R5 := Lib.hid ((HR.out.alloc _).kept q); have Q5 := Lib.hid (Qw.trans (Qw.al HQ.out _) q); have o0 := O5.out.cell' 0 (.int .i64 x) rfl; have o1 := O5.out.cell' 1 (.int .i64 y) rfl; have o2 := O5.out.cell' 2 (.int .i64 z) rfl; have f0 := O5.out.free 0; have f1 := O5.out.free 1; have f2 := O5.out.free 2; clear q))
          go_roundw
          case rel =>
            obtain ⟨e1, e2, e3⟩ := EE.out
            exact ⟨1, _, _, _, rfl, Lib.hid (.inr (.inl ⟨rfl, by omega, by omega, by omega⟩)), Lib.hid (((O5.out.set 0 _).set 1 _).set 2 _), Lib.hid (((L5.out.other (fun h => no h.symm) _).other (fun h => no h.symm) _).other (fun h => no h.symm) _), Lib.hid (((R5.out.other n2 _).other n2 _).other n2 _), Lib.hid (((Q5.out.setCell (by simpa using hO) _).setCell (by simpa using hO) _).setCell (by simpa using hO) _)⟩
          case measure => simp [intOf]
        · have cA := fun w => vc_add x y z f.sx f.sy f.sz (by omega) (by omega) (by omega) (by omega) (by omega) (by omega) (by omega) (by omega) (by omega) (by omega) (by omega) (by omega) w
          have CA := Lib.hid cA
          have EE := Lib.hid (And.intro e1 (And.intro e2 e3))
          clear cA e1 e2 e3 HS
          go_wp2_with (go_at_call 48; ((with_reducible refine (CA.out _).mono ?_); rintro e w5 ⟨rfl, q⟩; have O5 := Lib.hid ((HO.out.alloc _).kept q); have L5 := Lib.hid ((HSL.out.alloc _).kept q); have R5 := Lib.hid ((HR.out.alloc _).kept q); have Q5 := Lib.hid (Qw.trans (Qw.al HQ.out _) q); have o0 := O5.out.cell' 0 (.int .i64 x) rfl; have o1 := O5.out.cell' 1 (.int .i64 y) rfl; have o2 := O5.out.cell' 2 (.int .i64 z) rfl; have f0 := O5.out.free 0; have f1 := O5.out.free 1; have f2 := O5.out.free 2; clear q))
          go_roundw
          case rel =>
            obtain ⟨e1, e2, e3⟩ := EE.out
            exact ⟨2, _, _, _, rfl, Lib.hid (.inr (.inr (.inl ⟨rfl, by omega, by omega, by omega⟩))), Lib.hid (((O5.out.set 0 _).set 1 _).set 2 _), Lib.hid (((L5.out.other (fun h => no h.symm) _).other (fun h => no h.symm) _).other (fun h => no h.symm) _), Lib.hid (((R5.out.other n2 _).other n2 _).other n2 _), Lib.hid (((Q5.out.setCell (by simpa using hO) _).setCell (by simpa using hO) _).setCell (by simpa using hO) _)⟩
          case measure => simp [intOf]
        · have cA := fun w => vc_add x y z 0 0 f.g (by omega) (by omega) (by omega) (by omega) (by omega) (by omega) (by omega) (by omega) (by omega) (by omega) (by omega) (by omega) w
          have CA := Lib.hid cA
          have EE := Lib.hid (And.intro e1 (And.intro e2 e3))
          clear cA e1 e2 e3 HS
          go_wp2_with (go_at_call 48; ((with_reducible refine (CA.out _).mono ?_); rintro e w5 ⟨rfl, q⟩; have O5 := Lib.hid ((HO.out.alloc _).kept q); have L5 := Lib.hid ((HSL.out.alloc _).kept q); have R5 := Lib.hid ((HR.out.alloc _).kept q); have Q5 := Lib.hid (Qw.trans (Qw.al HQ.out _) q); have o0 := O5.out.cell' 0 (.int .i64 x) rfl; have o1 := O5.out.cell' 1 (.int .i64 y) rfl; have o2 := O5.out.cell' 2 (.int .i64 z) rfl; have f0 := O5.out.free 0; have f1 := O5.out.free 1; have f2 := O5.out.free 2; clear q))
          go_roundw
          case rel =>
            obtain ⟨e1, e2, e3⟩ := EE.out
            exact ⟨3, _, _, _, rfl, Lib.hid (.inr (.inr (.inr (⟨rfl, by omega, by omega, by omega⟩)))), Lib.hid (((O5.out.set 0 _).set 1 _).set 2 _), Lib.hid (((L5.out.other (fun h => no h.symm) _).other (fun h => no h.symm) _).other (fun h => no h.symm) _), Lib.hid (((R5.out.other n2 _).other n2 _).other n2 _), Lib.hid (((Q5.out.setCell (by simpa using hO) _).setCell (by simpa using hO) _).setCell (by simpa using hO) _)⟩
          case measure => simp [intOf]
        · have r0 := HR.out.cell' 0 (.int .i64 0) rfl
          have r1 := HR.out.cell' 1 (.int .i64 0) rfl
          have r2 := HR.out.cell' 2 (.int .i64 0) rfl
          have f0 := HR.out.free 0
          have f1 := HR.out.free 1
          have f2 := HR.out.free 2
          clear s0 s1 s2 s3 s4 s5 s6 s7 s8
          have EE := Lib.hid (And.intro e1 (And.intro e2 e3))
          clear e1 e2 e3
          go_wp2
          have T := (((HR.out.set 0 (.int .i64 x)).set 1 (.int .i64 y)).set 2 (.int .i64 z))
          have t0 := T.cell' 0 (.int .i64 x) rfl
          have t1 := T.cell' 1 (.int .i64 y) rfl
          have t2 := T.cell' 2 (.int .i64 z) rfl
          obtain ⟨rfl, rfl, rfl⟩ := EE.out
          exact bodyPost_ret (v := .agg #[.int .i64 (X0 + f.lx + f.sx), .int .i64 (Y0 + f.ly + f.sy), .int .i64 (Z0 + f.lz + f.sz + f.g)]) (by simp [results, Tryd.results18, go_sem, t0, t1, t2]) rfl ⟨rfl, ((HQ.out.setCell (by simpa using hr0) _).setCell (by simpa using hr0) _).setCell (by simpa using hr0) _⟩
  have := key (Fm.sysn f) (by have := hg.n1; have := hg.n2; unfold Fm.sysn; omega) (by have := hg.n1; unfold Fm.sysn; omega)
  exact this
end Go.Proofs.YtnjcbgnghfppoaaDoor

/- The walks of package frame: what rotates a position. -/
set_option linter.unusedVariables false
set_option linter.unusedSimpArgs false
namespace Go.Proofs.YtnjcbgnghfppoaaDoor
open Go.RowKit

theorem rowi3 (w : World) (x y z : Int) (t : TypeId) : RowI (w.alloc (.cells #[.int .i64 x, .int .i64 y, .int .i64 z] t)) (.slice (some ⟨w.heap.size, 0, none⟩) 3 3) [x, y, z] := by
  have X := Bx.new w #[.int .i64 x, .int .i64 y, .int .i64 z] t
  refine ⟨w.heap.size, rfl, by simp, fun i hi => ?_⟩
  match i, hi with
  | 0, _ => exact X.cell' 0 _ rfl
  | 1, _ => exact X.cell' 1 _ rfl
  | 2, _ => exact X.cell' 2 _ rfl
theorem rowi2 (w : World) (x y : Int) (t : TypeId) : RowI (w.alloc (.cells #[.int .i64 x, .int .i64 y] t)) (.slice (some ⟨w.heap.size, 0, none⟩) 2 2) [x, y] := by
  have X := Bx.new w #[.int .i64 x, .int .i64 y] t
  refine ⟨w.heap.size, rfl, by simp, fun i hi => ?_⟩
  match i, hi with
  | 0, _ => exact X.cell' 0 _ rfl
  | 1, _ => exact X.cell' 1 _ rfl
theorem all3 {x y z B : Int} (hx : -B ≤ x ∧ x ≤ B) (hy : -B ≤ y ∧ y ≤ B) (hz : -B ≤ z ∧ z ≤ B) : ∀ i, i < [x, y, z].length → -B ≤ [x, y, z].getD i 0 ∧ [x, y, z].getD i 0 ≤ B := fun i hi => by
  match i, hi with
  | 0, _ => exact hx
  | 1, _ => exact hy
  | 2, _ => exact hz
theorem all2 {x y B : Int} (hx : -B ≤ x ∧ x ≤ B) (hy : -B ≤ y ∧ y ≤ B) : ∀ i, i < [x, y].length → -B ≤ [x, y].getD i 0 ∧ [x, y].getD i 0 ≤ B := fun i hi => by
  match i, hi with
  | 0, _ => exact hx
  | 1, _ => exact hy
set_option maxRecDepth 100000 in
theorem fmNo (x y z a : Int) (w : World) : Calls Tryd.prog 67 #[.agg #[.int .i64 x, .int .i64 y, .int .i64 z], .int .i64 a] w fun e w' => e = .returned (.tuple #[.agg #[.int .i64 x, .int .i64 y, .int .i64 z], .bool true]) ∧ Qw w w' := by
  go_enter Tryd.func67, Tryd.ntmps67
  go_wp2
  exact bodyPost_ret (v := .tuple #[.agg #[.int .i64 x, .int .i64 y, .int .i64 z], .bool true]) (by simp [results, Tryd.results67, go_sem]) rfl ⟨rfl, Qw.al (Qw.al (Qw.refl w) _) _⟩
set_option maxRecDepth 100000 in
set_option maxHeartbeats 4000000 in
theorem fmYes (f : Fm.F) (hg : Fm.Gd f) (P C : Nat) (x y z a : Int) (hx : -1200000 ≤ x ∧ x ≤ 1200000) (hy : -1200000 ≤ y ∧ y ≤ 1200000) (hz : -1200000 ≤ z ∧ z ≤ 1200000) (ha : -9223372036854775808 ≤ a ∧ a ≤ 9223372036854775807) (w : World)
    (F : Bx w P (frc f) FT) (D : Bx w C #[.int .i64 (fu f.p f.ex f.ey f.ez), .int .i64 (fw f.p f.ex f.ey f.ez)] 64) (T : Tc w) (ht : f.t = true) :
    Calls Tryd.prog 68 #[.agg #[.int .i64 x, .int .i64 y, .int .i64 z], .int .i64 a, .pointer (some ⟨P, 0, none⟩), .pointer (some ⟨C, 0, none⟩)] w
      fun e w' => e = .returned (.tuple #[.agg #[.int .i64 (Fm.tx f x y z a), .int .i64 (Fm.ty f x y z a), .int .i64 (Fm.tz f x y z a)], .bool true]) ∧ Qw w w' := by
  have hp := hg.yes ht
  have d := hg.diff hx hy hz
  have r := hg.r hx hy hz a
  have b := Fm.f_bd (p := f.p) (B := 50000) (by decide) hg.ex hg.ey hg.ez
  have g := Fm.f_bd (p := f.p) (B := 1200000) (by decide) hx hy hz
  have e0 : Fm.tx f x y z a = sx f.p (Fm.ru f x y z a) (Fm.rw_ f x y z a) (fh f.p x y z) := by unfold Fm.tx; rw [ht]; rfl
  have e1 : Fm.ty f x y z a = sy f.p (Fm.ru f x y z a) (Fm.rw_ f x y z a) (fh f.p x y z) := by unfold Fm.ty; rw [ht]; rfl
  have e2 : Fm.tz f x y z a = sz f.p (Fm.ru f x y z a) (Fm.rw_ f x y z a) (fh f.p x y z) := by unfold Fm.tz; rw [ht]; rfl
  rw [e0, e1, e2]
  have pp : pin f.p = true := by
    have : f.p = 17 ∨ f.p = 18 ∨ f.p = 19 := by omega
    rcases this with k | k | k <;> rw [k] <;> rfl
  have cf := fun w => vc_flat f.p x y z (by omega) (by omega) w
  rw [pp] at cf
  have cr := fun w T => co_rotate (fu f.p x y z - fu f.p f.ex f.ey f.ez) (fw f.p x y z - fw f.p f.ex f.ey f.ez) a ha.1 ha.2 w T
  rw [(rotv_in _ _ a (by omega) (by omega) (by omega) (by omega)).1] at cr
  have k := Fm.rotv_bd2 _ _ a d.1.1 d.1.2 d.2.1 d.2.2
  have u1 : (rotv (fu f.p x y z - fu f.p f.ex f.ey f.ez) (fw f.p x y z - fw f.p f.ex f.ey f.ez) a).1 + fu f.p f.ex f.ey f.ez = Fm.ru f x y z a := rfl
  have u2 : (rotv (fu f.p x y z - fu f.p f.ex f.ey f.ez) (fw f.p x y z - fw f.p f.ex f.ey f.ez) a).2 + fw f.p f.ex f.ey f.ez = Fm.rw_ f x y z a := rfl
  generalize (rotv (fu f.p x y z - fu f.p f.ex f.ey f.ez) (fw f.p x y z - fw f.p f.ex f.ey f.ez) a).1 = v1 at *
  generalize (rotv (fu f.p x y z - fu f.p f.ex f.ey f.ez) (fw f.p x y z - fw f.p f.ex f.ey f.ez) a).2 = v2 at *
  have cs := fun w => vc_solid f.p (Fm.ru f x y z a) (Fm.rw_ f x y z a) (fh f.p x y z) (by omega) (by omega) w
  rw [pp] at cs
  generalize Fm.ru f x y z a = U at *
  generalize Fm.rw_ f x y z a = V at *
  generalize sx f.p U V (fh f.p x y z) = s0 at *
  generalize sy f.p U V (fh f.p x y z) = s1 at *
  generalize sz f.p U V (fh f.p x y z) = s2 at *
  generalize fu f.p x y z = g0 at *
  generalize fw f.p x y z = g1 at *
  generalize fh f.p x y z = g2 at *
  generalize fu f.p f.ex f.ey f.ez = h0 at *
  generalize fw f.p f.ex f.ey f.ez = h1 at *
  have S3 := Lib.hid (all3 (x := x) (y := y) (z := z) (B := 4194304) (by omega) (by omega) (by omega))
  have S2 := Lib.hid (all2 (x := U) (y := V) (B := 4194304) (by omega) (by omega))
  have CF := Lib.hid cf; have CR := Lib.hid cr; have CS := Lib.hid cs
  obtain ⟨⟨d1, d2⟩, d3, d4⟩ := d
  obtain ⟨⟨b1, b2⟩, ⟨b3, b4⟩, _⟩ := b
  obtain ⟨⟨g3, g4⟩, ⟨g5, g6⟩, _⟩ := g
  obtain ⟨k1, k2, k3, k4⟩ := k
  obtain ⟨⟨r1, r2⟩, r3, r4⟩ := r
  clear e0 e1 e2 cf cr cs hg hp pp ht hx hy hz ha
  have FX := Lib.hid (fun (w' : World) (q : Qw w w') => F.kept q)
  have DX := Lib.hid (fun (w' : World) (q : Qw w w') => D.kept q)
  have TX := Lib.hid (fun (w' : World) (q : Qw w w') => T.kept q)
  clear F D T
  go_enter Tryd.func68, Tryd.ntmps68
  go_upto_region 1 with fail
  refine code_of (fun w' => Bx w' w.heap.size #[.int .i64 x, .int .i64 y, .int .i64 z] 23 ∧ Bx w' (w.heap.size + 1) #[.int .i64 0, .int .i64 0, .int .i64 0] 23 ∧ Qw w w') ⟨(Bx.new _ _ _).alloc _, bxn _ _ _ _, Qw.al (Qw.al (Qw.refl w) _) _⟩ ?_
  rintro w1 ⟨X, R, q1⟩
  have x0 := X.cell' 0 (.int .i64 x) rfl
  have x1 := X.cell' 1 (.int .i64 y) rfl
  have x2 := X.cell' 2 (.int .i64 z) rfl
  have XX := Lib.hid (fun (w' : World) (q : Qw w1 w') => X.kept q)
  have RX := Lib.hid (fun (w' : World) (q : Qw w1 w') => R.kept q)
  have Q1 := Lib.hid q1
  clear X R q1
  go_upto_region 3 with (go_at_call 69; ((with_reducible refine (fmSmall _ [x, y, z] (by simp) S3.out _ (rowi3 w1 x y z _)).mono ?_); rintro e w2 ⟨rfl, q⟩; have Q2 := Lib.hid (Qw.trans (Qw.al (Qw.refl w1) _) q); have c27 := (FX.out _ (Qw.trans Q1.out Q2.out)).cell' 27 (.int .i64 f.p) rfl; have x0 := (XX.out _ Q2.out).cell' 0 (.int .i64 x) rfl; have x1 := (XX.out _ Q2.out).cell' 1 (.int .i64 y) rfl; have x2 := (XX.out _ Q2.out).cell' 2 (.int .i64 z) rfl; clear q))
  go_upto_region 4 with (go_at_call 65; ((with_reducible refine (CF.out _).mono ?_); rintro e w3 ⟨rfl, q⟩; have Q3 := Lib.hid (Qw.trans Q2.out q); clear q))
  refine code_of (fun w' => Bx w' w3.heap.size #[.int .i64 g0, .int .i64 g1] 64 ∧ Qw w1 w') ⟨Bx.new _ _ _, Qw.al Q3.out _⟩ ?_
  clear x0 x1 x2 c27
  rintro w4 ⟨A, q4⟩
  have a0 := A.cell' 0 (.int .i64 g0) rfl
  have a1 := A.cell' 1 (.int .i64 g1) rfl
  have h_0 := (DX.out _ (Qw.trans Q1.out q4)).cell' 0 (.int .i64 h0) rfl
  have h_1 := (DX.out _ (Qw.trans Q1.out q4)).cell' 1 (.int .i64 h1) rfl
  have Q4 := Lib.hid q4
  clear q4 A
  go_upto_region 5 with (go_at_call 70; ((with_reducible refine (CR.out _ (TX.out _ (Qw.trans Q1.out Q4.out))).mono ?_); rintro e w5 ⟨rfl, q⟩; have Q5 := Lib.hid (Qw.trans Q4.out q); have h_0 := (DX.out _ (Qw.trans Q1.out Q5.out)).cell' 0 (.int .i64 h0) rfl; have h_1 := (DX.out _ (Qw.trans Q1.out Q5.out)).cell' 1 (.int .i64 h1) rfl; clear q))
  go_upto_region 6 with fail
  refine code_of (fun w' => Bx w' w5.heap.size #[.int .i64 U, .int .i64 V] 64 ∧ Qw w1 w') ⟨Bx.new _ _ _, Qw.al Q5.out _⟩ ?_
  clear a0 a1 h_0 h_1
  rintro w6 ⟨E, q6⟩
  have u_0 := E.cell' 0 (.int .i64 U) rfl
  have u_1 := E.cell' 1 (.int .i64 V) rfl
  have Q6 := Lib.hid q6
  have EX := Lib.hid (fun (w' : World) (q : Qw w6 w') => E.kept q)
  clear q6 E
  go_wp2_with (first | (go_at_call 69; ((with_reducible refine (fmSmall _ [U, V] (by simp) S2.out _ (rowi2 w6 U V _)).mono ?_); rintro e w7 ⟨rfl, q⟩; have q7 := Qw.trans (Qw.al (Qw.refl w6) _) q; have Q7 := Lib.hid (Qw.trans Q6.out q7); have c27 := (FX.out _ (Qw.trans Q1.out Q7.out)).cell' 27 (.int .i64 f.p) rfl; have u_0 := (EX.out _ q7).cell' 0 (.int .i64 U) rfl; have u_1 := (EX.out _ q7).cell' 1 (.int .i64 V) rfl; clear q q7)) | (go_at_call 71; ((with_reducible refine (CS.out _).mono ?_); rintro e w8 ⟨rfl, q⟩; have Q8 := Lib.hid (Qw.trans Q7.out q); have f0 := (RX.out _ Q8.out).free 0; have f1 := (RX.out _ Q8.out).free 1; have f2 := (RX.out _ Q8.out).free 2; have r_0 := (RX.out _ Q8.out).cell' 0 (.int .i64 0) rfl; have r_1 := (RX.out _ Q8.out).cell' 1 (.int .i64 0) rfl; have r_2 := (RX.out _ Q8.out).cell' 2 (.int .i64 0) rfl; clear q)))
  have S := (((RX.out _ Q8.out).set 0 (.int .i64 s0)).set 1 (.int .i64 s1)).set 2 (.int .i64 s2)
  have t0 := S.cell' 0 (.int .i64 s0) rfl
  have t1 := S.cell' 1 (.int .i64 s1) rfl
  have t2 := S.cell' 2 (.int .i64 s2) rfl
  exact bodyPost_ret (v := .tuple #[.agg #[.int .i64 s0, .int .i64 s1, .int .i64 s2], .bool true]) (by simp [results, Tryd.results68, go_sem, t0, t1, t2]) rfl ⟨rfl, (((Qw.trans Q1.out Q8.out).setCell (by simp) _).setCell (by simp) _).setCell (by simp) _⟩
end Go.Proofs.YtnjcbgnghfppoaaDoor

/- The walk of frame.rotation: the function that it returns. -/
set_option linter.unusedVariables false
set_option linter.unusedSimpArgs false
namespace Go.Proofs.YtnjcbgnghfppoaaDoor
open Go.RowKit

set_option maxRecDepth 100000 in
theorem fmRotF (f : Fm.F) (ht : f.t = false) (w : World) : Calls Tryd.prog 49 #[.agg (frc f)] w fun e w' => e = .returned (.func (.func 67) #[] #[]) ∧ Qw w w' := by
  go_enter Tryd.func49, Tryd.ntmps49
  go_wp2_with (refine box_fr 0 rfl ?_; intro w1 P hp X q; have c26 := X.cell' 26 (.bool false) (at_t ht); have Q1 := Lib.hid q; clear X q)
  go_ret
  exact ⟨rfl, Q1.out⟩
set_option maxRecDepth 100000 in
theorem fmRotT (f : Fm.F) (hg : Fm.Gd f) (ht : f.t = true) (w : World) : Calls Tryd.prog 49 #[.agg (frc f)] w fun e w' => ∃ P C : Nat, e = .returned (.func (.func 68) #[] #[.pointer (some ⟨P, 0, none⟩), .pointer (some ⟨C, 0, none⟩)]) ∧
    Bx w' P (frc f) FT ∧ Bx w' C #[.int .i64 (fu f.p f.ex f.ey f.ez), .int .i64 (fw f.p f.ex f.ey f.ez)] 64 ∧ Qw w w' := by
  have hp := hg.p
  have cf := fun w => vc_flat f.p f.ex f.ey f.ez (by omega) (by omega) w
  generalize fu f.p f.ex f.ey f.ez = h0 at *
  generalize fw f.p f.ex f.ey f.ez = h1 at *
  generalize fh f.p f.ex f.ey f.ez = h2 at *
  generalize pin f.p = pp at *
  have CF := Lib.hid cf
  clear cf hp hg
  go_enter Tryd.func49, Tryd.ntmps49
  go_upto_region 4 with (first | (refine box_fr 0 rfl ?_; intro w1 P hp X q; have c26 := X.cell' 26 (.bool true) (at_t ht); have c27 := X.cell' 27 (.int .i64 f.p) rfl; have c28 := X.cell' 28 (.int .i64 f.ex) rfl; have c29 := X.cell' 29 (.int .i64 f.ey) rfl; have c30 := X.cell' 30 (.int .i64 f.ez) rfl; have Q1 := Lib.hid q; have X1 := Lib.hid X; clear X q) | (go_at_call 65; ((with_reducible refine (CF.out _).mono ?_); rintro e w2 ⟨rfl, q⟩; have X2 := Lib.hid (X1.out.kept q); have Q2 := Lib.hid (Qw.trans Q1.out q); clear q)))
  refine code_of (fun w' => Bx w' P (frc f) FT ∧ Bx w' w2.heap.size #[.int .i64 h0, .int .i64 h1] 64 ∧ Qw w w') ⟨X2.out.alloc _, Bx.new _ _ _, Qw.al Q2.out _⟩ ?_
  rintro w3 ⟨X, C, q⟩
  have K := Lib.hid (And.intro X (And.intro C q))
  clear X C q c26 c27 c28 c29 c30 X1 X2 Q1 Q2
  go_wp2
  go_ret
  exact ⟨P, _, rfl, K.out.1, K.out.2.1, K.out.2.2⟩
end Go.Proofs.YtnjcbgnghfppoaaDoor
