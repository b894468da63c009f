import Derived.Test.YtnjcbgnghfppoaaDoorGI
import Derived.Test.YtnjcbgnghfppoaaDoorGF
import Derived.Test.YtnjcbgnghfppoaaDoorGJ
import Derived.ProofKit
import Derived.OpenShut
import Derived.Carry
import Derived.ChangeMaps5
import Derived.Deep.SlicePairs
import Derived.Deep.Cut
import Derived.Deep.Slices
import Derived.Lib.SmallJoins
import Derived.Test.YtnjcbgnghfppoaaDoorGS0

/- What the frames of rows with lists of numbers, blocks and modal states share. -/
set_option linter.unusedVariables false
set_option linter.unusedSimpArgs false
namespace Go.Proofs.YtnjcbgnghfppoaaDoor
open Go.ChangeShapes Go.WideShapes Go.ChangeAt Go.RowKit

theorem wfM {a : Int} (h : (Lit.int .i64 a).wf = true) : -9223372036854775808 ≤ a ∧ a ≤ 9223372036854775807 := by
  simp [Lit.wf, IntKind.min, IntKind.max, IntKind.signed, IntKind.bits] at h
  omega
theorem laidOutM : laidOutB Tryd.prog = true := by kernel_rfl
theorem cIntM : Tryd.prog.cellsOf 3 = 1 := by kernel_rfl
theorem cBoolM : Tryd.prog.cellsOf 4 = 1 := by kernel_rfl
theorem cValM : Tryd.prog.cellsOf 58 = 2 := by kernel_rfl
theorem cModM : Tryd.prog.cellsOf 44 = 22 := by kernel_rfl
theorem cell_ltM {W : World} {b o : Nat} {v : Value} (c : W.cell? ⟨b, o, none⟩ = some v) : b < W.heap.size := by
  rcases Nat.lt_or_ge b W.heap.size with h | h
  · exact h
  · simp [World.cell?, Array.getElem?_eq_none h] at c
set_option maxRecDepth 100000 in
theorem inM_ints {H : Type} {enc : TypeId × Value → H} {W : World} {base : Nat} {v : Value} {d : DataW H} {p : List MemPlace} (hval : Value.okWide Tryd.prog W .any base 27 v)
    (h : DataW.Trod enc Tryd.prog W 0 (fun _ => true) true 27 v d p) : ∃ zs, IntsB W.heap.size W v zs := by
  obtain ⟨a0, len, cap, rfl⟩ := okWide_slice Tryd.underlying27 hval
  obtain ⟨fuel, hf⟩ := h
  rcases open_ints Tryd.underlying27 Tryd.underlying3 cIntM hf with ⟨hcs, hx⟩ | ⟨a, len', cap', zs, hcs, _, hl, hm, hz, hx, hcell, hwz⟩
  · simp [Value.cells] at hcs
    obtain ⟨rfl, rfl, rfl⟩ := hcs
    refine ⟨[], none, 0, by simp, by simp, by simp, .inl rfl⟩
  · simp [Value.cells] at hcs
    obtain ⟨rfl, rfl, rfl⟩ := hcs
    simp only [if_true] at hz
    have lt : (zs.take len).length = len := by rw [List.length_take]; omega
    refine ⟨zs.take len, some a, cap, by rw [lt], by omega, by unfold maxLen at hm; omega, ?_⟩
    by_cases h0 : len = 0
    · left; subst h0; rfl
    · right
      obtain ⟨b, off, spot⟩ := a
      have hspot : spot = none := by simpa [Addr.add] using World.cell?_spot (hcell 0 (by omega))
      subst hspot
      have hb : b < W.heap.size := by
        have c := hcell 0 (by omega)
        rw [add_plain] at c
        exact cell_ltM c
      refine ⟨b, off, rfl, hb, fun i hi => ?_⟩
      rw [lt] at hi
      have g : (zs.take len).getD i 0 = zs.getD i 0 := by rw [List.getD_eq_getElem?_getD, List.getD_eq_getElem?_getD, List.getElem?_take_of_lt hi]
      have w := wfM (hwz (zs.getD i 0) (by rw [List.getD_eq_getElem?_getD, List.getElem?_eq_getElem (by omega)]; exact List.getElem_mem _))
      rw [g]
      exact ⟨by rw [← add_plain]; exact hcell i (by omega), w⟩
set_option maxRecDepth 100000 in
theorem inM_vals {H : Type} {enc : TypeId × Value → H} {W : World} {base : Nat} {v : Value} {d : DataW H} {p : List MemPlace} (hval : Value.okWide Tryd.prog W .any base 42 v)
    (h : DataW.Trod enc Tryd.prog W 0 (fun _ => true) true 42 v d p) : ∃ l, ValsB W.heap.size W v l := by
  obtain ⟨a0, len0, cap0, rfl⟩ := okWide_slice Tryd.underlying42 hval
  obtain ⟨fuel, hf⟩ := h
  rcases Go.Deep.open_slice_pairs Tryd.underlying42 Tryd.underlying58 cValM rfl rfl cIntM cIntM hf with ⟨hc, _⟩ | ⟨a, len, cap, m, k, V0, V1, D0, D1, P0, P1, hc, _, hl, hm, hmm, _, hall⟩
  · simp [Value.cells] at hc
    obtain ⟨rfl, rfl, rfl⟩ := hc
    exact ⟨[], ValsB.nil _ _⟩
  · simp [Value.cells] at hc
    obtain ⟨rfl, rfl, rfl⟩ := hc
    simp only [if_true] at hmm
    subst hmm
    have each : ∀ i, i < m → ∃ q : Int × Int, W.cell? (a.add (i * 2)) = some (.int .i64 q.1) ∧ W.cell? (a.add (i * 2 + 1)) = some (.int .i64 q.2) ∧ -9223372036854775808 ≤ q.2 ∧ q.2 ≤ 9223372036854775807 := fun i hi => by
      obtain ⟨h0, h1, h2, h3⟩ := hall i hi
      obtain ⟨x0, e0, _, _⟩ := DataW.trod_int Tryd.underlying3 h2
      obtain ⟨x1, e1, _, wf⟩ := DataW.trod_int Tryd.underlying3 h3
      simp only [List.cons.injEq, and_true] at e0 e1
      rw [e0] at h0
      rw [e1] at h1
      exact ⟨(x0, x1), h0, h1, wfM wf⟩
    obtain ⟨q, hq⟩ := Go.Deep.choose_lt each
    refine ⟨(List.range len0).map q, some a, m, by simp, by simpa using hl, by unfold maxLen at hm; omega, ?_⟩
    by_cases h0 : len0 = 0
    · left; subst h0; rfl
    · right
      obtain ⟨b, off, spot⟩ := a
      have hspot : spot = none := by simpa [Addr.add] using World.cell?_spot (hq 0 (by omega)).1
      subst hspot
      have hb : b < W.heap.size := by
        have c := (hq 0 (by omega)).1
        rw [add_plain] at c
        exact cell_ltM c
      refine ⟨b, off, rfl, hb, fun i hi => ?_⟩
      have hi' : i < len0 := by simpa using hi
      have g : ((List.range len0).map q).getD i (0, 0) = q i := by simp [List.getD_eq_getElem?_getD, hi']
      obtain ⟨c0, c1, b1, b2⟩ := hq i (by omega)
      rw [add_plain] at c0 c1
      unfold Vs.ltr Vs.num
      rw [g]
      exact ⟨c0, by rw [Nat.add_assoc]; exact c1, b1, b2⟩
set_option maxRecDepth 100000 in
set_option maxHeartbeats 4000000 in
theorem inM_md {H : Type} {enc : TypeId × Value → H} {W : World} {base : Nat} {v : Value} {d : DataW H} {p : List MemPlace} (hval : Value.okWide Tryd.prog W .any base 44 v)
    (h : DataW.Trod enc Tryd.prog W 0 (fun _ => true) true 44 v d p) : ∃ s, v = .agg (mdc s) := by
  obtain ⟨cs, rfl, hsz⟩ := okWide_struct Tryd.underlying44 hval
  rw [cModM] at hsz
  obtain ⟨fuel, hf⟩ := h
  obtain ⟨xs, j, _, _, _, hxl, hfs⟩ := DataW.trod_struct Tryd.underlying44 hf
  obtain ⟨l⟩ := cs
  match l, hsz with
  | [c0, c1, c2, c3, c4, c5, c6, c7, c8, c9, c10, c11, c12, c13, c14, c15, c16, c17, c18, c19, c20, c21], _ =>
    match xs, hxl with
    | [y0, y1, y2, y3, y4, y5, y6, y7, y8, y9, y10, y11, y12, y13, y14, y15, y16, y17, y18, y19, y20, y21], _ =>
      have g0 := hfs 0 _ rfl
      have g1 := hfs 1 _ rfl
      have g2 := hfs 2 _ rfl
      have g3 := hfs 3 _ rfl
      have g4 := hfs 4 _ rfl
      have g5 := hfs 5 _ rfl
      have g6 := hfs 6 _ rfl
      have g7 := hfs 7 _ rfl
      have g8 := hfs 8 _ rfl
      have g9 := hfs 9 _ rfl
      have g10 := hfs 10 _ rfl
      have g11 := hfs 11 _ rfl
      have g12 := hfs 12 _ rfl
      have g13 := hfs 13 _ rfl
      have g14 := hfs 14 _ rfl
      have g15 := hfs 15 _ rfl
      have g16 := hfs 16 _ rfl
      have g17 := hfs 17 _ rfl
      have g18 := hfs 18 _ rfl
      have g19 := hfs 19 _ rfl
      have g20 := hfs 20 _ rfl
      have g21 := hfs 21 _ rfl
      simp [cIntM, cBoolM, Value.cells] at g0 g1 g2 g3 g4 g5 g6 g7 g8 g9 g10 g11 g12 g13 g14 g15 g16 g17 g18 g19 g20 g21
      obtain ⟨x0, k0, _, _⟩ := DataW.trod_int Tryd.underlying3 g0
      obtain ⟨x1, k1, _, _⟩ := DataW.trod_int Tryd.underlying3 g1
      obtain ⟨x2, k2, _, _⟩ := DataW.trod_int Tryd.underlying3 g2
      obtain ⟨x3, k3, _, _⟩ := DataW.trod_int Tryd.underlying3 g3
      obtain ⟨x4, k4, _, _⟩ := DataW.trod_int Tryd.underlying3 g4
      obtain ⟨x5, k5, _, _⟩ := DataW.trod_int Tryd.underlying3 g5
      obtain ⟨x6, k6, _, _⟩ := DataW.trod_int Tryd.underlying3 g6
      obtain ⟨x7, k7, _, _⟩ := DataW.trod_int Tryd.underlying3 g7
      obtain ⟨x8, k8, _, _⟩ := DataW.trod_int Tryd.underlying3 g8
      obtain ⟨x9, k9, _, _⟩ := DataW.trod_int Tryd.underlying3 g9
      obtain ⟨x10, k10, _, _⟩ := DataW.trod_int Tryd.underlying3 g10
      obtain ⟨x11, k11, _, _⟩ := DataW.trod_int Tryd.underlying3 g11
      obtain ⟨x12, k12, _, _⟩ := DataW.trod_int Tryd.underlying3 g12
      obtain ⟨x13, k13, _⟩ := DataW.trod_bool Tryd.underlying4 g13
      obtain ⟨x14, k14, _⟩ := DataW.trod_bool Tryd.underlying4 g14
      obtain ⟨x15, k15, _, _⟩ := DataW.trod_int Tryd.underlying3 g15
      obtain ⟨x16, k16, _, _⟩ := DataW.trod_int Tryd.underlying3 g16
      obtain ⟨x17, k17, _, _⟩ := DataW.trod_int Tryd.underlying3 g17
      obtain ⟨x18, k18, _, _⟩ := DataW.trod_int Tryd.underlying3 g18
      obtain ⟨x19, k19, _, _⟩ := DataW.trod_int Tryd.underlying3 g19
      obtain ⟨x20, k20, _, _⟩ := DataW.trod_int Tryd.underlying3 g20
      obtain ⟨x21, k21, _, _⟩ := DataW.trod_int Tryd.underlying3 g21
      simp only [List.cons.injEq, and_true] at k0 k1 k2 k3 k4 k5 k6 k7 k8 k9 k10 k11 k12 k13 k14 k15 k16 k17 k18 k19 k20 k21
      subst k0 k1 k2 k3 k4 k5 k6 k7 k8 k9 k10 k11 k12 k13 k14 k15 k16 k17 k18 k19 k20 k21
      exact ⟨⟨x0, x1, x2, x3, x4, x5, x6, x7, x8, x9, x10, x11, x12, x13, x14, x15, x16, x17, x18, x19, x20, x21⟩, rfl⟩
theorem outM_ints {H : Type} {enc : TypeId × Value → H} {W W' : World} {v : Value} {d : DataW H} {p : List MemPlace} (h : DataW.Trod enc Tryd.prog W 0 (fun _ => true) true 27 v d p) (bel : Below W.heap.size W W')
    (hlt : ∀ x ∈ p, x.block < W.heap.size) : DataW.Trod enc Tryd.prog W' 0 (fun b => decide (b < W.heap.size)) true 27 v d p :=
  Below.trod laidOutM (by kernel_rfl) (of_decide_eq_true (by kernel_rfl)) h bel hlt
theorem outM_vals {H : Type} {enc : TypeId × Value → H} {W W' : World} {v : Value} {d : DataW H} {p : List MemPlace} (h : DataW.Trod enc Tryd.prog W 0 (fun _ => true) true 42 v d p) (bel : Below W.heap.size W W')
    (hlt : ∀ x ∈ p, x.block < W.heap.size) : DataW.Trod enc Tryd.prog W' 0 (fun b => decide (b < W.heap.size)) true 42 v d p :=
  Below.trod laidOutM (by kernel_rfl) (of_decide_eq_true (by kernel_rfl)) h bel hlt
theorem outM_md {H : Type} {enc : TypeId × Value → H} {W W' : World} {v : Value} {d : DataW H} {p : List MemPlace} (h : DataW.Trod enc Tryd.prog W 0 (fun _ => true) true 44 v d p) (bel : Below W.heap.size W W')
    (hlt : ∀ x ∈ p, x.block < W.heap.size) : DataW.Trod enc Tryd.prog W' 0 (fun b => decide (b < W.heap.size)) true 44 v d p :=
  Below.trod laidOutM (by kernel_rfl) (of_decide_eq_true (by kernel_rfl)) h bel hlt
end Go.Proofs.YtnjcbgnghfppoaaDoor

/- What the frames of rows with vectors and points share. -/
set_option linter.unusedVariables false
set_option linter.unusedSimpArgs false
namespace Go.Proofs.YtnjcbgnghfppoaaDoor
open Go Go.ChangeShapes Go.WideShapes Go.ChangeAt Go.RowKit Go.Joins

section
variable {H : Type} {enc : TypeId × Value → H} {w : World} {base : Nat} {spare : Nat → Bool} {held : Bool}
abbrev litI (n : Int) : DataW H := .lit (.int .i64 n)
set_option maxRecDepth 100000 in
theorem open_vec {r : Reach} {b0 : Nat} {v : Value} {d : DataW H} {p : List MemPlace} (hv : Value.okWide Tryd.prog w r b0 23 v) (h : DataW.Trod enc Tryd.prog w base spare held 23 v d p) :
    ∃ x y z : Int, v = .agg #[.int .i64 x, .int .i64 y, .int .i64 z] ∧ d = .agg [litI x, litI y, litI z] ∧ p = [] ∧ (Lit.int .i64 x).wf = true ∧ (Lit.int .i64 y).wf = true ∧ (Lit.int .i64 z).wf = true := by
  obtain ⟨c0, c1, c2, y0, y1, y2, m, rfl, rfl, rfl, h0, h1, h2⟩ := open_agg3 Tryd.underlying23 (by kernel_rfl) (by kernel_rfl) hv h
  obtain ⟨x, e0, rfl, wx⟩ := DataW.trod_int Tryd.underlying3 h0
  obtain ⟨y, e1, rfl, wy⟩ := DataW.trod_int Tryd.underlying3 h1
  obtain ⟨z, e2, rfl, wz⟩ := DataW.trod_int Tryd.underlying3 h2
  simp at e0 e1 e2
  subst e0 e1 e2
  exact ⟨x, y, z, rfl, rfl, rfl, wx, wy, wz⟩
theorem shut_vec {x y z : Int} (wx : (Lit.int .i64 x).wf = true) (wy : (Lit.int .i64 y).wf = true) (wz : (Lit.int .i64 z).wf = true) :
    DataW.Trod enc Tryd.prog w base spare held 23 (.agg #[.int .i64 x, .int .i64 y, .int .i64 z]) (.agg [litI x, litI y, litI z]) [] :=
  shut_agg3 (y0 := (litI x, [])) (y1 := (litI y, [])) (y2 := (litI z, [])) Tryd.underlying23 (by kernel_rfl) (by kernel_rfl)
    ⟨1, by simp [DataW.trod, Tryd.underlying3, wx]⟩ ⟨1, by simp [DataW.trod, Tryd.underlying3, wy]⟩ ⟨1, by simp [DataW.trod, Tryd.underlying3, wz]⟩
set_option maxRecDepth 100000 in
theorem open_pt {r : Reach} {b0 : Nat} {v : Value} {d : DataW H} {p : List MemPlace} (hv : Value.okWide Tryd.prog w r b0 64 v) (h : DataW.Trod enc Tryd.prog w base spare held 64 v d p) :
    ∃ x y : Int, v = .agg #[.int .i64 x, .int .i64 y] ∧ d = .agg [litI x, litI y] ∧ p = [] ∧ (Lit.int .i64 x).wf = true ∧ (Lit.int .i64 y).wf = true := by
  obtain ⟨c0, c1, y0, y1, m, rfl, rfl, rfl, h0, h1⟩ := open_agg2 Tryd.underlying64 (by kernel_rfl) (by kernel_rfl) hv h
  obtain ⟨x, e0, rfl, wx⟩ := DataW.trod_int Tryd.underlying3 h0
  obtain ⟨y, e1, rfl, wy⟩ := DataW.trod_int Tryd.underlying3 h1
  simp at e0 e1
  subst e0 e1
  exact ⟨x, y, rfl, rfl, rfl, wx, wy⟩
theorem shut_pt {x y : Int} (wx : (Lit.int .i64 x).wf = true) (wy : (Lit.int .i64 y).wf = true) :
    DataW.Trod enc Tryd.prog w base spare held 64 (.agg #[.int .i64 x, .int .i64 y]) (.agg [litI x, litI y]) [] :=
  shut_agg2 (y0 := (litI x, [])) (y1 := (litI y, [])) Tryd.underlying64 (by kernel_rfl) (by kernel_rfl)
    ⟨1, by simp [DataW.trod, Tryd.underlying3, wx]⟩ ⟨1, by simp [DataW.trod, Tryd.underlying3, wy]⟩
end
end Go.Proofs.YtnjcbgnghfppoaaDoor
