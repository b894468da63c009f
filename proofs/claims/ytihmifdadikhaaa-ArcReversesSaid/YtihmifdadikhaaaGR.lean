import Derived.Test.YtihmifdadikhaaaGA
import Derived.ProofKit
import Derived.OpenShut
import Derived.Lib.SmallJoins
import Derived.Test.YtihmifdadikhaaaGD
import Derived.Carry
import Derived.ChangeMaps5
import Derived.Deep.SlicePairs
import Derived.Deep.Cut
import Derived.Deep.Slices

/- What the frames of the laws' rows share. -/
set_option linter.unusedVariables false
set_option linter.unusedSimpArgs false
namespace Go.Proofs.Ytihmifdadikhaaa

theorem i64_of_wf {a : Int} (h : (Lit.int .i64 a).wf = true) : -9223372036854775808 ≤ a ∧ a ≤ 9223372036854775807 := by
  simp [Lit.wf, IntKind.min, IntKind.max, IntKind.signed, IntKind.bits] at h
  omega

end Go.Proofs.Ytihmifdadikhaaa

/- What the frames of rows with vectors and points share. -/
set_option linter.unusedVariables false
set_option linter.unusedSimpArgs false
namespace Go.Proofs.Ytihmifdadikhaaa
open Go Go.ChangeShapes Go.WideShapes Go.ChangeAt Go.RowKit Go.Joins

section
variable {H : Type} {enc : TypeId × Value → H} {w : World} {base : Nat} {spare : Nat → Bool} {held : Bool}
abbrev litI (n : Int) : DataW H := .lit (.int .i64 n)
set_option maxRecDepth 100000 in
theorem open_vec {r : Reach} {b0 : Nat} {v : Value} {d : DataW H} {p : List MemPlace} (hv : Value.okWide Try.prog w r b0 23 v) (h : DataW.Trod enc Try.prog w base spare held 23 v d p) :
    ∃ x y z : Int, v = .agg #[.int .i64 x, .int .i64 y, .int .i64 z] ∧ d = .agg [litI x, litI y, litI z] ∧ p = [] ∧ (Lit.int .i64 x).wf = true ∧ (Lit.int .i64 y).wf = true ∧ (Lit.int .i64 z).wf = true := by
  obtain ⟨c0, c1, c2, y0, y1, y2, m, rfl, rfl, rfl, h0, h1, h2⟩ := open_agg3 Try.underlying23 (by kernel_rfl) (by kernel_rfl) hv h
  obtain ⟨x, e0, rfl, wx⟩ := DataW.trod_int Try.underlying3 h0
  obtain ⟨y, e1, rfl, wy⟩ := DataW.trod_int Try.underlying3 h1
  obtain ⟨z, e2, rfl, wz⟩ := DataW.trod_int Try.underlying3 h2
  simp at e0 e1 e2
  subst e0 e1 e2
  exact ⟨x, y, z, rfl, rfl, rfl, wx, wy, wz⟩
theorem shut_vec {x y z : Int} (wx : (Lit.int .i64 x).wf = true) (wy : (Lit.int .i64 y).wf = true) (wz : (Lit.int .i64 z).wf = true) :
    DataW.Trod enc Try.prog w base spare held 23 (.agg #[.int .i64 x, .int .i64 y, .int .i64 z]) (.agg [litI x, litI y, litI z]) [] :=
  shut_agg3 (y0 := (litI x, [])) (y1 := (litI y, [])) (y2 := (litI z, [])) Try.underlying23 (by kernel_rfl) (by kernel_rfl)
    ⟨1, by simp [DataW.trod, Try.underlying3, wx]⟩ ⟨1, by simp [DataW.trod, Try.underlying3, wy]⟩ ⟨1, by simp [DataW.trod, Try.underlying3, wz]⟩
set_option maxRecDepth 100000 in
theorem open_pt {r : Reach} {b0 : Nat} {v : Value} {d : DataW H} {p : List MemPlace} (hv : Value.okWide Try.prog w r b0 32 v) (h : DataW.Trod enc Try.prog w base spare held 32 v d p) :
    ∃ x y : Int, v = .agg #[.int .i64 x, .int .i64 y] ∧ d = .agg [litI x, litI y] ∧ p = [] ∧ (Lit.int .i64 x).wf = true ∧ (Lit.int .i64 y).wf = true := by
  obtain ⟨c0, c1, y0, y1, m, rfl, rfl, rfl, h0, h1⟩ := open_agg2 Try.underlying32 (by kernel_rfl) (by kernel_rfl) hv h
  obtain ⟨x, e0, rfl, wx⟩ := DataW.trod_int Try.underlying3 h0
  obtain ⟨y, e1, rfl, wy⟩ := DataW.trod_int Try.underlying3 h1
  simp at e0 e1
  subst e0 e1
  exact ⟨x, y, rfl, rfl, rfl, wx, wy⟩
theorem shut_pt {x y : Int} (wx : (Lit.int .i64 x).wf = true) (wy : (Lit.int .i64 y).wf = true) :
    DataW.Trod enc Try.prog w base spare held 32 (.agg #[.int .i64 x, .int .i64 y]) (.agg [litI x, litI y]) [] :=
  shut_agg2 (y0 := (litI x, [])) (y1 := (litI y, [])) Try.underlying32 (by kernel_rfl) (by kernel_rfl)
    ⟨1, by simp [DataW.trod, Try.underlying3, wx]⟩ ⟨1, by simp [DataW.trod, Try.underlying3, wy]⟩
end
end Go.Proofs.Ytihmifdadikhaaa

/- What the frames of the rows of layer 13 share. -/
set_option linter.unusedVariables false
set_option linter.unusedSimpArgs false
namespace Go.Proofs.Ytihmifdadikhaaa
open Go Go.ChangeShapes Go.WideShapes Go.ChangeAt Go.RowKit Go.Joins

theorem wfM {a : Int} (h : (Lit.int .i64 a).wf = true) : -9223372036854775808 ≤ a ∧ a ≤ 9223372036854775807 := by
  simp [Lit.wf, IntKind.min, IntKind.max, IntKind.signed, IntKind.bits] at h
  omega
theorem laidOutM : laidOutB Try.prog = true := by kernel_rfl
theorem cIntM : Try.prog.cellsOf 3 = 1 := by kernel_rfl
theorem cBoolM : Try.prog.cellsOf 4 = 1 := by kernel_rfl
theorem cell_ltM {W : World} {b o : Nat} {v : Value} (c : W.cell? ⟨b, o, none⟩ = some v) : b < W.heap.size := by
  rcases Nat.lt_or_ge b W.heap.size with h | h
  · exact h
  · simp [World.cell?, Array.getElem?_eq_none h] at c
set_option maxRecDepth 100000 in
theorem inM_ints {H : Type} {enc : TypeId × Value → H} {W : World} {base : Nat} {v : Value} {d : DataW H} {p : List MemPlace} (hval : Value.okWide Try.prog W .any base 40 v)
    (h : DataW.Trod enc Try.prog W 0 (fun _ => true) true 40 v d p) : ∃ zs, IntsB W.heap.size W v zs := by
  obtain ⟨a0, len, cap, rfl⟩ := okWide_slice Try.underlying40 hval
  obtain ⟨fuel, hf⟩ := h
  rcases open_ints Try.underlying40 Try.underlying3 cIntM hf with ⟨hcs, hx⟩ | ⟨a, len', cap', zs, hcs, _, hl, hm, hz, hx, hcell, hwz⟩
  · simp [Value.cells] at hcs
    obtain ⟨rfl, rfl, rfl⟩ := hcs
    refine ⟨[], none, 0, by simp, by simp, by simp, .inl rfl⟩
  · simp [Value.cells] at hcs
    obtain ⟨rfl, rfl, rfl⟩ := hcs
    simp only [if_true] at hz
    have lt : (zs.take len).length = len := by rw [List.length_take]; omega
    refine ⟨zs.take len, some a, cap, by rw [lt], by omega, by unfold maxLen at hm; omega, ?_⟩
    by_cases h0 : len = 0
    · left; subst h0; rfl
    · right
      obtain ⟨b, off, spot⟩ := a
      have hspot : spot = none := by simpa [Addr.add] using World.cell?_spot (hcell 0 (by omega))
      subst hspot
      have hb : b < W.heap.size := by
        have c := hcell 0 (by omega)
        rw [add_plain] at c
        exact cell_ltM c
      refine ⟨b, off, rfl, hb, fun i hi => ?_⟩
      rw [lt] at hi
      have g : (zs.take len).getD i 0 = zs.getD i 0 := by rw [List.getD_eq_getElem?_getD, List.getD_eq_getElem?_getD, List.getElem?_take_of_lt hi]
      have w := wfM (hwz (zs.getD i 0) (by rw [List.getD_eq_getElem?_getD, List.getElem?_eq_getElem (by omega)]; exact List.getElem_mem _))
      rw [g]
      exact ⟨by rw [← add_plain]; exact hcell i (by omega), w⟩
theorem outM_ints {H : Type} {enc : TypeId × Value → H} {W W' : World} {v : Value} {d : DataW H} {p : List MemPlace} (h : DataW.Trod enc Try.prog W 0 (fun _ => true) true 40 v d p) (bel : Below W.heap.size W W')
    (hlt : ∀ x ∈ p, x.block < W.heap.size) : DataW.Trod enc Try.prog W' 0 (fun b => decide (b < W.heap.size)) true 40 v d p :=
  Below.trod laidOutM (by kernel_rfl) (of_decide_eq_true (by kernel_rfl)) h bel hlt

theorem cVecA : Try.prog.cellsOf 23 = 3 := by kernel_rfl
theorem cItA : Try.prog.cellsOf 39 = 22 := by kernel_rfl
section
variable {H : Type} {enc : TypeId × Value → H} {w : World} {base : Nat} {spare : Nat → Bool} {held : Bool}
/-- Three cells that read as a vector. -/
theorem vec_cells {m : Nat} {c0 c1 c2 : Value} {x : DataW H × List MemPlace} (h : DataW.trod enc Try.prog w base spare held m 23 [c0, c1, c2] = some x) :
    ∃ a b c : Int, c0 = .int .i64 a ∧ c1 = .int .i64 b ∧ c2 = .int .i64 c ∧ (Lit.int .i64 a).wf = true ∧ (Lit.int .i64 b).wf = true ∧ (Lit.int .i64 c).wf = true := by
  obtain ⟨xs, j, _, _, _, hxl, hfs⟩ := DataW.trod_struct Try.underlying23 h
  match xs, hxl with
  | [y0, y1, y2], _ =>
    have g0 := hfs 0 _ rfl
    have g1 := hfs 1 _ rfl
    have g2 := hfs 2 _ rfl
    simp [cIntM, Value.cells] at g0 g1 g2
    obtain ⟨x0, k0, _, w0⟩ := DataW.trod_int Try.underlying3 g0
    obtain ⟨x1, k1, _, w1⟩ := DataW.trod_int Try.underlying3 g1
    obtain ⟨x2, k2, _, w2⟩ := DataW.trod_int Try.underlying3 g2
    simp only [List.cons.injEq, and_true] at k0 k1 k2
    exact ⟨x0, x1, x2, k0, k1, k2, w0, w1, w2⟩
end
set_option maxRecDepth 100000 in
set_option maxHeartbeats 8000000 in
theorem open_it {H : Type} {enc : TypeId × Value → H} {W : World} {base : Nat} {v : Value} {d : DataW H} {p : List MemPlace} (hval : Value.okWide Try.prog W .any base 39 v)
    (h : DataW.Trod enc Try.prog W 0 (fun _ => true) true 39 v d p) : ∃ i, v = .agg (itc i) ∧ Ac.Wf i := by
  obtain ⟨cs, rfl, hsz⟩ := okWide_struct Try.underlying39 hval
  rw [cItA] at hsz
  obtain ⟨fuel, hf⟩ := h
  obtain ⟨xs, j, _, _, _, hxl, hfs⟩ := DataW.trod_struct Try.underlying39 hf
  obtain ⟨l⟩ := cs
  match l, hsz with
  | [c0, c1, c2, c3, c4, c5, c6, c7, c8, c9, c10, c11, c12, c13, c14, c15, c16, c17, c18, c19, c20, c21], _ =>
    match xs, hxl with
    | [y0, y1, y2, y3, y4, y5, y6, y7, y8, y9, y10, y11, y12, y13, y14, y15], _ =>
      have g0 := hfs 0 _ rfl
      have g1 := hfs 1 _ rfl
      have g2 := hfs 2 _ rfl
      have g3 := hfs 3 _ rfl
      have g4 := hfs 4 _ rfl
      have g5 := hfs 5 _ rfl
      have g6 := hfs 6 _ rfl
      have g7 := hfs 7 _ rfl
      have g8 := hfs 8 _ rfl
      have g9 := hfs 9 _ rfl
      have g10 := hfs 10 _ rfl
      have g11 := hfs 11 _ rfl
      have g12 := hfs 12 _ rfl
      have g13 := hfs 13 _ rfl
      have g14 := hfs 14 _ rfl
      have g15 := hfs 15 _ rfl
      simp [cIntM, cBoolM, cVecA, Value.cells] at g0 g1 g2 g3 g4 g5 g6 g7 g8 g9 g10 g11 g12 g13 g14 g15
      obtain ⟨k1, q0, _, w0⟩ := DataW.trod_int Try.underlying3 g0
      simp only [List.cons.injEq, and_true] at q0
      obtain ⟨b1, q1, _, w1⟩ := DataW.trod_int Try.underlying3 g1
      simp only [List.cons.injEq, and_true] at q1
      obtain ⟨fx, fy, fz, q2x, q2y, q2z, w2x, w2y, w2z⟩ := vec_cells g2
      obtain ⟨tx, ty, tz, q3x, q3y, q3z, w3x, w3y, w3z⟩ := vec_cells g3
      obtain ⟨p1, q4, _, w4⟩ := DataW.trod_int Try.underlying3 g4
      simp only [List.cons.injEq, and_true] at q4
      obtain ⟨cx, cy, cz, q5x, q5y, q5z, w5x, w5y, w5z⟩ := vec_cells g5
      obtain ⟨d1, q6, _, w6⟩ := DataW.trod_int Try.underlying3 g6
      simp only [List.cons.injEq, and_true] at q6
      obtain ⟨u1, q7, _⟩ := DataW.trod_bool Try.underlying4 g7
      simp only [List.cons.injEq, and_true] at q7
      obtain ⟨e1, q8, _, w8⟩ := DataW.trod_int Try.underlying3 g8
      simp only [List.cons.injEq, and_true] at q8
      obtain ⟨r1, q9, _⟩ := DataW.trod_bool Try.underlying4 g9
      simp only [List.cons.injEq, and_true] at q9
      obtain ⟨s1, q10, _, w10⟩ := DataW.trod_int Try.underlying3 g10
      simp only [List.cons.injEq, and_true] at q10
      obtain ⟨gg1, q11, _, w11⟩ := DataW.trod_int Try.underlying3 g11
      simp only [List.cons.injEq, and_true] at q11
      obtain ⟨ll1, q12, _, w12⟩ := DataW.trod_int Try.underlying3 g12
      simp only [List.cons.injEq, and_true] at q12
      obtain ⟨n1, q13, _, w13⟩ := DataW.trod_int Try.underlying3 g13
      simp only [List.cons.injEq, and_true] at q13
      obtain ⟨vv1, q14, _, w14⟩ := DataW.trod_int Try.underlying3 g14
      simp only [List.cons.injEq, and_true] at q14
      obtain ⟨o1, q15, _⟩ := DataW.trod_bool Try.underlying4 g15
      simp only [List.cons.injEq, and_true] at q15
      subst q0 q1 q2x q2y q2z q3x q3y q3z q4 q5x q5y q5z q6 q7 q8 q9 q10 q11 q12 q13 q14 q15
      exact ⟨⟨k1, b1, fx, fy, fz, tx, ty, tz, p1, cx, cy, cz, d1, u1, e1, r1, s1, gg1, ll1, n1, vv1, o1⟩, rfl, ⟨wfM w0, wfM w2x, wfM w2y, wfM w2z, wfM w3x, wfM w3y, wfM w3z, wfM w4, wfM w5x, wfM w5y, wfM w5z, wfM w6⟩⟩
theorem out_it {H : Type} {enc : TypeId × Value → H} {W W' : World} {v : Value} {d : DataW H} {p : List MemPlace} (h : DataW.Trod enc Try.prog W 0 (fun _ => true) true 39 v d p) (bel : Below W.heap.size W W')
    (hlt : ∀ x ∈ p, x.block < W.heap.size) : DataW.Trod enc Try.prog W' 0 (fun b => decide (b < W.heap.size)) true 39 v d p :=
  Below.trod laidOutM (by kernel_rfl) (of_decide_eq_true (by kernel_rfl)) h bel hlt
end Go.Proofs.Ytihmifdadikhaaa
