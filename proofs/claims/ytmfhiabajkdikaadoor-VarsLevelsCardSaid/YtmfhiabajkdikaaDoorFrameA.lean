
/- What the frames of the rows share that take a script. -/
import Derived.Test.YtmfhiabajkdikaaDoorFrameW
import Derived.Test.YtmfhiabajkdikaaDoorVlD
import Derived.Carry
import Derived.ChangeMaps5
import Derived.Deep.SlicePairs
set_option linter.unusedVariables false
set_option linter.unusedSimpArgs false
namespace Go.Proofs.YtmfhiabajkdikaaDoor
open Go.ChangeShapes Go.WideShapes Go.ChangeAt Go.RowKit

theorem laidOutW : laidOutB Tryd.prog = true := by kernel_rfl
theorem cInt : Tryd.prog.cellsOf 3 = 1 := by kernel_rfl
theorem cBool : Tryd.prog.cellsOf 4 = 1 := by kernel_rfl
theorem cVal : Tryd.prog.cellsOf 52 = 2 := by kernel_rfl
theorem cVals : Tryd.prog.cellsOf 32 = 1 := by kernel_rfl
theorem cAct : Tryd.prog.cellsOf 34 = 5 := by kernel_rfl

instance : Inhabited Vs.A := ⟨⟨0, 0, 0, false, []⟩⟩

theorem cell_lt {W : World} {b o : Nat} {v : Value} (c : W.cell? ⟨b, o, none⟩ = some v) : b < W.heap.size := by
  rcases Nat.lt_or_ge b W.heap.size with h | h
  · exact h
  · simp [World.cell?, Array.getElem?_eq_none h] at c

set_option maxRecDepth 100000 in
theorem in_vals {H : Type} {enc : TypeId × Value → H} {W : World} {n : Nat} {c : Value} {x : DataW H × List MemPlace} (h : DataW.trod enc Tryd.prog W 0 (fun _ => true) true n 32 [c] = some x) : ∃ l, ValsB W.heap.size W c l := by
  rcases Go.Deep.open_slice_pairs Tryd.underlying32 Tryd.underlying52 cVal rfl rfl cInt cInt h with ⟨hc, _⟩ | ⟨a, len, cap, m, k, V0, V1, D0, D1, P0, P1, hc, _, hl, hm, hmm, _, hall⟩
  · simp only [List.cons.injEq, and_true] at hc
    subst hc
    exact ⟨[], ValsB.nil _ _⟩
  · simp only [List.cons.injEq, and_true] at hc
    subst hc
    simp only [if_true] at hmm
    subst hmm
    have each : ∀ i, i < m → ∃ q : Int × Int, W.cell? (a.add (i * 2)) = some (.int .i64 q.1) ∧ W.cell? (a.add (i * 2 + 1)) = some (.int .i64 q.2) ∧ -9223372036854775808 ≤ q.2 ∧ q.2 ≤ 9223372036854775807 := fun i hi => by
      obtain ⟨h0, h1, h2, h3⟩ := hall i hi
      obtain ⟨x0, e0, _, _⟩ := DataW.trod_int Tryd.underlying3 h2
      obtain ⟨x1, e1, _, wf⟩ := DataW.trod_int Tryd.underlying3 h3
      simp only [List.cons.injEq, and_true] at e0 e1
      rw [e0] at h0
      rw [e1] at h1
      exact ⟨(x0, x1), h0, h1, i64_wfW wf⟩
    obtain ⟨q, hq⟩ := Go.Deep.choose_lt each
    refine ⟨(List.range len).map q, some a, m, by simp, by simpa using hl, by unfold maxLen at hm; omega, ?_⟩
    by_cases h0 : len = 0
    · left; subst h0; rfl
    · right
      obtain ⟨b, off, spot⟩ := a
      have hspot : spot = none := by simpa [Addr.add] using World.cell?_spot (hq 0 (by omega)).1
      subst hspot
      have hb : b < W.heap.size := by
        have c := (hq 0 (by omega)).1
        rw [add_plain] at c
        exact cell_lt c
      refine ⟨b, off, rfl, hb, fun i hi => ?_⟩
      have hi' : i < len := by simpa using hi
      have g : ((List.range len).map q).getD i (0, 0) = q i := by simp [List.getD_eq_getElem?_getD, hi']
      obtain ⟨c0, c1, b1, b2⟩ := hq i (by omega)
      rw [add_plain] at c0 c1
      unfold Vs.ltr Vs.num
      rw [g]
      exact ⟨c0, by rw [Nat.add_assoc]; exact c1, b1, b2⟩

set_option maxRecDepth 100000 in
theorem in_acts {H : Type} {enc : TypeId × Value → H} {W : World} {base : Nat} {v : Value} {d : DataW H} {p : List MemPlace} (hval : Value.okWide Tryd.prog W .any base 22 v)
    (h : DataW.Trod enc Tryd.prog W 0 (fun _ => true) true 22 v d p) : ∃ l, ActsB W.heap.size W v l := by
  obtain ⟨a0, len0, cap0, rfl⟩ := okWide_slice Tryd.underlying22 hval
  obtain ⟨fuel, hf⟩ := h
  rcases Go.Deep.open_slice Tryd.underlying22 hf with ⟨hc, _⟩ | ⟨a, len, cap, m, k, D, Pl, hc, _, hl, hm, hmm, _, hall⟩
  · simp [Value.cells] at hc
    obtain ⟨rfl, rfl, rfl⟩ := hc
    exact ⟨[], none, 0, rfl, Nat.le_refl _, by decide, .inl rfl⟩
  · simp [Value.cells] at hc
    obtain ⟨rfl, rfl, rfl⟩ := hc
    simp only [if_true] at hmm
    subst hmm
    have each : ∀ i, i < m → ∃ q : Vs.A, ∃ sv, (W.cell? (a.add (i * 5)) = some (.int .i64 q.what) ∧ W.cell? (a.add (i * 5 + 1)) = some (.int .i64 q.n) ∧ W.cell? (a.add (i * 5 + 2)) = some (.int .i64 q.v) ∧
        W.cell? (a.add (i * 5 + 3)) = some (.bool q.near) ∧ W.cell? (a.add (i * 5 + 4)) = some sv) ∧ ValsB W.heap.size W sv q.args ∧ -9223372036854775808 ≤ q.n ∧ q.n ≤ 9223372036854775807 ∧ -9223372036854775808 ≤ q.v ∧ q.v ≤ 9223372036854775807 := fun i hi => by
      obtain ⟨cs, h1, h2⟩ := hall i hi
      rw [cAct] at h1
      obtain ⟨_, hlen, hcell⟩ := World.cells?_some h1
      obtain ⟨xs, j, _, _, _, hxl, hfs⟩ := DataW.trod_struct Tryd.underlying34 h2
      match xs, hxl, cs, hlen with
      | [y0, y1, y2, y3, y4], _, [v0, v1, v2, v3, v4], _ =>
        have g0 := hfs 0 _ rfl
        have g1 := hfs 1 _ rfl
        have g2 := hfs 2 _ rfl
        have g3 := hfs 3 _ rfl
        have g4 := hfs 4 _ rfl
        simp [cInt, cBool, cVals] at g0 g1 g2 g3 g4
        have e0 := hcell 0 (by omega)
        have e1 := hcell 1 (by omega)
        have e2 := hcell 2 (by omega)
        have e3 := hcell 3 (by omega)
        have e4 := hcell 4 (by omega)
        rw [Go.Deep.add_add] at e0 e1 e2 e3 e4
        obtain ⟨x0, k0, _, _⟩ := DataW.trod_int Tryd.underlying3 g0
        obtain ⟨x1, k1, _, f1⟩ := DataW.trod_int Tryd.underlying3 g1
        obtain ⟨x2, k2, _, f2⟩ := DataW.trod_int Tryd.underlying3 g2
        obtain ⟨x3, k3, _⟩ := DataW.trod_bool Tryd.underlying4 g3
        obtain ⟨l, hv⟩ := in_vals g4
        simp only [List.cons.injEq, and_true] at k0 k1 k2 k3
        subst k0 k1 k2 k3
        have b1 := i64_wfW f1
        have b2 := i64_wfW f2
        exact ⟨⟨x0, x1, x2, x3, l⟩, v4, ⟨by simpa using e0, by simpa using e1, by simpa using e2, by simpa using e3, by simpa using e4⟩, hv, b1.1, b1.2, b2.1, b2.2⟩
    obtain ⟨q, hq⟩ := Go.Deep.choose_lt each
    refine ⟨(List.range len0).map q, some a, m, by simp, by simpa using hl, by unfold maxLen at hm; omega, ?_⟩
    by_cases h0 : len0 = 0
    · left; subst h0; rfl
    · right
      obtain ⟨b, off, spot⟩ := a
      have hspot : spot = none := by
        obtain ⟨sv, ⟨c, _⟩, _⟩ := hq 0 (by omega)
        simpa [Addr.add] using World.cell?_spot c
      subst hspot
      have hb : b < W.heap.size := by
        obtain ⟨sv, ⟨c, _⟩, _⟩ := hq 0 (by omega)
        rw [add_plain] at c
        exact cell_lt c
      refine ⟨b, off, rfl, hb, fun i hi => ?_⟩
      have hi' : i < len0 := by simpa using hi
      have g : ((List.range len0).map q)[i] = q i := by simp
      obtain ⟨sv, ⟨c0, c1, c2, c3, c4⟩, hv, hb'⟩ := hq i (by omega)
      rw [add_plain] at c0 c1 c2 c3 c4
      rw [← Nat.add_assoc] at c1 c2 c3 c4
      rw [g]
      exact ⟨sv, ⟨c0, c1, c2, c3, c4⟩, hv, hb'⟩

/-- It reads behind the call as it did. -/
theorem out_acts {H : Type} {enc : TypeId × Value → H} {W W' : World} {v : Value} {d : DataW H} {p : List MemPlace} (h : DataW.Trod enc Tryd.prog W 0 (fun _ => true) true 22 v d p) (bel : Below W.heap.size W W')
    (hlt : ∀ x ∈ p, x.block < W.heap.size) : DataW.Trod enc Tryd.prog W' 0 (fun b => decide (b < W.heap.size)) true 22 v d p :=
  Below.trod laidOutW (by kernel_rfl) (of_decide_eq_true (by kernel_rfl)) h bel hlt

end Go.Proofs.YtmfhiabajkdikaaDoor
