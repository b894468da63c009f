
/- An expression as an argument (api.Expr), for the frames of layer 8. -/
import Derived.Test.YtkfipjlknfinpaaGreatDoorFrameE
import Derived.Deep.Cut
import Derived.Deep.Slices
import Derived.Lib.SmallJoins
set_option linter.unusedVariables false
set_option linter.unusedSimpArgs false
namespace Go.Proofs.YtkfipjlknfinpaaGreatDoor
open Go.ChangeShapes Go.WideShapes Go.ChangeAt Go.RowKit

def ExprB (w : World) (v : Value) (x : Sy.Ex) : Prop := ∃ a cap, v = .agg #[.int .i64 x.op, .int .i64 x.n, .slice a x.ks.length cap] ∧ KidsB w (fun b => b < w.heap.size) a cap x.ks

theorem cExpr : Tryz.prog.cellsOf 24 = 3 := by kernel_rfl
theorem cKids : Tryz.prog.cellsOf 22 = 1 := by kernel_rfl
theorem cIntE : Tryz.prog.cellsOf 3 = 1 := by kernel_rfl
theorem laidOutE : laidOutB Tryz.prog = true := by kernel_rfl
instance : Inhabited Sy.Ex := ⟨.mk 0 0 []⟩

set_option maxRecDepth 100000 in
theorem in_kids {H : Type} {enc : TypeId × Value → H} {W : World} : ∀ (fuel : Nat) (c : Value) (x : DataW H × List MemPlace), DataW.trod enc Tryz.prog W 0 (fun _ => true) true fuel 22 [c] = some x →
    ∃ (a : Option Addr) (cap : Nat) (ks : List Sy.Ex), c = .slice a ks.length cap ∧ KidsB W (fun b => b < W.heap.size) a cap ks := by
  intro fuel
  induction fuel using Nat.strongRecOn with
  | _ fuel ih =>
    intro c x h
    rcases DataW.trod_slice Tryz.underlying22 h with ⟨hc, _⟩ | ⟨a, len, cap, elems, rest, n, rfl, hc, _, _, hl, hm, hlen, hel, _, _⟩
    · simp only [List.cons.injEq, and_true] at hc
      subst hc
      exact ⟨none, 0, [], rfl, .nl _ _ (by decide)⟩
    · simp only [List.cons.injEq, and_true] at hc
      subst hc
      have each : ∀ i, i < len → ∃ q : Sy.Ex × Option Addr × Nat, W.cell? (a.add (i * 3)) = some (.int .i64 q.1.op) ∧ W.cell? (a.add (i * 3 + 1)) = some (.int .i64 q.1.n) ∧ W.cell? (a.add (i * 3 + 2)) = some (.slice q.2.1 q.1.ks.length q.2.2) ∧
          KidsB W (fun b => b < W.heap.size) q.2.1 q.2.2 q.1.ks := fun i hi => by
        have h1 := hel i hi
        rw [List.getElem?_eq_getElem (by omega)] at h1
        obtain ⟨cs, h2, h3⟩ := Option.bind_eq_some_iff.1 h1
        rw [cExpr] at h2
        obtain ⟨_, hcl, hcell⟩ := World.cells?_some h2
        obtain ⟨xs, j, rfl, _, _, hxl, hfs⟩ := DataW.trod_struct Tryz.underlying24 h3
        match xs, hxl, cs, hcl with
        | [y0, y1, y2], _, [v0, v1, v2], _ =>
          have g0 := hfs 0 _ rfl
          have g1 := hfs 1 _ rfl
          have g2 := hfs 2 _ rfl
          simp [cIntE, cKids] at g0 g1 g2
          have e0 := hcell 0 (by omega)
          have e1 := hcell 1 (by omega)
          have e2 := hcell 2 (by omega)
          rw [Go.Deep.add_add] at e0 e1 e2
          obtain ⟨x0, k0, _, _⟩ := DataW.trod_int Tryz.underlying3 g0
          obtain ⟨x1, k1, _, _⟩ := DataW.trod_int Tryz.underlying3 g1
          obtain ⟨ad, cc, ks, k2, hk⟩ := ih j (by omega) v2 _ g2
          simp only [List.cons.injEq, and_true] at k0 k1
          subst k0 k1 k2
          exact ⟨(.mk x0 x1 ks, ad, cc), by show W.cell? _ = some (.int .i64 x0); simpa using e0, by show W.cell? _ = some (.int .i64 x1); simpa using e1, by show W.cell? _ = some (.slice ad ks.length cc); simpa using e2, hk⟩
      obtain ⟨q, hq⟩ := Go.Deep.choose_lt each
      refine ⟨some a, cap, (List.range len).map fun i => (q i).1, by simp, ?_⟩
      by_cases h0 : len = 0
      · subst h0
        exact .nl _ _ (by unfold maxLen at hm; omega)
      · obtain ⟨b, off, spot⟩ := a
        have hspot : spot = none := by simpa [Addr.add] using World.cell?_spot (hq 0 (by omega)).1
        subst hspot
        have hb : b < W.heap.size := by
          have c := (hq 0 (by omega)).1
          rw [add_plain] at c
          exact cell_lt c
        refine .mk b off cap _ (fun i => (q i).2.1) (fun i => (q i).2.2) hb (by simpa using hl) (by unfold maxLen at hm; omega) (fun i hi => ?_) (fun i hi => ?_)
        · have hi' : i < len := by simpa using hi
          have g : ((List.range len).map fun i => (q i).1)[i] = (q i).1 := by simp
          obtain ⟨c0, c1, c2, _⟩ := hq i hi'
          rw [add_plain] at c0 c1 c2
          rw [← Nat.add_assoc] at c1 c2
          rw [g]
          exact ⟨c0, c1, c2⟩
        · have hi' : i < len := by simpa using hi
          have g : ((List.range len).map fun i => (q i).1)[i] = (q i).1 := by simp
          rw [g]
          exact (hq i hi').2.2.2

set_option maxRecDepth 100000 in
theorem in_expr {H : Type} {enc : TypeId × Value → H} {W : World} {base : Nat} {v : Value} {d : DataW H} {p : List MemPlace} (hval : Value.okWide Tryz.prog W .any base 24 v)
    (h : DataW.Trod enc Tryz.prog W 0 (fun _ => true) true 24 v d p) : ∃ x, ExprB W v x := by
  obtain ⟨v0, v1, v2, y0, y1, y2, n, rfl, _, _, g0, g1, g2⟩ := Go.Joins.open_agg3 Tryz.underlying24 (by kernel_rfl) cExpr hval h
  obtain ⟨x0, k0, _, _⟩ := DataW.trod_int Tryz.underlying3 g0
  obtain ⟨x1, k1, _, _⟩ := DataW.trod_int Tryz.underlying3 g1
  obtain ⟨ad, cc, ks, k2, hk⟩ := in_kids _ v2 _ g2
  simp only [List.cons.injEq, and_true] at k0 k1
  subst k0 k1 k2
  exact ⟨.mk x0 x1 ks, ad, cc, rfl, hk⟩

/-- It reads behind the call as it did. -/
theorem out_expr {H : Type} {enc : TypeId × Value → H} {W W' : World} {v : Value} {d : DataW H} {p : List MemPlace} (h : DataW.Trod enc Tryz.prog W 0 (fun _ => true) true 24 v d p) (bel : Below W.heap.size W W')
    (hlt : ∀ x ∈ p, x.block < W.heap.size) : DataW.Trod enc Tryz.prog W' 0 (fun b => decide (b < W.heap.size)) true 24 v d p :=
  Below.trod laidOutE (by kernel_rfl) (of_decide_eq_true (by kernel_rfl)) h bel hlt

end Go.Proofs.YtkfipjlknfinpaaGreatDoor
