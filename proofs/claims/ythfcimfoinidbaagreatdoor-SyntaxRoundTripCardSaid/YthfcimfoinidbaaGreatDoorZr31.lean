import Derived.Test.YthfcimfoinidbaaGreatDoorZr30
set_option linter.unusedVariables false
set_option linter.unusedSimpArgs false
namespace Go.Proofs.YthfcimfoinidbaaGreatDoor
open Go.RowKit
theorem blockB (B : Nat) (v : Value) (zs : List Int) (k : Nat) {w : World} (hT : TapeAt w B v zs k) : Calls Tryz.prog 19 #[.pointer (some ⟨B, 0, none⟩)] w fun e w' => ∃ (b : Sy.Bl) (wa : Option Addr) (wc : Nat) (la : Option Addr) (lc : Nat) (xa : Option Addr) (xc : Nat),
    e = .returned (.agg #[.int .i64 b.kind, .int .i64 b.label, .bool b.skip, .slice wa b.words.length wc, .int .i64 b.left.op, .int .i64 b.left.n, .slice la b.left.ks.length lc, .int .i64 b.x.op, .int .i64 b.x.n, .slice xa b.x.ks.length xc, .int .i64 b.n]) ∧ Sy.Dwn b ∧ BlkB w' (fun k => w.heap.size ≤ k) b (bcs b wa wc la lc xa xc) ∧ Below B w w' := by
  have hB : B < w.heap.size := TpB.lt ⟨k, hT⟩
  refine (blockA w ⟨k, hT⟩).mono ?_
  rintro e w' ⟨b, cs, rfl, dw, hb, _, q⟩
  have hb0 := hb
  obtain ⟨wa, wc, la, lc, xa, xc, rfl, _, _, _⟩ := hb
  exact ⟨b, wa, wc, la, lc, xa, xc, rfl, dw, hb0, q.below (Nat.le_of_lt hB)⟩
end Go.Proofs.YthfcimfoinidbaaGreatDoor

