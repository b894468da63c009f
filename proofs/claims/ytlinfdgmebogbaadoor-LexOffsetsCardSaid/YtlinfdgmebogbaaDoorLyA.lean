
/- The sanity check of the laws of layer 5. -/
import Derived.Test.YtlinfdgmebogbaaDoorLxR
import Derived.Test.YtlinfdgmebogbaaDoorLxD
import Derived.Outline
set_option linter.unusedVariables false
set_option linter.unusedSimpArgs false
namespace Go.Proofs.YtlinfdgmebogbaaDoor
open Go.RowKit

theorem aw_lx : Lx.lx [71, 49, 32, 71, 79, 84, 79] 0 = .ok [⟨1, 71, 0, []⟩, ⟨2, 1000000, 1, []⟩, ⟨3, 0, 3, [71, 79, 84, 79]⟩] := by
  have e1 : Lx.act 71 [49, 32, 71, 79, 84, 79] = .tok ⟨1, 71, [], 1⟩ := by kernel_rfl
  have e2 : Lx.act 49 [32, 71, 79, 84, 79] = .tok ⟨2, 1000000, [], 1⟩ := by kernel_rfl
  have e3 : Lx.act 32 [71, 79, 84, 79] = .skip 0 := by kernel_rfl
  have e4 : Lx.act 71 [79, 84, 79] = .tok ⟨3, 0, [71, 79, 84, 79], 4⟩ := by kernel_rfl
  rw [Lx.lx_tok e1]
  show (Lx.lx [49, 32, 71, 79, 84, 79] 1).pre _ = _
  rw [Lx.lx_tok e2]
  show ((Lx.lx [32, 71, 79, 84, 79] 2).pre _).pre _ = _
  rw [Lx.lx_skip e3]
  show ((Lx.lx [71, 79, 84, 79] 3).pre _).pre _ = _
  rw [Lx.lx_tok e4]
  show (((Lx.lx [] 7).pre _).pre _).pre _ = _
  rw [Lx.lx_nil]
  rfl

theorem aw_res : Lx.tks [71, 49, 32, 71, 79, 84, 79] = [⟨1, 71, 0, []⟩, ⟨2, 1000000, 1, []⟩, ⟨3, 0, 3, [71, 79, 84, 79]⟩] ∧ Lx.tat [71, 49, 32, 71, 79, 84, 79] = 7 ∧ Lx.ter [71, 49, 32, 71, 79, 84, 79] = 0 := by
  unfold Lx.tks Lx.tat Lx.ter
  rw [aw_lx]; exact ⟨rfl, rfl, rfl⟩

theorem aw_cells {w : World} {b off : Nat} (h : ∀ i (h : i < ([⟨1, 71, 0, []⟩, ⟨2, 1000000, 1, []⟩, ⟨3, 0, 3, [71, 79, 84, 79]⟩] : List Lx.Tok).length), w.cell? ⟨b, off + i * 4, none⟩ = some (.int .i64 ([⟨1, 71, 0, []⟩, ⟨2, 1000000, 1, []⟩, ⟨3, 0, 3, [71, 79, 84, 79]⟩] : List Lx.Tok)[i].k) ∧ w.cell? ⟨b, off + i * 4 + 1, none⟩ = some (.int .i64 ([⟨1, 71, 0, []⟩, ⟨2, 1000000, 1, []⟩, ⟨3, 0, 3, [71, 79, 84, 79]⟩] : List Lx.Tok)[i].n) ∧ w.cell? ⟨b, off + i * 4 + 2, none⟩ = some (.int .i64 (([⟨1, 71, 0, []⟩, ⟨2, 1000000, 1, []⟩, ⟨3, 0, 3, [71, 79, 84, 79]⟩] : List Lx.Tok)[i].p : Int)) ∧ w.cell? ⟨b, off + i * 4 + 3, none⟩ = some (.string (bs ([⟨1, 71, 0, []⟩, ⟨2, 1000000, 1, []⟩, ⟨3, 0, 3, [71, 79, 84, 79]⟩] : List Lx.Tok)[i].x))) :
    w.cell? ⟨b, off, none⟩ = some (.int .i64 1) ∧ w.cell? ⟨b, off + 1, none⟩ = some (.int .i64 71) ∧ w.cell? ⟨b, off + 2, none⟩ = some (.int .i64 0) ∧ w.cell? ⟨b, off + 3, none⟩ = some (.string ⟨#[]⟩) ∧
    w.cell? ⟨b, off + 4 + 1, none⟩ = some (.int .i64 1000000) ∧ w.cell? ⟨b, off + 5, none⟩ = some (.int .i64 1000000) ∧ w.cell? ⟨b, off + 8 + 3, none⟩ = some (.string ⟨#[71, 79, 84, 79]⟩) ∧ w.cell? ⟨b, off + 11, none⟩ = some (.string ⟨#[71, 79, 84, 79]⟩) := by
  obtain ⟨k00, k01, k02, k03⟩ := h 0 (by decide)
  obtain ⟨_, k11, _, _⟩ := h 1 (by decide)
  obtain ⟨_, _, _, k23⟩ := h 2 (by decide)
  exact ⟨k00, k01, k02, k03, k11, k11, k23, k23⟩

set_option maxRecDepth 100000 in
set_option maxHeartbeats 1000000 in
theorem awakeL (w : World) (ht : Tn w) : Calls Tryd.prog 11 #[] w fun e w' => e = .returned (.bool true) ∧ Qw w w' := by
  have c1 := lxTokens ⟨#[71, 49, 32, 71, 79, 84, 79]⟩ (by decide) w ht
  rw [show (ByteArray.mk #[71, 49, 32, 71, 79, 84, 79]).data.toList = [71, 49, 32, 71, 79, 84, 79] from rfl, aw_res.1, aw_res.2.1, aw_res.2.2] at c1
  have c2 := fun w ht => lxName ⟨#[73, 70]⟩ w ht
  rw [show isnm (ByteArray.mk #[73, 70]).data.toList = true from rfl] at c2
  have C1 := Lib.hid c1
  have C2 := Lib.hid c2
  have HT := Lib.hid ht
  clear c1 c2 ht
  go_enter Tryd.func11, Tryd.ntmps11
  go_wp2_with (first | (go_at_call 14; ((with_reducible refine C1.out.mono ?_); rintro e w1 ⟨⟨v, rfl, hv⟩, q1⟩; have T1 := HT.out.kept q1; have Q1 := Lib.hid q1; have H1 := Lib.hid T1; obtain ⟨a, cap, rfl, l1, l2, h3⟩ := hv; have h4 := h3.resolve_left (by simp); obtain ⟨b, off, rfl, hb, hc⟩ := h4; obtain ⟨g00, g01, g02, g03, g11, g11', g23, g23'⟩ := aw_cells hc; clear hc h3 q1 T1)) | (go_at_call 18; ((with_reducible refine (C2.out _ H1.out).mono ?_); rintro e w' ⟨rfl, rfl⟩)))
  go_ret
  exact ⟨rfl, Q1.out⟩

end Go.Proofs.YtlinfdgmebogbaaDoor
