
/- The walks of the comparisons of lists of tokens. -/
import Derived.Test.YtlinfdgmebogbaaDoorLxC
import Derived.Deep.QuietTactic
import Derived.BigQuiet
import Derived.Outline
set_option linter.unusedVariables false
set_option linter.unusedSimpArgs false
namespace Go.Proofs.YtlinfdgmebogbaaDoor
open Go.RowKit

namespace Lx
/-- Lists of tokens that differ in their offsets only. -/
def Alike (ts us : List Tok) : Prop := ts.length = us.length ∧ ∀ i (h : i < ts.length) (h' : i < us.length), ts[i].k = us[i].k ∧ ts[i].n = us[i].n ∧ ts[i].x = us[i].x
end Lx

set_option maxRecDepth 100000 in
set_option maxHeartbeats 2000000 in
theorem sameT (v u : Value) (ts : List Lx.Tok) (B : Nat) (w : World) (hv : ToksB B w v ts) (hu : ToksB B w u ts) (hB : B ≤ w.heap.size) :
    Calls Tryd.prog 16 #[v, u] w fun e w' => e = .returned (.bool true) ∧ Qw w w' := by
  obtain ⟨a, cap, rfl, l1, l2, hA⟩ := hv
  obtain ⟨b, cap2, rfl, m1, m2, hC⟩ := hu
  have HA := Lib.hid hA
  have HC := Lib.hid hC
  clear hA hC
  go_enter Tryd.func16, Tryd.ntmps16
  go_wp2
  go_loopw [5] (fun kv wr => ∃ k : Nat, k ≤ ts.length ∧ kv = .int .i64 (k : Int) ∧ Qw w wr) (fun kv _ => ts.length - (intOf kv).toNat)
  case atStart => exact ⟨0, by omega, rfl, Qw.refl w⟩
  case round =>
    obtain ⟨k, hk, rfl, hQ⟩ := hrel
    by_cases hlt : k < ts.length
    · rcases HA.out with h | ⟨g, off, rfl, hg, hc⟩
      · rw [h] at hlt; simp at hlt
      · rcases HC.out with h | ⟨g2, off2, rfl, hg2, hc2⟩
        · rw [h] at hlt; simp at hlt
        · obtain ⟨a0, a1, a2, a3⟩ := hc k hlt
          obtain ⟨b0, b1, b2, b3⟩ := hc2 k hlt
          have ka : ∀ o, wr.cell? ⟨g, o, none⟩ = w.cell? ⟨g, o, none⟩ := fun o => hQ.cell (p := ⟨g, o, none⟩) (Nat.lt_of_lt_of_le hg hB)
          have kb : ∀ o, wr.cell? ⟨g2, o, none⟩ = w.cell? ⟨g2, o, none⟩ := fun o => hQ.cell (p := ⟨g2, o, none⟩) (Nat.lt_of_lt_of_le hg2 hB)
          rw [← ka] at a0 a1 a2 a3
          rw [← kb] at b0 b1 b2 b3
          have QW := Lib.hid hQ
          have k' : (k : Int) < (ts.length : Int) := by omega
          clear hc hc2 ka kb hQ
          generalize ts[k].k = t0 at *
          generalize ts[k].n = t1 at *
          generalize ts[k].p = t2 at *
          generalize bs ts[k].x = t3 at *
          go_wp2
          go_quiet (fail)
          go_wp2
          go_roundw
          case rel => exact ⟨k + 1, by omega, by go_num, QW.out.trans (Qw.drewN wr nq)⟩
          case measure => simp [intOf]; omega
    · obtain rfl : k = ts.length := by omega
      have QW := Lib.hid hQ
      clear hQ
      go_wp2
      go_ret
      exact ⟨rfl, QW.out⟩

set_option maxRecDepth 100000 in
set_option maxHeartbeats 2000000 in
theorem alikeT (v u : Value) (ts us : List Lx.Tok) (ht : Lx.Alike ts us) (B : Nat) (w : World) (hv : ToksB B w v ts) (hu : ToksB B w u us) (hB : B ≤ w.heap.size) :
    Calls Tryd.prog 21 #[v, u] w fun e w' => e = .returned (.bool true) ∧ Qw w w' := by
  obtain ⟨a, cap, rfl, l1, l2, hA⟩ := hv
  obtain ⟨b, cap2, rfl, m1, m2, hC⟩ := hu
  obtain ⟨le, ht⟩ := ht
  rw [← le] at m1 ⊢
  have HA := Lib.hid hA
  have HC := Lib.hid hC
  clear hA hC
  go_enter Tryd.func21, Tryd.ntmps21
  go_wp2
  go_loopw [5] (fun kv wr => ∃ k : Nat, k ≤ ts.length ∧ kv = .int .i64 (k : Int) ∧ Qw w wr) (fun kv _ => ts.length - (intOf kv).toNat)
  case atStart => exact ⟨0, by omega, rfl, Qw.refl w⟩
  case round =>
    obtain ⟨k, hk, rfl, hQ⟩ := hrel
    by_cases hlt : k < ts.length
    · rcases HA.out with h | ⟨g, off, rfl, hg, hc⟩
      · rw [h] at hlt; simp at hlt
      · rcases HC.out with h | ⟨g2, off2, rfl, hg2, hc2⟩
        · rw [le, h] at hlt; simp at hlt
        · obtain ⟨e0, e1, e2⟩ := ht k hlt (by omega)
          obtain ⟨a0, a1, a2, a3⟩ := hc k hlt
          obtain ⟨b0, b1, b2, b3⟩ := hc2 k (by omega)
          have ka : ∀ o, wr.cell? ⟨g, o, none⟩ = w.cell? ⟨g, o, none⟩ := fun o => hQ.cell (p := ⟨g, o, none⟩) (Nat.lt_of_lt_of_le hg hB)
          have kb : ∀ o, wr.cell? ⟨g2, o, none⟩ = w.cell? ⟨g2, o, none⟩ := fun o => hQ.cell (p := ⟨g2, o, none⟩) (Nat.lt_of_lt_of_le hg2 hB)
          rw [← ka] at a0 a1 a2 a3
          rw [← kb] at b0 b1 b2 b3
          have QW := Lib.hid hQ
          have k' : (k : Int) < (ts.length : Int) := by omega
          rw [← e0] at b0
          rw [← e1] at b1
          rw [← e2] at b3
          clear hc hc2 ka kb hQ e0 e1 e2
          generalize ts[k].k = t0 at *
          generalize ts[k].n = t1 at *
          generalize bs ts[k].x = t3 at *
          go_wp2
          go_quiet (fail)
          go_wp2
          go_roundw
          case rel => exact ⟨k + 1, by omega, by go_num, QW.out.trans (Qw.drewN wr nq)⟩
          case measure => simp [intOf]; omega
    · obtain rfl : k = ts.length := by omega
      have QW := Lib.hid hQ
      clear hQ
      go_wp2
      go_ret
      exact ⟨rfl, QW.out⟩

end Go.Proofs.YtlinfdgmebogbaaDoor
