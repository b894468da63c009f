
/- The walk of cmp of the specification of layer 1. -/
import Derived.Test.YtijakijjeoaikaaRefB
import Derived.Test.YtijakijjeoaikaaPlain
set_option linter.unusedVariables false
set_option linter.unusedSimpArgs false
namespace Go.Proofs.Ytijakijjeoaikaa
open Go.RowKit

/-- The shape of a slice of digits. -/
theorem raw_form {w : World} {v : Value} {ds : List Int} (h : Raw w v ds) : ∃ a cap, v = .slice a ds.length cap ∧ ds.length ≤ cap ∧ cap ≤ 9223372036854775807 ∧
    (0 < ds.length → ∃ g, a = some ⟨g, 0, none⟩ ∧ g < w.heap.size ∧ ∀ j, j < ds.length → w.cell? ⟨g, j, none⟩ = some (.int .u64 (ds.getD j 0))) := by
  rcases raw_cases h with ⟨rfl, rfl⟩ | ⟨g, cap, rfl, c1, c2, c3, c4⟩
  · exact ⟨none, 0, rfl, Nat.le_refl _, by omega, fun h => by simp at h⟩
  · exact ⟨_, cap, rfl, c1, c2, fun _ => ⟨g, rfl, c3, c4⟩⟩

/-- What is known at the head of a round: above place k the digits are the same. -/
def CmpK (A B : List Int) (n : Nat) (k : Int) : Prop := -1 ≤ k ∧ k < n ∧ A.drop (k + 1).toNat = B.drop (k + 1).toNat

theorem refCmp (u v : Value) (x y : Int) (w : World) (hx : Num w u x) (hy : Num w v y) :
    Calls Try.prog 67 #[u, v] w fun e w' => e = .returned (.int .i64 (cmpI x y)) ∧ Qw w w' := by
  obtain ⟨A, dA, tA, rfl, lA, rA⟩ := hx
  obtain ⟨B, dB, tB, rfl, lB, rB⟩ := hy
  obtain ⟨a, ca, rfl, _, _, fA⟩ := raw_form rA
  obtain ⟨b, cb, rfl, _, _, fB⟩ := raw_form rB
  by_cases hl : A.length = B.length
  · by_cases h0 : A.length = 0
    · have eA : A = [] := List.eq_nil_of_length_eq_zero h0
      have eB : B = [] := List.eq_nil_of_length_eq_zero (by omega)
      subst eA eB
      have e : cmpI (Dg.val []) (Dg.val []) = 0 := by rw [cmpI_zero]
      rw [e]
      clear fA fB rA rB e
      go_enter Try.func67, Try.ntmps67
      go_wp2
      go_loop [5] (fun i => i = .int .i64 (-1)) (fun _ => 0)
      case atStart => rfl
      case round =>
        subst hrel
        go_wp2
        go_ret
        exact ⟨rfl, Qw.refl _⟩
    · obtain ⟨g, rfl, _, cA⟩ := fA (by omega)
      obtain ⟨h, rfl, _, cB⟩ := fB (by omega)
      have CA := Lib.hid cA; have CB := Lib.hid cB
      have Z := Lib.hid (cmpI_zero (Dg.val A) (Dg.val B))
      have lt : ∀ k, k < A.length → A.drop (k + 1) = B.drop (k + 1) → A.getD k 0 < B.getD k 0 → cmpI (Dg.val A) (Dg.val B) = -1 := fun k h1 h2 h3 => by
        have := Dg.first_digit dA k h1 (by omega) dB h2 h3
        unfold cmpI; rw [if_pos this]
      have gt : ∀ k, k < A.length → A.drop (k + 1) = B.drop (k + 1) → B.getD k 0 < A.getD k 0 → cmpI (Dg.val A) (Dg.val B) = 1 := fun k h1 h2 h3 => by
        have := Dg.first_digit dB k (by omega) h1 dA h2.symm h3
        unfold cmpI; rw [if_neg (by omega), if_neg (by omega)]
      have Lt := Lib.hid lt; have Gt := Lib.hid gt
      obtain ⟨n, en⟩ : ∃ n, A.length = n := ⟨_, rfl⟩
      rw [← hl, en]
      rw [en] at h0 lA
      have En := Lib.hid en; have Hl := Lib.hid hl
      clear cA cB lt gt fA fB rA rB tA tB dA dB en hl lB
      generalize hc : cmpI (Dg.val A) (Dg.val B) = c at *
      have Hc := Lib.hid hc
      clear hc
      go_enter Try.func67, Try.ntmps67
      go_wp2
      go_loopw [5] (fun i wr => ∃ k : Int, i = .int .i64 k ∧ CmpK A B n k ∧ ∃ m, wr = w.drewN m) (fun i _ => (intOf i + 1).toNat)
      case atStart => exact ⟨_, rfl, ⟨by omega, by omega, by
        have e1 := En.out
        have e2 := Hl.out
        rw [List.drop_of_length_le (by omega), List.drop_of_length_le (by omega)]⟩, 0, rfl⟩
      case round =>
        obtain ⟨k, rfl, hk, m, rfl⟩ := hrel
        have k1 := hk.1
        have k2 := hk.2.1
        have Hk := Lib.hid hk
        clear hk
        by_cases kz : k = -1
        · subst kz
          have e0 : c = 0 := by
            have := Hk.out.2.2
            simp at this
            exact Z.out.2 (by rw [this])
          subst e0
          go_wp2
          go_ret
          exact ⟨rfl, Qw.drewN _ _⟩
        · obtain ⟨j, rfl⟩ := Int.eq_ofNat_of_zero_le (show 0 ≤ k by omega)
          have jn : j < n := by omega
          have jA : j < A.length := by rw [En.out]; exact jn
          have jB : j < B.length := by rw [← Hl.out]; exact jA
          have ca' := CA.out j jA
          have cb' := CB.out j jB
          have dr : A.drop (j + 1) = B.drop (j + 1) := by
            have := Hk.out.2.2
            rw [show ((j : Int) + 1).toNat = j + 1 from by omega] at this
            exact this
          have lt := Lt.out j jA dr
          have gt := Gt.out j jA dr
          have st := Dg.drop_eq_step j jA jB dr
          have Jl := Lib.hid (And.intro jA jB)
          clear kz dr jA jB
          generalize A.getD j 0 = x at *
          generalize B.getD j 0 = y at *
          have Lt' := Lib.hid lt; have Gt' := Lib.hid gt; have St := Lib.hid st
          clear lt gt st
          by_cases cl : x < y
          · have d1 : decide (x < y) = true := decide_eq_true cl
            have e1 : c = -1 := Lt'.out cl
            subst e1
            go_wp2
            go_quiet (fail)
            go_wp2
            go_ret
            exact ⟨rfl, (Qw.drewN _ _).trans (Qw.drewN _ _)⟩
          · have d1 : decide (x < y) = false := decide_eq_false cl
            by_cases cg : y < x
            · have d2 : decide (y < x) = true := decide_eq_true cg
              have e1 : c = 1 := Gt'.out cg
              subst e1
              go_wp2
              go_quiet (fail)
              go_wp2
              go_quiet (fail)
              go_wp2
              go_ret
              exact ⟨rfl, ((Qw.drewN _ _).trans (Qw.drewN _ _)).trans (Qw.drewN _ _)⟩
            · have d2 : decide (y < x) = false := decide_eq_false cg
              have Se := Lib.hid (St.out (by omega))
              go_wp2
              go_quiet (fail)
              go_wp2
              go_quiet (fail)
              go_wp2
              go_roundw
              case rel => exact ⟨_, rfl, ⟨by omega, by omega, by rw [show ((j : Int) - 1 + 1).toNat = j from by omega]; exact Se.out⟩, _, rfl⟩
              case measure => simp [intOf]
  · rcases Nat.lt_or_ge A.length B.length with c | c
    · have e : cmpI (Dg.val A) (Dg.val B) = -1 := by
        have := Dg.shorter dA dB tB c
        unfold cmpI; rw [if_pos this]
      rw [e]
      clear fA fB rA rB e
      have bl : ((A.length : Int) != (B.length : Int)) = true := by rw [bne_iff_ne]; omega
      go_enter Try.func67, Try.ntmps67
      go_wp2
      go_ret
      exact ⟨rfl, Qw.refl _⟩
    · have e : cmpI (Dg.val A) (Dg.val B) = 1 := by
        have := Dg.shorter dB dA tA (by omega)
        unfold cmpI; rw [if_neg (by omega), if_neg (by omega)]
      rw [e]
      clear fA fB rA rB e
      have bl : ((A.length : Int) != (B.length : Int)) = true := by rw [bne_iff_ne]; omega
      go_enter Try.func67, Try.ntmps67
      go_wp2
      go_ret
      exact ⟨rfl, Qw.refl _⟩

end Go.Proofs.Ytijakijjeoaikaa
