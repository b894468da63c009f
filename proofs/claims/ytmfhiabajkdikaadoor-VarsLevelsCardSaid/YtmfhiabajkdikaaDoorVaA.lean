
/- The walks of the small functions of package vars and of its specification. -/
import Derived.Test.YtmfhiabajkdikaaDoorVaM
set_option linter.unusedVariables false
set_option linter.unusedSimpArgs false
namespace Go.Proofs.YtmfhiabajkdikaaDoor
open Go.RowKit

/-- The table of the letters reads as it was laid. -/
def Tl (w : World) : Prop := 0 < w.heap.size ∧ ∀ j, j < 91 → w.cell? ⟨0, j, none⟩ = some (.int .i64 (Vs.tab.getD j 0))
theorem Tl.cong {w w' : World} (h : Tl w) (hs : w.heap.size ≤ w'.heap.size) (hb : w'.heap[0]? = w.heap[0]?) : Tl w' :=
  ⟨Nat.lt_of_lt_of_le h.1 hs, fun j hj => by rw [World.cell?_of_block (w := w) hb]; exact h.2 j hj⟩
theorem Tl.kept {w w' : World} (h : Tl w) (q : Qw w w') : Tl w' := h.cong q.size (q.block _ h.1)
theorem Tl.ty {B L : Nat} {w w' : World} (h : Tl w) (q : Ty B L w w') (h1 : 0 ≠ B) (h2 : 0 ≠ L) : Tl w' := h.cong q.size (q.block _ h.1 h1 h2)

theorem ret_bb {a b : Bool} (h : a = b) : Ending.returned (.bool a) = .returned (.bool b) := by rw [h]
theorem ret_2 {a b c d : Int} (h : a = b) (g : c = d) : Ending.returned (.tuple #[.int .i64 a, .int .i64 c]) = .returned (.tuple #[.int .i64 b, .int .i64 d]) := by rw [h, g]

theorem vaValid (n : Int) (w : World) : Calls Tryd.prog 39 #[.int .i64 n] w fun e w' => e = .returned (.bool (decide (Vs.vld n))) ∧ w = w' := by
  rcases (show n < -1000000000000000 ∨ 1000000000000000 < n ∨ Vs.vld n by unfold Vs.vld; omega) with h | h | h
  · rw [decide_eq_false (show ¬ Vs.vld n by unfold Vs.vld; omega)]
    go_enter Tryd.func39, Tryd.ntmps39
    go_wp2
    go_ret
    exact ⟨ret_bb (by first | rfl | (simp; omega)), rfl⟩
  · rw [decide_eq_false (show ¬ Vs.vld n by unfold Vs.vld; omega)]
    go_enter Tryd.func39, Tryd.ntmps39
    go_wp2
    go_ret
    exact ⟨ret_bb (by first | rfl | (simp; omega)), rfl⟩
  · rw [decide_eq_true h]
    obtain ⟨h1, h2⟩ := h
    go_enter Tryd.func39, Tryd.ntmps39
    go_wp2
    go_ret
    exact ⟨ret_bb (by first | rfl | (simp; omega)), rfl⟩

theorem vrValid (n : Int) (w : World) : Calls Tryd.prog 44 #[.int .i64 n] w fun e w' => e = .returned (.bool (decide (Vs.vld n))) ∧ w = w' := by
  rcases (show n < -1000000000000000 ∨ 1000000000000000 < n ∨ Vs.vld n by unfold Vs.vld; omega) with h | h | h
  · rw [decide_eq_false (show ¬ Vs.vld n by unfold Vs.vld; omega)]
    go_enter Tryd.func44, Tryd.ntmps44
    go_wp2
    go_ret
    exact ⟨ret_bb (by first | rfl | (simp; omega)), rfl⟩
  · rw [decide_eq_false (show ¬ Vs.vld n by unfold Vs.vld; omega)]
    go_enter Tryd.func44, Tryd.ntmps44
    go_wp2
    go_ret
    exact ⟨ret_bb (by first | rfl | (simp; omega)), rfl⟩
  · rw [decide_eq_true h]
    obtain ⟨h1, h2⟩ := h
    go_enter Tryd.func44, Tryd.ntmps44
    go_wp2
    go_ret
    exact ⟨ret_bb (by first | rfl | (simp; omega)), rfl⟩

theorem vaSystem (n : Int) (w : World) : Calls Tryd.prog 38 #[.int .i64 n] w fun e w' => e = .returned (.bool (decide (Vs.isS n))) ∧ w = w' := by
  rcases (show n < 5000 ∨ 5999 < n ∨ Vs.isS n by unfold Vs.isS; omega) with h | h | h
  · rw [decide_eq_false (show ¬ Vs.isS n by unfold Vs.isS; omega)]
    go_enter Tryd.func38, Tryd.ntmps38
    go_wp2
    go_ret
    exact ⟨ret_bb (by first | rfl | (simp; omega)), rfl⟩
  · rw [decide_eq_false (show ¬ Vs.isS n by unfold Vs.isS; omega)]
    go_enter Tryd.func38, Tryd.ntmps38
    go_wp2
    go_ret
    exact ⟨ret_bb (by first | rfl | (simp; omega)), rfl⟩
  · rw [decide_eq_true h]
    obtain ⟨h1, h2⟩ := h
    go_enter Tryd.func38, Tryd.ntmps38
    go_wp2
    go_ret
    exact ⟨ret_bb (by first | rfl | (simp; omega)), rfl⟩

theorem vrSystem (n : Int) (w : World) : Calls Tryd.prog 43 #[.int .i64 n] w fun e w' => e = .returned (.bool (decide (Vs.isS n))) ∧ w = w' := by
  rcases (show n < 5000 ∨ 5999 < n ∨ Vs.isS n by unfold Vs.isS; omega) with h | h | h
  · rw [decide_eq_false (show ¬ Vs.isS n by unfold Vs.isS; omega)]
    go_enter Tryd.func43, Tryd.ntmps43
    go_wp2
    go_ret
    exact ⟨ret_bb (by first | rfl | (simp; omega)), rfl⟩
  · rw [decide_eq_false (show ¬ Vs.isS n by unfold Vs.isS; omega)]
    go_enter Tryd.func43, Tryd.ntmps43
    go_wp2
    go_ret
    exact ⟨ret_bb (by first | rfl | (simp; omega)), rfl⟩
  · rw [decide_eq_true h]
    obtain ⟨h1, h2⟩ := h
    go_enter Tryd.func43, Tryd.ntmps43
    go_wp2
    go_ret
    exact ⟨ret_bb (by first | rfl | (simp; omega)), rfl⟩

theorem vrCommon (n : Int) (w : World) : Calls Tryd.prog 42 #[.int .i64 n] w fun e w' => e = .returned (.bool (decide (Vs.isC n))) ∧ w = w' := by
  rcases (show n < 100 ∨ 199 < n ∨ Vs.isC n by unfold Vs.isC; omega) with h | h | h
  · rw [decide_eq_false (show ¬ Vs.isC n by unfold Vs.isC; omega)]
    go_enter Tryd.func42, Tryd.ntmps42
    go_wp2
    go_ret
    exact ⟨ret_bb (by first | rfl | (simp; omega)), rfl⟩
  · rw [decide_eq_false (show ¬ Vs.isC n by unfold Vs.isC; omega)]
    go_enter Tryd.func42, Tryd.ntmps42
    go_wp2
    go_ret
    exact ⟨ret_bb (by first | rfl | (simp; omega)), rfl⟩
  · rw [decide_eq_true h]
    obtain ⟨h1, h2⟩ := h
    go_enter Tryd.func42, Tryd.ntmps42
    go_wp2
    go_ret
    exact ⟨ret_bb (by first | rfl | (simp; omega)), rfl⟩

theorem vrLocal (n : Int) (w : World) : Calls Tryd.prog 41 #[.int .i64 n] w fun e w' => e = .returned (.bool (decide (Vs.isL n))) ∧ w = w' := by
  rcases (show n < 1 ∨ 33 < n ∨ Vs.isL n by unfold Vs.isL; omega) with h | h | h
  · rw [decide_eq_false (show ¬ Vs.isL n by unfold Vs.isL; omega)]
    go_enter Tryd.func41, Tryd.ntmps41
    go_wp2
    go_ret
    exact ⟨ret_bb (by first | rfl | (simp; omega)), rfl⟩
  · rw [decide_eq_false (show ¬ Vs.isL n by unfold Vs.isL; omega)]
    go_enter Tryd.func41, Tryd.ntmps41
    go_wp2
    go_ret
    exact ⟨ret_bb (by first | rfl | (simp; omega)), rfl⟩
  · rw [decide_eq_true h]
    obtain ⟨h1, h2⟩ := h
    go_enter Tryd.func41, Tryd.ntmps41
    go_wp2
    go_ret
    exact ⟨ret_bb (by first | rfl | (simp; omega)), rfl⟩


theorem vaLocal (c : Int) (w : World) (h : Tl w) : Calls Tryd.prog 16 #[.int .i64 c] w fun e w' => e = .returned (.int .i64 (Vs.loc c)) ∧ w = w' := by
  unfold Vs.loc
  rcases (show c < 0 ∨ 91 ≤ c ∨ (0 ≤ c ∧ c < 91) by omega) with h1 | h1 | h1
  · rw [if_neg (by omega)]
    clear h
    go_enter Tryd.func16, Tryd.ntmps16
    go_wp2
    go_ret
    exact ⟨rfl, rfl⟩
  · rw [if_neg (by omega)]
    clear h
    go_enter Tryd.func16, Tryd.ntmps16
    go_wp2
    go_ret
    exact ⟨rfl, rfl⟩
  · rw [if_pos h1]
    obtain ⟨h1, h2⟩ := h1
    obtain ⟨k, rfl⟩ : ∃ k : Nat, c = k := ⟨c.toNat, by omega⟩
    have hk : k < 91 := by omega
    have hc := h.2 k hk
    rw [Int.toNat_natCast]
    generalize Vs.tab.getD k 0 = z at *
    clear h
    go_enter Tryd.func16, Tryd.ntmps16
    go_wp2
    go_ret
    exact ⟨rfl, rfl⟩

def tabV : Array Value := #[.int .i64 1, .int .i64 2, .int .i64 3, .int .i64 7, .int .i64 8, .int .i64 9, .int .i64 0, .int .i64 11, .int .i64 4, .int .i64 5, .int .i64 6, .int .i64 0, .int .i64 13, .int .i64 0, .int .i64 0, .int .i64 0, .int .i64 17, .int .i64 18, .int .i64 19, .int .i64 20, .int .i64 21, .int .i64 22, .int .i64 23, .int .i64 24, .int .i64 25, .int .i64 26]
theorem tabV_at : ∀ k, k < 26 → tabV[k]? = some (.int .i64 (Vs.tab.getD (65 + k) 0)) := by
  intro k hk
  match k, hk with
  | 0, _ => rfl
  | 1, _ => rfl
  | 2, _ => rfl
  | 3, _ => rfl
  | 4, _ => rfl
  | 5, _ => rfl
  | 6, _ => rfl
  | 7, _ => rfl
  | 8, _ => rfl
  | 9, _ => rfl
  | 10, _ => rfl
  | 11, _ => rfl
  | 12, _ => rfl
  | 13, _ => rfl
  | 14, _ => rfl
  | 15, _ => rfl
  | 16, _ => rfl
  | 17, _ => rfl
  | 18, _ => rfl
  | 19, _ => rfl
  | 20, _ => rfl
  | 21, _ => rfl
  | 22, _ => rfl
  | 23, _ => rfl
  | 24, _ => rfl
  | 25, _ => rfl
  | n + 26, h => exact absurd h (by omega)
theorem tab_low : ∀ k, k < 65 → Vs.tab.getD k 0 = 0 := by decide +kernel

theorem vrTab (c : Int) (w : World) : Calls Tryd.prog 17 #[.int .i64 c] w fun e w' => e = .returned (.int .i64 (Vs.loc c)) ∧ Qw w w' := by
  unfold Vs.loc
  rcases (show c < 65 ∨ 91 ≤ c ∨ (65 ≤ c ∧ c < 91) by omega) with h1 | h1 | h1
  · have e : (if 0 ≤ c ∧ c < 91 then Vs.tab.getD c.toNat 0 else 0) = 0 := by
      split
      · exact tab_low _ (by omega)
      · rfl
    rw [e]
    clear e
    go_enter Tryd.func17, Tryd.ntmps17
    go_wp2
    go_ret
    exact ⟨rfl, Qw.refl _⟩
  · rw [if_neg (by omega)]
    go_enter Tryd.func17, Tryd.ntmps17
    go_wp2
    go_ret
    exact ⟨rfl, Qw.refl _⟩
  · rw [if_pos (by omega)]
    obtain ⟨h1, h2⟩ := h1
    obtain ⟨k, rfl⟩ : ∃ k : Nat, c = 65 + (k : Int) := ⟨(c - 65).toNat, by omega⟩
    have hk : k < 26 := by omega
    have e1 : (65 + (k : Int)).toNat = 65 + k := by omega
    rw [e1]
    have e2 : IntKind.i64.wrap (65 + (k : Int) - 65) = k := (IntWalk.i64_in _ (by omega)).trans (by omega)
    have X : (w.alloc (.cells tabV 3)).cell? ⟨w.heap.size, k, none⟩ = some (.int .i64 (Vs.tab.getD (65 + k) 0)) := (Bx.new w tabV 3).cell' k _ (tabV_at k hk)
    generalize Vs.tab.getD (65 + k) 0 = z at *
    unfold tabV at X
    clear e1
    go_enter Tryd.func17, Tryd.ntmps17
    go_wp2

    go_ret
    exact ⟨rfl, Qw.al (Qw.refl _) _⟩

theorem vaLevel {w : World} {B L cap : Nat} {s : Vs.St} (h : Pst w B L cap s) : Calls Tryd.prog 19 #[.pointer (some ⟨B, 0, none⟩)] w fun e w' => e = .returned (.int .i64 ((s.n : Int) - 1)) ∧ w = w' := by
  have c0 := h.cell0
  have h1 := h.ok.n1
  have h2 := h.ok.n2
  clear h
  go_enter Tryd.func19, Tryd.ntmps19
  go_wp2
  go_ret
  exact ⟨rfl, rfl⟩
theorem vrLevel {w : World} {B L cap : Nat} {s : Vs.St} (h : Rst w B L cap s) : Calls Tryd.prog 29 #[.pointer (some ⟨B, 0, none⟩)] w fun e w' => e = .returned (.int .i64 ((s.n : Int) - 1)) ∧ w = w' := by
  have c0 := h.cell0
  have h1 := h.ok.n1
  have h2 := h.ok.n2
  clear h
  go_enter Tryd.func29, Tryd.ntmps29
  go_wp2
  go_ret
  exact ⟨rfl, rfl⟩

end Go.Proofs.YtmfhiabajkdikaaDoor
