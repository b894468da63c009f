
/- The walks of the small functions of package vars and of its specification. -/
import Derived.Test.YtijakijjeoaikaaVaM
set_option linter.unusedVariables false
set_option linter.unusedSimpArgs false
namespace Go.Proofs.Ytijakijjeoaikaa
open Go.RowKit

theorem ret_bb {a b : Bool} (h : a = b) : Ending.returned (.bool a) = .returned (.bool b) := by rw [h]
theorem ret_2 {a b c d : Int} (h : a = b) (g : c = d) : Ending.returned (.tuple #[.int .i64 a, .int .i64 c]) = .returned (.tuple #[.int .i64 b, .int .i64 d]) := by rw [h, g]

theorem vaValid (n : Int) (w : World) : Calls Try.prog 46 #[.int .i64 n] w fun e w' => e = .returned (.bool (decide (Vs.vld n))) ∧ w = w' := by
  rcases (show n < -1000000000000000 ∨ 1000000000000000 < n ∨ Vs.vld n by unfold Vs.vld; omega) with h | h | h
  · rw [decide_eq_false (show ¬ Vs.vld n by unfold Vs.vld; omega)]
    go_enter Try.func46, Try.ntmps46
    go_wp2
    go_ret
    exact ⟨ret_bb (by first | rfl | (simp; omega)), rfl⟩
  · rw [decide_eq_false (show ¬ Vs.vld n by unfold Vs.vld; omega)]
    go_enter Try.func46, Try.ntmps46
    go_wp2
    go_ret
    exact ⟨ret_bb (by first | rfl | (simp; omega)), rfl⟩
  · rw [decide_eq_true h]
    obtain ⟨h1, h2⟩ := h
    go_enter Try.func46, Try.ntmps46
    go_wp2
    go_ret
    exact ⟨ret_bb (by first | rfl | (simp; omega)), rfl⟩

theorem vrValid (n : Int) (w : World) : Calls Try.prog 43 #[.int .i64 n] w fun e w' => e = .returned (.bool (decide (Vs.vld n))) ∧ w = w' := by
  rcases (show n < -1000000000000000 ∨ 1000000000000000 < n ∨ Vs.vld n by unfold Vs.vld; omega) with h | h | h
  · rw [decide_eq_false (show ¬ Vs.vld n by unfold Vs.vld; omega)]
    go_enter Try.func43, Try.ntmps43
    go_wp2
    go_ret
    exact ⟨ret_bb (by first | rfl | (simp; omega)), rfl⟩
  · rw [decide_eq_false (show ¬ Vs.vld n by unfold Vs.vld; omega)]
    go_enter Try.func43, Try.ntmps43
    go_wp2
    go_ret
    exact ⟨ret_bb (by first | rfl | (simp; omega)), rfl⟩
  · rw [decide_eq_true h]
    obtain ⟨h1, h2⟩ := h
    go_enter Try.func43, Try.ntmps43
    go_wp2
    go_ret
    exact ⟨ret_bb (by first | rfl | (simp; omega)), rfl⟩

def tabV : Array Value := #[.int .i64 1, .int .i64 2, .int .i64 3, .int .i64 7, .int .i64 8, .int .i64 9, .int .i64 0, .int .i64 11, .int .i64 4, .int .i64 5, .int .i64 6, .int .i64 0, .int .i64 13, .int .i64 0, .int .i64 0, .int .i64 0, .int .i64 17, .int .i64 18, .int .i64 19, .int .i64 20, .int .i64 21, .int .i64 22, .int .i64 23, .int .i64 24, .int .i64 25, .int .i64 26]
theorem tabV_at : ∀ k, k < 26 → tabV[k]? = some (.int .i64 (Vs.tab.getD (65 + k) 0)) := by
  intro k hk
  match k, hk with
  | 0, _ => rfl
  | 1, _ => rfl
  | 2, _ => rfl
  | 3, _ => rfl
  | 4, _ => rfl
  | 5, _ => rfl
  | 6, _ => rfl
  | 7, _ => rfl
  | 8, _ => rfl
  | 9, _ => rfl
  | 10, _ => rfl
  | 11, _ => rfl
  | 12, _ => rfl
  | 13, _ => rfl
  | 14, _ => rfl
  | 15, _ => rfl
  | 16, _ => rfl
  | 17, _ => rfl
  | 18, _ => rfl
  | 19, _ => rfl
  | 20, _ => rfl
  | 21, _ => rfl
  | 22, _ => rfl
  | 23, _ => rfl
  | 24, _ => rfl
  | 25, _ => rfl
  | n + 26, h => exact absurd h (by omega)
theorem tab_low : ∀ k, k < 65 → Vs.tab.getD k 0 = 0 := by decide +kernel

end Go.Proofs.Ytijakijjeoaikaa
