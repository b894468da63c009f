
/- Numbers of bounded size, the product of two ints and Cmp of the specification of layer 1; the search of a number bit by bit. -/
import Derived.Test.YtlinfdgmebogbaaDoorRefA
import Derived.Test.YtlinfdgmebogbaaDoorRefD
import Derived.Test.YtlinfdgmebogbaaDoorRefE
set_option linter.unusedVariables false
set_option linter.unusedSimpArgs false
namespace Go.Proofs.YtlinfdgmebogbaaDoor
open Go.RowKit

/-- 2^200. -/
def Big : Int := 1606938044258990275541962092341162602522202993782792835301376
theorem big_le {x : Int} (h : x ≤ 1606938044258990275541962092341162602522202993782792835301376) : x ≤ Big := h
theorem big_word {x : Int} (h : x < 18446744073709551616) : x ≤ Big := by unfold Big; omega
theorem big_two {x : Int} (h : x ≤ 340282366920938463463374607431768211456) : x ≤ Big := by unfold Big; omega

theorem len_le {ds : List Int} (h : Dg.Dig ds) (t : Dg.Top ds) (b : Dg.val ds ≤ Big) : ds.length ≤ 13 := by
  rcases Nat.lt_or_ge 13 ds.length with c | c
  · exfalso
    have h0 : ds ≠ [] := by intro e; rw [e] at c; simp at c
    have g := Dg.top_ge h t h0
    have p := Dg.pow_mono (show 13 ≤ ds.length - 1 by omega)
    have q : (65536 : Int) ^ 13 = 411376139330301510538742295639337626245683966408394965837152256 := by decide
    unfold Big at b
    omega
  · exact c

theorem sgn_cmp (a b : Int) : sgnI a b = cmpI (a * b) 0 := by
  unfold sgnI cmpI
  by_cases ha : a = 0
  · subst ha; simp
  by_cases hb : b = 0
  · subst hb; simp
  rw [if_neg (by omega)]
  rcases Int.lt_or_le a 0 with pa | pa <;> rcases Int.lt_or_le b 0 with pb | pb
  · have := Int.mul_pos_of_neg_of_neg pa pb
    rw [decide_eq_true pa, decide_eq_true pb, if_pos rfl, if_neg (by omega), if_neg (by omega)]
  · have := Int.mul_neg_of_neg_of_pos pa (show 0 < b by omega)
    rw [decide_eq_true pa, decide_eq_false (by omega), if_neg (by decide), if_pos (by omega)]
  · have := Int.mul_neg_of_pos_of_neg (show 0 < a by omega) pb
    rw [decide_eq_false (by omega), decide_eq_true pb, if_neg (by decide), if_pos (by omega)]
  · have := Int.mul_pos (show 0 < a by omega) (show 0 < b by omega)
    rw [decide_eq_false (by omega), decide_eq_false (by omega), if_pos rfl, if_neg (by omega), if_neg (by omega)]

theorem cmpI_zero_right (m : Int) : (m < 0 ∧ cmpI m 0 = -1) ∨ (m = 0 ∧ cmpI m 0 = 0) ∨ (0 < m ∧ cmpI m 0 = 1) := by
  unfold cmpI
  rcases Int.lt_trichotomy m 0 with h | h | h
  · left; exact ⟨h, if_pos h⟩
  · right; left; exact ⟨h, by rw [if_neg (by omega), if_pos h]⟩
  · right; right; exact ⟨h, by rw [if_neg (by omega), if_neg (by omega)]⟩

theorem cmpI_neg (m n : Int) : cmpI (-m) (-n) = -cmpI m n := by
  unfold cmpI
  rcases Int.lt_trichotomy m n with h | h | h
  · rw [if_neg (by omega), if_neg (by omega), if_pos h]; rfl
  · rw [if_neg (by omega), if_pos (by omega), if_neg (by omega), if_pos h]; rfl
  · rw [if_pos (by omega), if_neg (by omega), if_neg (by omega)]

theorem cmp_signs (m n : Int) (h : cmpI m 0 = cmpI n 0) : cmpI m 0 * cmpI (Mth.mag m) (Mth.mag n) = cmpI m n := by
  rcases cmpI_zero_right m with ⟨hm, em⟩ | ⟨hm, em⟩ | ⟨hm, em⟩ <;> rcases cmpI_zero_right n with ⟨hn, en⟩ | ⟨hn, en⟩ | ⟨hn, en⟩
  · have e1 : Mth.mag m = -m := if_pos hm
    have e2 : Mth.mag n = -n := if_pos hn
    rw [em, e1, e2, cmpI_neg]; omega
  · omega
  · omega
  · omega
  · subst hm hn; rw [em]; omega
  · omega
  · omega
  · omega
  · have e1 : Mth.mag m = m := if_neg (by omega)
    have e2 : Mth.mag n = n := if_neg (by omega)
    rw [em, e1, e2]; omega

theorem cmp_less (m n : Int) (h : cmpI m 0 < cmpI n 0) : cmpI m n = -1 := by
  unfold cmpI at h ⊢
  split at h <;> (try split at h) <;> (try split at h) <;> (try split at h) <;> (try split) <;> (try split) <;> omega

end Go.Proofs.YtlinfdgmebogbaaDoor
