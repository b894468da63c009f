
/- Numbers of bounded size, the product of two ints and Cmp of the specification of layer 1; the search of a number bit by bit. -/
import Derived.Test.YtijakijjeoaikaaRefA
import Derived.Test.YtijakijjeoaikaaRefD
import Derived.Test.YtijakijjeoaikaaRefE
set_option linter.unusedVariables false
set_option linter.unusedSimpArgs false
namespace Go.Proofs.Ytijakijjeoaikaa
open Go.RowKit

/-- 2^200. -/
def Big : Int := 1606938044258990275541962092341162602522202993782792835301376
theorem big_le {x : Int} (h : x ≤ 1606938044258990275541962092341162602522202993782792835301376) : x ≤ Big := h
theorem big_word {x : Int} (h : x < 18446744073709551616) : x ≤ Big := by unfold Big; omega
theorem big_two {x : Int} (h : x ≤ 340282366920938463463374607431768211456) : x ≤ Big := by unfold Big; omega

theorem len_le {ds : List Int} (h : Dg.Dig ds) (t : Dg.Top ds) (b : Dg.val ds ≤ Big) : ds.length ≤ 13 := by
  rcases Nat.lt_or_ge 13 ds.length with c | c
  · exfalso
    have h0 : ds ≠ [] := by intro e; rw [e] at c; simp at c
    have g := Dg.top_ge h t h0
    have p := Dg.pow_mono (show 13 ≤ ds.length - 1 by omega)
    have q : (65536 : Int) ^ 13 = 411376139330301510538742295639337626245683966408394965837152256 := by decide
    unfold Big at b
    omega
  · exact c

theorem mulN (u v : Value) (x y : Int) (w : World) (hx : Num w u x) (hy : Num w v y) (bx : x ≤ Big) (by' : y ≤ Big) :
    Calls Try.prog 68 #[u, v] w fun e w' => ∃ r, e = .returned r ∧ Num w' r (x * y) ∧ Qw w w' :=
  refMul u v x y w hx hy fun A B h1 h2 h3 h4 h5 h6 => by
    have := len_le h1 h3 (by rw [h5]; exact bx)
    have := len_le h2 h4 (by rw [h6]; exact by')
    omega

theorem addN (u v : Value) (x y : Int) (w : World) (hx : Num w u x) (hy : Num w v y) (bx : x ≤ Big) (by' : y ≤ Big) :
    Calls Try.prog 69 #[u, v] w fun e w' => ∃ r, e = .returned r ∧ Num w' r (x + y) ∧ Qw w w' :=
  refAdd u v x y w hx hy fun A B h1 h2 h3 h4 h5 h6 => by
    have := len_le h1 h3 (by rw [h5]; exact bx)
    have := len_le h2 h4 (by rw [h6]; exact by')
    omega

theorem refProduct (a b : Int) (a1 : -9223372036854775808 ≤ a) (a2 : a ≤ 9223372036854775807) (b1 : -9223372036854775808 ≤ b) (b2 : b ≤ 9223372036854775807) (w : World) :
    Calls Try.prog 64 #[.int .i64 a, .int .i64 b] w fun e w' => ∃ r, e = .returned r ∧ Num w' r (Mth.mag a * Mth.mag b) ∧ Qw w w' := by
  have ma := Mth.mag_le a a1 a2
  have mb := Mth.mag_le b b1 b2
  have na := Mth.mag_nonneg a
  have nb := Mth.mag_nonneg b
  go_enter Try.func64, Try.ntmps64
  go_wp2_with (go_at_call 66; refine (refMag _ (by omega) (by omega) _).mono ?_; rintro e w' ⟨rfl, rfl⟩)
  refine (refLimbs _ na (by omega) _).mono ?_
  rintro e w1 ⟨v1, rfl, hn1, hq1⟩
  go_wp2_with (go_at_call 66; refine (refMag _ (by omega) (by omega) _).mono ?_; rintro e w' ⟨rfl, rfl⟩)
  refine (refLimbs _ nb (by omega) _).mono ?_
  rintro e w2 ⟨v2, rfl, hn2, hq2⟩
  go_wp2_with fail
  refine (mulN _ _ _ _ _ (num_kept hn1 hq2) hn2 (big_word (by omega)) (big_word (by omega))).mono ?_
  rintro e w3 ⟨v3, rfl, hn3, hq3⟩
  go_wp2_with fail
  go_ret
  exact ⟨_, rfl, hn3, (hq1.trans hq2).trans hq3⟩

theorem sgn_cmp (a b : Int) : sgnI a b = cmpI (a * b) 0 := by
  unfold sgnI cmpI
  by_cases ha : a = 0
  · subst ha; simp
  by_cases hb : b = 0
  · subst hb; simp
  rw [if_neg (by omega)]
  rcases Int.lt_or_le a 0 with pa | pa <;> rcases Int.lt_or_le b 0 with pb | pb
  · have := Int.mul_pos_of_neg_of_neg pa pb
    rw [decide_eq_true pa, decide_eq_true pb, if_pos rfl, if_neg (by omega), if_neg (by omega)]
  · have := Int.mul_neg_of_neg_of_pos pa (show 0 < b by omega)
    rw [decide_eq_true pa, decide_eq_false (by omega), if_neg (by decide), if_pos (by omega)]
  · have := Int.mul_neg_of_pos_of_neg (show 0 < a by omega) pb
    rw [decide_eq_false (by omega), decide_eq_true pb, if_neg (by decide), if_pos (by omega)]
  · have := Int.mul_pos (show 0 < a by omega) (show 0 < b by omega)
    rw [decide_eq_false (by omega), decide_eq_false (by omega), if_pos rfl, if_neg (by omega), if_neg (by omega)]

theorem cmpI_zero_right (m : Int) : (m < 0 ∧ cmpI m 0 = -1) ∨ (m = 0 ∧ cmpI m 0 = 0) ∨ (0 < m ∧ cmpI m 0 = 1) := by
  unfold cmpI
  rcases Int.lt_trichotomy m 0 with h | h | h
  · left; exact ⟨h, if_pos h⟩
  · right; left; exact ⟨h, by rw [if_neg (by omega), if_pos h]⟩
  · right; right; exact ⟨h, by rw [if_neg (by omega), if_neg (by omega)]⟩

theorem cmpI_neg (m n : Int) : cmpI (-m) (-n) = -cmpI m n := by
  unfold cmpI
  rcases Int.lt_trichotomy m n with h | h | h
  · rw [if_neg (by omega), if_neg (by omega), if_pos h]; rfl
  · rw [if_neg (by omega), if_pos (by omega), if_neg (by omega), if_pos h]; rfl
  · rw [if_pos (by omega), if_neg (by omega), if_neg (by omega)]

theorem cmp_signs (m n : Int) (h : cmpI m 0 = cmpI n 0) : cmpI m 0 * cmpI (Mth.mag m) (Mth.mag n) = cmpI m n := by
  rcases cmpI_zero_right m with ⟨hm, em⟩ | ⟨hm, em⟩ | ⟨hm, em⟩ <;> rcases cmpI_zero_right n with ⟨hn, en⟩ | ⟨hn, en⟩ | ⟨hn, en⟩
  · have e1 : Mth.mag m = -m := if_pos hm
    have e2 : Mth.mag n = -n := if_pos hn
    rw [em, e1, e2, cmpI_neg]; omega
  · omega
  · omega
  · omega
  · subst hm hn; rw [em]; omega
  · omega
  · omega
  · omega
  · have e1 : Mth.mag m = m := if_neg (by omega)
    have e2 : Mth.mag n = n := if_neg (by omega)
    rw [em, e1, e2]; omega

theorem cmp_less (m n : Int) (h : cmpI m 0 < cmpI n 0) : cmpI m n = -1 := by
  unfold cmpI at h ⊢
  split at h <;> (try split at h) <;> (try split at h) <;> (try split at h) <;> (try split) <;> (try split) <;> omega

end Go.Proofs.Ytijakijjeoaikaa
