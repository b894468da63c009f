/- Numbers of bounded size, the product of two ints and Cmp of the specification of layer 1; the search of a number bit by bit. -/
import Derived.Test.YtihdmhdhdlbifaaRefA
import Derived.Test.YtihdmhdhdlbifaaRefD
import Derived.Test.YtihdmhdhdlbifaaRefE
set_option linter.unusedVariables false
set_option linter.unusedSimpArgs false
namespace Go.Proofs.Ytihdmhdhdlbifaa
open Go.RowKit

/-- 2^200. -/
def Big : Int := 1606938044258990275541962092341162602522202993782792835301376
theorem big_le {x : Int} (h : x ≤ 1606938044258990275541962092341162602522202993782792835301376) : x ≤ Big := h
theorem big_word {x : Int} (h : x < 18446744073709551616) : x ≤ Big := by unfold Big; omega
theorem big_two {x : Int} (h : x ≤ 340282366920938463463374607431768211456) : x ≤ Big := by unfold Big; omega

theorem len_le {ds : List Int} (h : Dg.Dig ds) (t : Dg.Top ds) (b : Dg.val ds ≤ Big) : ds.length ≤ 13 := by
  rcases Nat.lt_or_ge 13 ds.length with c | c
  · exfalso
    have h0 : ds ≠ [] := by intro e; rw [e] at c; simp at c
    have g := Dg.top_ge h t h0
    have p := Dg.pow_mono (show 13 ≤ ds.length - 1 by omega)
    have q : (65536 : Int) ^ 13 = 411376139330301510538742295639337626245683966408394965837152256 := by decide
    unfold Big at b
    omega
  · exact c

theorem mulN (u v : Value) (x y : Int) (w : World) (hx : Num w u x) (hy : Num w v y) (bx : x ≤ Big) (by' : y ≤ Big) :
    Calls Try.prog 45 #[u, v] w fun e w' => ∃ r, e = .returned r ∧ Num w' r (x * y) ∧ Qw w w' :=
  refMul u v x y w hx hy fun A B h1 h2 h3 h4 h5 h6 => by
    have := len_le h1 h3 (by rw [h5]; exact bx)
    have := len_le h2 h4 (by rw [h6]; exact by')
    omega

theorem addN (u v : Value) (x y : Int) (w : World) (hx : Num w u x) (hy : Num w v y) (bx : x ≤ Big) (by' : y ≤ Big) :
    Calls Try.prog 46 #[u, v] w fun e w' => ∃ r, e = .returned r ∧ Num w' r (x + y) ∧ Qw w w' :=
  refAdd u v x y w hx hy fun A B h1 h2 h3 h4 h5 h6 => by
    have := len_le h1 h3 (by rw [h5]; exact bx)
    have := len_le h2 h4 (by rw [h6]; exact by')
    omega

theorem refProduct (a b : Int) (a1 : -9223372036854775808 ≤ a) (a2 : a ≤ 9223372036854775807) (b1 : -9223372036854775808 ≤ b) (b2 : b ≤ 9223372036854775807) (w : World) :
    Calls Try.prog 36 #[.int .i64 a, .int .i64 b] w fun e w' => ∃ r, e = .returned r ∧ Num w' r (Mth.mag a * Mth.mag b) ∧ Qw w w' := by
  have ma := Mth.mag_le a a1 a2
  have mb := Mth.mag_le b b1 b2
  have na := Mth.mag_nonneg a
  have nb := Mth.mag_nonneg b
  go_enter Try.func36, Try.ntmps36
  go_wp2_with (go_at_call 44; refine (refMag _ (by omega) (by omega) _).mono ?_; rintro e w' ⟨rfl, rfl⟩)
  refine (refLimbs _ na (by omega) _).mono ?_
  rintro e w1 ⟨v1, rfl, hn1, hq1⟩
  go_wp2_with (go_at_call 44; refine (refMag _ (by omega) (by omega) _).mono ?_; rintro e w' ⟨rfl, rfl⟩)
  refine (refLimbs _ nb (by omega) _).mono ?_
  rintro e w2 ⟨v2, rfl, hn2, hq2⟩
  go_wp2_with fail
  refine (mulN _ _ _ _ _ (num_kept hn1 hq2) hn2 (big_word (by omega)) (big_word (by omega))).mono ?_
  rintro e w3 ⟨v3, rfl, hn3, hq3⟩
  go_wp2_with fail
  go_ret
  exact ⟨_, rfl, hn3, (hq1.trans hq2).trans hq3⟩

theorem sgn_cmp (a b : Int) : sgnI a b = cmpI (a * b) 0 := by
  unfold sgnI cmpI
  by_cases ha : a = 0
  · subst ha; simp
  by_cases hb : b = 0
  · subst hb; simp
  rw [if_neg (by omega)]
  rcases Int.lt_or_le a 0 with pa | pa <;> rcases Int.lt_or_le b 0 with pb | pb
  · have := Int.mul_pos_of_neg_of_neg pa pb
    rw [decide_eq_true pa, decide_eq_true pb, if_pos rfl, if_neg (by omega), if_neg (by omega)]
  · have := Int.mul_neg_of_neg_of_pos pa (show 0 < b by omega)
    rw [decide_eq_true pa, decide_eq_false (by omega), if_neg (by decide), if_pos (by omega)]
  · have := Int.mul_neg_of_pos_of_neg (show 0 < a by omega) pb
    rw [decide_eq_false (by omega), decide_eq_true pb, if_neg (by decide), if_pos (by omega)]
  · have := Int.mul_pos (show 0 < a by omega) (show 0 < b by omega)
    rw [decide_eq_false (by omega), decide_eq_false (by omega), if_pos rfl, if_neg (by omega), if_neg (by omega)]

theorem cmpI_zero_right (m : Int) : (m < 0 ∧ cmpI m 0 = -1) ∨ (m = 0 ∧ cmpI m 0 = 0) ∨ (0 < m ∧ cmpI m 0 = 1) := by
  unfold cmpI
  rcases Int.lt_trichotomy m 0 with h | h | h
  · left; exact ⟨h, if_pos h⟩
  · right; left; exact ⟨h, by rw [if_neg (by omega), if_pos h]⟩
  · right; right; exact ⟨h, by rw [if_neg (by omega), if_neg (by omega)]⟩

theorem cmpI_neg (m n : Int) : cmpI (-m) (-n) = -cmpI m n := by
  unfold cmpI
  rcases Int.lt_trichotomy m n with h | h | h
  · rw [if_neg (by omega), if_neg (by omega), if_pos h]; rfl
  · rw [if_neg (by omega), if_pos (by omega), if_neg (by omega), if_pos h]; rfl
  · rw [if_pos (by omega), if_neg (by omega), if_neg (by omega)]

theorem cmp_signs (m n : Int) (h : cmpI m 0 = cmpI n 0) : cmpI m 0 * cmpI (Mth.mag m) (Mth.mag n) = cmpI m n := by
  rcases cmpI_zero_right m with ⟨hm, em⟩ | ⟨hm, em⟩ | ⟨hm, em⟩ <;> rcases cmpI_zero_right n with ⟨hn, en⟩ | ⟨hn, en⟩ | ⟨hn, en⟩
  · have e1 : Mth.mag m = -m := if_pos hm
    have e2 : Mth.mag n = -n := if_pos hn
    rw [em, e1, e2, cmpI_neg]; omega
  · omega
  · omega
  · omega
  · subst hm hn; rw [em]; omega
  · omega
  · omega
  · omega
  · have e1 : Mth.mag m = m := if_neg (by omega)
    have e2 : Mth.mag n = n := if_neg (by omega)
    rw [em, e1, e2]; omega

theorem cmp_less (m n : Int) (h : cmpI m 0 < cmpI n 0) : cmpI m n = -1 := by
  unfold cmpI at h ⊢
  split at h <;> (try split at h) <;> (try split at h) <;> (try split at h) <;> (try split) <;> (try split) <;> omega

theorem refCmpW (a b c d : Int) (a1 : -9223372036854775808 ≤ a) (a2 : a ≤ 9223372036854775807) (b1 : -9223372036854775808 ≤ b) (b2 : b ≤ 9223372036854775807)
    (c1 : -9223372036854775808 ≤ c) (c2 : c ≤ 9223372036854775807) (d1 : -9223372036854775808 ≤ d) (d2 : d ≤ 9223372036854775807) (w : World) :
    Calls Try.prog 19 #[.int .i64 a, .int .i64 b, .int .i64 c, .int .i64 d] w fun e w' => e = .returned (.int .i64 (cmpI (a * b) (c * d))) ∧ Qw w w' := by
  have s1 := sgn_cmp a b
  have s2 := sgn_cmp c d
  have r1 := cmpI_range (a * b) 0
  have r2 := cmpI_range (c * d) 0
  have e1 := cmp_signs (a * b) (c * d)
  have e2 := cmp_less (a * b) (c * d)
  have e3 := cmp_less (c * d) (a * b)
  rw [cmpI_swap (a * b) (c * d)] at e3
  rw [← mag_mul, ← mag_mul] at e1
  have c3 := cmpI_range (Mth.mag a * Mth.mag b) (Mth.mag c * Mth.mag d)
  obtain ⟨K, eK⟩ : ∃ K, cmpI (Mth.mag a * Mth.mag b) (Mth.mag c * Mth.mag d) = K := ⟨_, rfl⟩
  have EK := Lib.hid eK
  rw [eK] at e1 c3
  clear eK
  generalize cmpI (a * b) (c * d) = z at *
  generalize cmpI (a * b) 0 = s at *
  generalize cmpI (c * d) 0 = t at *
  have S1 := Lib.hid s1; have S2 := Lib.hid s2
  have E1 := Lib.hid e1; have E2 := Lib.hid e2; have E3 := Lib.hid e3
  clear s1 s2 e1 e2 e3
  have cs : ∀ w, Calls Try.prog 34 #[.int .i64 a, .int .i64 b] w fun e w' => e = .returned (.int .i64 s) ∧ w = w' := fun w => by
    have := refSign a b w
    rw [S1.out] at this; exact this
  have ct : ∀ w, Calls Try.prog 34 #[.int .i64 c, .int .i64 d] w fun e w' => e = .returned (.int .i64 t) ∧ w = w' := fun w => by
    have := refSign c d w
    rw [S2.out] at this; exact this
  have Cs := Lib.hid cs; have Ct := Lib.hid ct
  clear cs ct
  rcases Int.lt_trichotomy s t with h | h | h
  · have d3 : decide (s < t) = true := decide_eq_true h
    have ez : z = -1 := E2.out h
    subst ez
    go_enter Try.func19, Try.ntmps19
    go_wp2_with (go_at_call 34; first | ((with_reducible refine (Cs.out _).mono ?_); rintro e w' ⟨rfl, rfl⟩) | ((with_reducible refine (Ct.out _).mono ?_); rintro e w' ⟨rfl, rfl⟩))
    go_ret
    exact ⟨rfl, Qw.refl _⟩
  · subst h
    have ez : s * K = z := E1.out rfl
    have Ez := Lib.hid ez
    have sk0 : -1 ≤ s * K := by have : s = -1 ∨ s = 0 ∨ s = 1 := by omega
                                rcases this with rfl | rfl | rfl <;> omega
    have sk1 : s * K ≤ 1 := by have : s = -1 ∨ s = 0 ∨ s = 1 := by omega
                               rcases this with rfl | rfl | rfl <;> omega
    clear ez
    have h1 : ¬ s < s := by omega
    go_enter Try.func19, Try.ntmps19
    go_wp2_with (go_at_call 34; first | ((with_reducible refine (Cs.out _).mono ?_); rintro e w' ⟨rfl, rfl⟩) | ((with_reducible refine (Ct.out _).mono ?_); rintro e w' ⟨rfl, rfl⟩))
    refine (refProduct a b a1 a2 b1 b2 _).mono ?_
    rintro e w1 ⟨v1, rfl, hn1, hq1⟩
    go_wp2_with fail
    refine (refProduct c d c1 c2 d1 d2 _).mono ?_
    rintro e w2 ⟨v2, rfl, hn2, hq2⟩
    go_wp2_with fail
    refine (refCmp _ _ _ _ _ (num_kept hn1 hq2) hn2).mono ?_
    rintro e w3 ⟨rfl, hq3⟩
    rw [EK.out]
    go_wp2_with fail
    go_ret
    exact ⟨ret_i64 Ez.out, (hq1.trans hq2).trans hq3⟩
  · have d3 : decide (s < t) = false := decide_eq_false (by omega)
    have d4 : decide (t < s) = true := decide_eq_true h
    have ez : z = 1 := by have := E3.out h; omega
    subst ez
    go_enter Try.func19, Try.ntmps19
    go_wp2_with (go_at_call 34; first | ((with_reducible refine (Cs.out _).mono ?_); rintro e w' ⟨rfl, rfl⟩) | ((with_reducible refine (Ct.out _).mono ?_); rintro e w' ⟨rfl, rfl⟩))
    go_ret
    exact ⟨rfl, Qw.refl _⟩

end Go.Proofs.Ytihdmhdhdlbifaa
