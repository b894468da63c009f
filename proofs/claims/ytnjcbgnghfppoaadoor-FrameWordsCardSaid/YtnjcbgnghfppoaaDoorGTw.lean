import Derived.Test.YtnjcbgnghfppoaaDoorGP
import Derived.Test.YtnjcbgnghfppoaaDoorGSc

/- Plain: the targets of the laws' own blocks: words that replace or add, polar words at right angles. -/
set_option linter.unusedVariables false
set_option linter.unusedSimpArgs false
namespace Go.Proofs.YtnjcbgnghfppoaaDoor
open Go.RowKit

namespace Tg
theorem ln_mm {n : Int} (h1 : -100000 ≤ n) (h2 : n ≤ 100000) : lene (n * 1000) 21 = 0 ∧ lenv (n * 1000) 21 = n := by
  have e : ln (n * 1000) 21 = n := by unfold ln; rw [if_neg (by decide)]; omega
  have l : lene (n * 1000) 21 = 0 := by
    unfold lene
    rw [e, if_pos ⟨vld_t (by omega) (by omega), .inr rfl⟩, if_pos ⟨by omega, by omega⟩]
  exact ⟨l, by unfold lenv; rw [if_pos l]; exact e⟩
/-- The words as they are gathered. -/
def wl (b : Nat → Bool) (n : Nat → Int) : Nat → Vs.Ar
  | 0 => [(70, 77)]
  | k + 1 => if b k = true then wl b n k ++ [(88 + (k : Int), n k * 1000)] else wl b n k
/-- What is wanted. -/
def wt (b : Nat → Bool) (n : Nat → Int) (d at_ : Int) (k j : Nat) : Int := if j < k ∧ b j = true then (if d = 91 then n j + at_ else n j) else at_
theorem wl_len (b : Nat → Bool) (n : Nat → Int) (k : Nat) : 1 ≤ (wl b n k).length ∧ (wl b n k).length ≤ k + 1 := by
  induction k with
  | zero => simp [wl]
  | succ k ih =>
    unfold wl
    split
    · rw [List.length_append]; simp; omega
    · omega
theorem wl_words (b : Nat → Bool) (n : Nat → Int) (k : Nat) (hk : k ≤ 3) : ∀ p ∈ wl b n k, (p = (70, 77) ∨ ∃ j, j < k ∧ b j = true ∧ p = (88 + (j : Int), n j * 1000)) := by
  induction k with
  | zero => intro p hp; exact .inl (by simpa [wl] using hp)
  | succ k ih =>
    intro p hp
    unfold wl at hp
    split at hp
    · rename_i c
      rcases List.mem_append.1 hp with h | h
      · rcases ih (by omega) p h with e | ⟨j, hj, hb, e⟩
        · exact .inl e
        · exact .inr ⟨j, by omega, hb, e⟩
      · exact .inr ⟨k, by omega, c, by simpa using h⟩
    · rcases ih (by omega) p hp with e | ⟨j, hj, hb, e⟩
      · exact .inl e
      · exact .inr ⟨j, by omega, hb, e⟩
theorem wl_fnd (b : Nat → Bool) (n : Nat → Int) (j : Nat) (hj : j < 3) : Md.fnd (wl b n 3) (88 + (j : Int)) = if b j = true then some (n j * 1000) else none := by
  rcases (show j = 0 ∨ j = 1 ∨ j = 2 by omega) with rfl | rfl | rfl <;> cases h0 : b 0 <;> cases h1 : b 1 <;> cases h2 : b 2 <;> simp [Md.fnd, wl, h0, h1, h2]
theorem wl_any (b : Nat → Bool) (n : Nat → Int) : any (wl b n 3) = decide (1 < (wl b n 3).length) := by
  have e0 := wl_fnd b n 0 (by omega)
  have e1 := wl_fnd b n 1 (by omega)
  have e2 := wl_fnd b n 2 (by omega)
  unfold any thr Md.fo
  simp only [Int.natCast_zero, Int.natCast_one, Int.cast_ofNat_Int] at e0 e1 e2
  rw [show (88 + 0 : Int) = 88 + ((0 : Nat) : Int) from rfl, show (88 + 1 : Int) = 88 + ((1 : Nat) : Int) from rfl, show (88 + 2 : Int) = 88 + ((2 : Nat) : Int) from rfl, wl_fnd b n 0 (by omega), wl_fnd b n 1 (by omega), wl_fnd b n 2 (by omega)]
  cases h0 : b 0 <;> cases h1 : b 1 <;> cases h2 : b 2 <;> simp [wl, h0, h1, h2]
theorem wl_cd (b : Nat → Bool) (n : Nat → Int) (hn : ∀ j, -90000 ≤ n j ∧ n j ≤ 90000) (d at_ : Int) (j : Nat) (hj : j < 3) : cd (wl b n 3) 17 d 21 15 (j : Int) at_ = wt b n d at_ 3 j ∧ we (wl b n 3) 21 (-1) (j : Int) = 0 := by
  have e := wl_fnd b n j hj
  have t : thr (wl b n 3) (j : Int) = b j := by unfold thr Md.fo; rw [e]; cases b j <;> rfl
  have l := ln_mm (n := n j) (by have := hn j; omega) (by have := hn j; omega)
  have f : b j = true → Md.fv (wl b n 3) (88 + (j : Int)) = n j * 1000 := fun h => by unfold Md.fv; rw [e, if_pos h]; rfl
  have nj : ¬ ((j : Int) = -1) := by omega
  refine ⟨?_, ?_⟩
  · unfold cd wt pn
    rw [t, if_neg (show ¬ ((15 : Int) = 16) by decide)]
    unfold wn
    rw [t]
    cases hb : b j
    · simp
    · simp only [if_true, hj, true_and, nj, if_false, f hb, l.2, and_true]
      by_cases h9 : d = 91
      · rw [if_pos h9, if_pos h9]; omega
      · rw [if_neg h9, if_neg h9]
  · unfold we
    rw [t]
    cases hb : b j
    · rfl
    · rw [if_pos rfl, if_neg nj, f hb, l.1]
theorem wl_target (b : Nat → Bool) (n : Nat → Int) (hn : ∀ j, -90000 ≤ n j ∧ n j ≤ 90000) (d x y z : Int) (hx : -100000 ≤ x ∧ x ≤ 100000) (hy : -100000 ≤ y ∧ y ≤ 100000) (hz : -100000 ≤ z ∧ z ≤ 100000) :
    err (wl b n 3) 17 d 21 15 x y z = 0 ∧ val (wl b n 3) 17 d 21 15 x y z (cd (wl b n 3) 17 d 21 15 0 x) = wt b n d x 3 0 ∧ val (wl b n 3) 17 d 21 15 x y z (cd (wl b n 3) 17 d 21 15 1 y) = wt b n d y 3 1 ∧ val (wl b n 3) 17 d 21 15 x y z (cd (wl b n 3) 17 d 21 15 2 z) = wt b n d z 3 2 ∧
    has (wl b n 3) 17 d 21 15 x y z = decide (1 < (wl b n 3).length) := by
  have c0 := wl_cd b n hn d x 0 (by omega)
  have c1 := wl_cd b n hn d y 1 (by omega)
  have c2 := wl_cd b n hn d z 2 (by omega)
  have bd : ∀ a k j, -100000 ≤ a ∧ a ≤ 100000 → -1048576 ≤ wt b n d a k j ∧ wt b n d a k j ≤ 1048576 := fun a k j h => by
    have := hn j
    unfold wt
    repeat' split
    all_goals omega
  have w0 : wth x y z = true := Fm.wth_of (by omega) (by omega) (by omega)
  have w1 : wth (wt b n d x 3 0) (wt b n d y 3 1) (wt b n d z 3 2) = true := Fm.wth_of (bd _ _ _ hx) (bd _ _ _ hy) (bd _ _ _ hz)
  have k0 : cd (wl b n 3) 17 d 21 15 0 x = wt b n d x 3 0 := c0.1
  have k1 : cd (wl b n 3) 17 d 21 15 1 y = wt b n d y 3 1 := c1.1
  have k2 : cd (wl b n 3) 17 d 21 15 2 z = wt b n d z 3 2 := c2.1
  have u0 : we (wl b n 3) 21 (-1) 0 = 0 := c0.2
  have u1 : we (wl b n 3) 21 (-1) 1 = 0 := c1.2
  have u2 : we (wl b n 3) 21 (-1) 2 = 0 := c2.2
  have p : pe (wl b n 3) 17 21 15 = 0 := by
    unfold pe ax e3
    rw [if_neg (show ¬ ((15 : Int) = 16) by decide), u0, u1, u2, if_pos rfl, if_pos rfl, if_pos rfl, if_neg (fun h => absurd h.1 (by decide))]
  have e : err (wl b n 3) 17 d 21 15 x y z = 0 := by
    unfold err
    rw [if_pos w0, if_pos p, k0, k1, k2]
    unfold Fm.cve
    rw [if_pos w1]
  refine ⟨e, ?_, ?_, ?_, ?_⟩
  · unfold val; rw [if_pos e, k0]
  · unfold val; rw [if_pos e, k1]
  · unfold val; rw [if_pos e, k2]
  · unfold has; rw [if_pos e, wl_any]
/-! ### polar words at right angles -/
theorem ah_ne {p : Int} (h1 : 17 ≤ p) (h2 : p ≤ 19) : au p ≠ aw p := axes_ne h1 h2
theorem pl_fnd {p r k : Int} (h1 : 17 ≤ p) (h2 : p ≤ 19) : Md.fnd [(88 + aw p, k * 90000000), (88 + au p, r * 1000)] (88 + au p) = some (r * 1000) ∧ Md.fnd [(88 + aw p, k * 90000000), (88 + au p, r * 1000)] (88 + aw p) = some (k * 90000000) ∧ Md.fnd [(88 + aw p, k * 90000000), (88 + au p, r * 1000)] (88 + fh p 0 1 2) = none := by
  rcases planes h1 h2 with rfl | rfl | rfl <;> simp [Md.fnd, au, aw, fu, fw, fh]
theorem pl_target (p r k d x y z : Int) (h1 : 17 ≤ p) (h2 : p ≤ 19) (r1 : -90000 ≤ r) (r2 : r ≤ 90000) (hd : d = 90 ∨ d = 91) (hx : -100000 ≤ x ∧ x ≤ 100000) (hy : -100000 ≤ y ∧ y ≤ 100000) (hz : -100000 ≤ z ∧ z ≤ 100000) :
    err [(88 + aw p, k * 90000000), (88 + au p, r * 1000)] p d 21 16 x y z = 0 ∧ has [(88 + aw p, k * 90000000), (88 + au p, r * 1000)] p d 21 16 x y z = true ∧
    val [(88 + aw p, k * 90000000), (88 + au p, r * 1000)] p d 21 16 x y z (cd [(88 + aw p, k * 90000000), (88 + au p, r * 1000)] p d 21 16 0 x) = sx p ((if d = 91 then fu p x y z else 0) + (Cm.qt (k % 4).toNat (r, 0)).1) ((if d = 91 then fw p x y z else 0) + (Cm.qt (k % 4).toNat (r, 0)).2) (fh p x y z) ∧
    val [(88 + aw p, k * 90000000), (88 + au p, r * 1000)] p d 21 16 x y z (cd [(88 + aw p, k * 90000000), (88 + au p, r * 1000)] p d 21 16 1 y) = sy p ((if d = 91 then fu p x y z else 0) + (Cm.qt (k % 4).toNat (r, 0)).1) ((if d = 91 then fw p x y z else 0) + (Cm.qt (k % 4).toNat (r, 0)).2) (fh p x y z) ∧
    val [(88 + aw p, k * 90000000), (88 + au p, r * 1000)] p d 21 16 x y z (cd [(88 + aw p, k * 90000000), (88 + au p, r * 1000)] p d 21 16 2 z) = sz p ((if d = 91 then fu p x y z else 0) + (Cm.qt (k % 4).toNat (r, 0)).1) ((if d = 91 then fw p x y z else 0) + (Cm.qt (k % 4).toNat (r, 0)).2) (fh p x y z) := by
  obtain ⟨f1, f2, f3⟩ := pl_fnd (r := r) (k := k) h1 h2
  have lm := ln_mm (n := r) (by omega) (by omega)
  have rl := right_law r 0 k (by omega) (by omega) (by omega) (by omega)
  have qb : (-90000 ≤ (Cm.qt (k % 4).toNat (r, 0)).1 ∧ (Cm.qt (k % 4).toNat (r, 0)).1 ≤ 90000) ∧ (-90000 ≤ (Cm.qt (k % 4).toNat (r, 0)).2 ∧ (Cm.qt (k % 4).toNat (r, 0)).2 ≤ 90000) := by
    rcases (show k % 4 = 0 ∨ k % 4 = 1 ∨ k % 4 = 2 ∨ k % 4 = 3 by omega) with e | e | e | e <;> rw [e] <;> simp [Cm.qt] <;> omega
  generalize hL : [(88 + aw p, k * 90000000), (88 + au p, r * 1000)] = L at *
  generalize Cm.qt (k % 4).toNat (r, 0) = q at *
  obtain ⟨q1, q2⟩ := q
  simp only at qb ⊢
  have t1 : thr L (au p) = true := by unfold thr Md.fo; rw [f1]; rfl
  have t2 : thr L (aw p) = true := by unfold thr Md.fo; rw [f2]; rfl
  have t3 : thr L (fh p 0 1 2) = false := by unfold thr Md.fo; rw [f3]; rfl
  have v1 : Md.fv L (88 + au p) = r * 1000 := by unfold Md.fv; rw [f1]; rfl
  have v2 : Md.fv L (88 + aw p) = k * 90000000 := by unfold Md.fv; rw [f2]; rfl
  have n1 : wn L 21 (aw p) (au p) = r := by unfold wn; rw [t1, if_pos rfl, if_neg (axes_ne h1 h2), v1, lm.2]
  have n2 : wn L 21 (aw p) (aw p) = k * 90000000 := by unfold wn; rw [t2, if_pos rfl, if_pos rfl, v2]
  have g1 : we L 21 (aw p) (au p) = 0 := by unfold we; rw [t1, if_pos rfl, if_neg (axes_ne h1 h2), v1, lm.1]
  have g2 : we L 21 (aw p) (aw p) = 0 := by unfold we; rw [t2, if_pos rfl, if_pos rfl]
  have g3 : we L 21 (aw p) (fh p 0 1 2) = 0 := by unfold we; rw [t3]; rfl
  have m1 : pn L p 21 16 (au p) = q1 := by unfold pn; rw [if_pos rfl, if_pos rfl, n1, n2, rl]
  have m2 : pn L p 21 16 (aw p) = q2 := by unfold pn; rw [if_pos rfl, if_neg (fun h => axes_ne h1 h2 h.symm), if_pos rfl, n1, n2, rl]
  have w0 : wth x y z = true := Fm.wth_of (by omega) (by omega) (by omega)
  have ex : ax p 16 = aw p := rfl
  have pe0 : pe L p 21 16 = 0 := by
    unfold pe
    have : e3 L 21 (ax p 16) = 0 := by
      rw [ex]
      unfold e3
      rcases planes h1 h2 with rfl | rfl | rfl
      · rw [show we L 21 (aw 17) 0 = 0 from g1, show we L 21 (aw 17) 1 = 0 from g2, show we L 21 (aw 17) 2 = 0 from g3]; rfl
      · rw [show we L 21 (aw 18) 2 = 0 from g1, show we L 21 (aw 18) 0 = 0 from g2, show we L 21 (aw 18) 1 = 0 from g3]; rfl
      · rw [show we L 21 (aw 19) 1 = 0 from g1, show we L 21 (aw 19) 2 = 0 from g2, show we L 21 (aw 19) 0 = 0 from g3]; rfl
    rw [if_pos this, t1, t2, if_neg (by simp)]
  have c0 : cd L p d 21 16 0 x = sx p ((if d = 91 then fu p x y z else 0) + q1) ((if d = 91 then fw p x y z else 0) + q2) (fh p x y z) := by
    unfold cd
    rcases planes h1 h2 with rfl | rfl | rfl
    · rw [show thr L 0 = true from t1, show pn L 17 21 16 0 = q1 from m1, if_pos rfl]; show _ = (if d = 91 then x else 0) + q1; split <;> omega
    · rw [show thr L 0 = true from t2, show pn L 18 21 16 0 = q2 from m2, if_pos rfl]; show _ = (if d = 91 then x else 0) + q2; split <;> omega
    · rw [show thr L 0 = false from t3]; rfl
  have c1 : cd L p d 21 16 1 y = sy p ((if d = 91 then fu p x y z else 0) + q1) ((if d = 91 then fw p x y z else 0) + q2) (fh p x y z) := by
    unfold cd
    rcases planes h1 h2 with rfl | rfl | rfl
    · rw [show thr L 1 = true from t2, show pn L 17 21 16 1 = q2 from m2, if_pos rfl]; show _ = (if d = 91 then y else 0) + q2; split <;> omega
    · rw [show thr L 1 = false from t3]; rfl
    · rw [show thr L 1 = true from t1, show pn L 19 21 16 1 = q1 from m1, if_pos rfl]; show _ = (if d = 91 then y else 0) + q1; split <;> omega
  have c2 : cd L p d 21 16 2 z = sz p ((if d = 91 then fu p x y z else 0) + q1) ((if d = 91 then fw p x y z else 0) + q2) (fh p x y z) := by
    unfold cd
    rcases planes h1 h2 with rfl | rfl | rfl
    · rw [show thr L 2 = false from t3]; rfl
    · rw [show thr L 2 = true from t1, show pn L 18 21 16 2 = q1 from m1, if_pos rfl]; show _ = (if d = 91 then z else 0) + q1; split <;> omega
    · rw [show thr L 2 = true from t2, show pn L 19 21 16 2 = q2 from m2, if_pos rfl]; show _ = (if d = 91 then z else 0) + q2; split <;> omega
  have fb := Fm.f_bd (p := p) (B := 100000) (by decide) hx hy hz
  have sb := Fm.s_bd (p := p) (B := 190000) (x := (if d = 91 then fu p x y z else 0) + q1) (y := (if d = 91 then fw p x y z else 0) + q2) (z := fh p x y z) (by decide) (by split <;> omega) (by split <;> omega) (by omega)
  have w1 : wth (cd L p d 21 16 0 x) (cd L p d 21 16 1 y) (cd L p d 21 16 2 z) = true := by rw [c0, c1, c2]; exact Fm.wth_of (by omega) (by omega) (by omega)
  have e : err L p d 21 16 x y z = 0 := by
    unfold err
    rw [if_pos w0, if_pos pe0]
    unfold Fm.cve
    rw [if_pos w1]
  have an : any L = true := by
    unfold any
    rcases planes h1 h2 with rfl | rfl | rfl
    · rw [show thr L 0 = true from t1]; rfl
    · rw [show thr L 0 = true from t2]; rfl
    · rw [show thr L 1 = true from t1]; simp
  refine ⟨e, ?_, ?_, ?_, ?_⟩
  · unfold has; rw [if_pos e, an]
  · unfold val; rw [if_pos e, c0]
  · unfold val; rw [if_pos e, c1]
  · unfold val; rw [if_pos e, c2]
theorem qt_bd {r : Int} (r1 : -90000 ≤ r) (r2 : r ≤ 90000) : ∀ i : Nat, (-90000 ≤ (Cm.qt i (r, 0)).1 ∧ (Cm.qt i (r, 0)).1 ≤ 90000) ∧ (-90000 ≤ (Cm.qt i (r, 0)).2 ∧ (Cm.qt i (r, 0)).2 ≤ 90000) := by
  intro i
  induction i with
  | zero => simp [Cm.qt]; omega
  | succ i ih => simp only [Cm.qt]; omega
theorem po_err (p r d x y z : Int) (h1 : 17 ≤ p) (h2 : p ≤ 19) (r1 : -90000 ≤ r) (r2 : r ≤ 90000) (hx : -100000 ≤ x ∧ x ≤ 100000) (hy : -100000 ≤ y ∧ y ≤ 100000) (hz : -100000 ≤ z ∧ z ≤ 100000) :
    err [(88 + au p, r * 1000)] p d 21 16 x y z = 9 := by
  have f1 : Md.fnd [(88 + au p, r * 1000)] (88 + au p) = some (r * 1000) := by simp [Md.fnd]
  have f2 : ∀ j, j ≠ au p → Md.fnd [(88 + au p, r * 1000)] (88 + j) = none := fun j hj => by
    simp only [Md.fnd, List.find?_cons, List.find?_nil]
    rw [decide_eq_false (show ¬ (88 + au p = 88 + j) by omega)]; rfl
  have lm := ln_mm (n := r) (by omega) (by omega)
  generalize [(88 + au p, r * 1000)] = L at *
  have t1 : thr L (au p) = true := by unfold thr Md.fo; rw [f1]; rfl
  have tn : ∀ j, j ≠ au p → thr L j = false := fun j hj => by unfold thr Md.fo; rw [f2 j hj]; rfl
  have v1 : Md.fv L (88 + au p) = r * 1000 := by unfold Md.fv; rw [f1]; rfl
  have g : ∀ j, we L 21 (aw p) j = 0 := fun j => by
    unfold we
    by_cases e : j = au p
    · subst e
      rw [t1, if_pos rfl, if_neg (axes_ne h1 h2), v1, lm.1]
    · rw [tn j e]; rfl
  unfold err
  rw [if_pos (Fm.wth_of (by omega) (by omega) (by omega))]
  have : pe L p 21 16 = 9 := by
    unfold pe
    rw [show ax p 16 = aw p from rfl]
    unfold e3
    rw [g, g, g, t1, tn (aw p) (fun h => axes_ne h1 h2 h.symm)]
    decide
  rw [this]; rfl
end Tg
end Go.Proofs.YtnjcbgnghfppoaaDoor
