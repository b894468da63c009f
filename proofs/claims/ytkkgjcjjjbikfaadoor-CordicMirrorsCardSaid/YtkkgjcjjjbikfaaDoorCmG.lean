
/- Plain: the quarter in which a point lies, and its direction. -/
import Derived.Test.YtkkgjcjjjbikfaaDoorCmF
set_option linter.unusedVariables false
set_option linter.unusedSimpArgs false
namespace Go.Proofs.YtkkgjcjjjbikfaaDoor.Cm

/-- Quarter turns backward. -/
def bk : Nat → Int × Int → Int × Int
  | 0, p => p
  | j + 1, p => ((bk j p).2, -(bk j p).1)
/-- The point lies in the quarter about the axis. -/
def inQ (x y : Int) : Bool := decide (-x ≤ y) && decide (y < x)
/-- The quarter turns that lead a point back there. -/
def qn (x y : Int) : Nat := if inQ x y then 0 else if inQ y (-x) then 1 else if inQ (-x) (-y) then 2 else 3

theorem inQ_t {x y : Int} (h1 : -x ≤ y) (h2 : y < x) : inQ x y = true := by unfold inQ; simp; omega
theorem inQ_f {x y : Int} (h : y < -x ∨ x ≤ y) : inQ x y = false := by unfold inQ; simp; omega
theorem inQ_bd {x y : Int} (h : inQ x y = true) : -x ≤ y ∧ y < x := by unfold inQ at h; simpa using h
theorem inQ_no {x y : Int} (h : inQ x y = false) : y < -x ∨ x ≤ y := by
  by_cases c : -x ≤ y ∧ y < x
  · rw [inQ_t c.1 c.2] at h; cases h
  · omega

theorem qn_le (x y : Int) : qn x y ≤ 3 := by
  unfold qn
  split
  · omega
  · split
    · omega
    · split <;> omega

theorem bk_at (x y : Int) : bk 0 (x, y) = (x, y) ∧ bk 1 (x, y) = (y, -x) ∧ bk 2 (x, y) = (-x, -y) ∧ bk 3 (x, y) = (-y, x) := by simp [bk]

theorem qn_in (x y : Int) (h : ¬ (x = 0 ∧ y = 0)) : inQ (bk (qn x y) (x, y)).1 (bk (qn x y) (x, y)).2 = true := by
  obtain ⟨b0, b1, b2, b3⟩ := bk_at x y
  unfold qn
  cases c0 : inQ x y
  · cases c1 : inQ y (-x)
    · cases c2 : inQ (-x) (-y)
      · simp only [Bool.false_eq_true, if_false, b3]
        have := inQ_no c0
        have := inQ_no c1
        have := inQ_no c2
        exact inQ_t (by omega) (by omega)
      · simp only [Bool.false_eq_true, if_false, if_true, b2, c2]
    · simp only [Bool.false_eq_true, if_false, if_true, b1, c1]
  · simp only [if_true, b0, c0]

theorem qn_before (x y : Int) (j : Nat) (hj : j < qn x y) : inQ (bk j (x, y)).1 (bk j (x, y)).2 = false := by
  obtain ⟨b0, b1, b2, b3⟩ := bk_at x y
  unfold qn at hj
  cases c0 : inQ x y
  · rw [c0] at hj
    cases c1 : inQ y (-x)
    · rw [c1] at hj
      cases c2 : inQ (-x) (-y)
      · rw [c2] at hj
        simp at hj
        rcases (show j = 0 ∨ j = 1 ∨ j = 2 by omega) with rfl | rfl | rfl
        · rw [b0]; exact c0
        · rw [b1]; exact c1
        · rw [b2]; exact c2
      · rw [c2] at hj
        simp at hj
        rcases (show j = 0 ∨ j = 1 by omega) with rfl | rfl
        · rw [b0]; exact c0
        · rw [b1]; exact c1
    · rw [c1] at hj
      simp at hj
      obtain rfl : j = 0 := by omega
      rw [b0]; exact c0
  · rw [c0] at hj
    simp at hj

theorem bk_bd (x y b : Int) (h1 : -b ≤ x) (h2 : x ≤ b) (h3 : -b ≤ y) (h4 : y ≤ b) (j : Nat) : -b ≤ (bk j (x, y)).1 ∧ (bk j (x, y)).1 ≤ b ∧ -b ≤ (bk j (x, y)).2 ∧ (bk j (x, y)).2 ≤ b := by
  induction j with
  | zero => exact ⟨h1, h2, h3, h4⟩
  | succ j ih => simp only [bk]; omega

/-- What is left of the direction, in 10^-9 degrees. -/
def rz (x y : Int) : Int := (vs ((bk (qn x y) (x, y)).1 * 1048576) ((bk (qn x y) (x, y)).2 * 1048576) 26).2.2
/-- The same in millionths, rounded. -/
def rr (x y : Int) : Int := if (bk (qn x y) (x, y)).2 = 0 then 0 else (rz x y + 500) / 1000
/-- The direction. -/
def ang (x y : Int) : Int := ((qn x y : Int) * 90000000 + rr x y) % 360000000
/-- Whether a point has one. -/
def aok (x y : Int) : Bool := !(decide (x = 0) && decide (y = 0)) && decide (-1099511627776 ≤ x) && decide (x ≤ 1099511627776) && decide (-1099511627776 ≤ y) && decide (y ≤ 1099511627776)
def angv (x y : Int) : Int := if aok x y then ang x y else 0
theorem aok_t {x y : Int} (h : ¬ (x = 0 ∧ y = 0)) (h1 : -1099511627776 ≤ x) (h2 : x ≤ 1099511627776) (h3 : -1099511627776 ≤ y) (h4 : y ≤ 1099511627776) : aok x y = true := by
  unfold aok; simp; omega
theorem aok_f {x y : Int} (h : (x = 0 ∧ y = 0) ∨ x < -1099511627776 ∨ 1099511627776 < x ∨ y < -1099511627776 ∨ 1099511627776 < y) : aok x y = false := by
  cases c : aok x y
  · rfl
  · unfold aok at c; simp at c; omega

end Go.Proofs.YtkkgjcjjjbikfaaDoor.Cm
