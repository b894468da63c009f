
/- Plain: distances of points with integer coordinates, and products of such points as complex numbers. -/
set_option linter.unusedVariables false
set_option linter.unusedSimpArgs false
namespace Go.Proofs.YtkkgjcjjjbikfaaDoor.Cm

theorem le_of_sq {x y : Int} (h0 : 0 ≤ y) (h : x * x ≤ y * y) : x ≤ y := by
  by_cases c : x ≤ y
  · exact c
  · have c' : y + 1 ≤ x := by omega
    have m := Int.mul_le_mul c' c' (by omega) (by omega)
    have e : (y + 1) * (y + 1) = y * y + 2 * y + 1 := by
      simp only [Int.mul_add, Int.add_mul]; omega
    omega

theorem sq_nonneg (x : Int) : 0 ≤ x * x := by
  by_cases c : 0 ≤ x
  · exact Int.mul_nonneg c c
  · have := Int.mul_nonneg (show 0 ≤ -x by omega) (show 0 ≤ -x by omega)
    rwa [Int.neg_mul_neg] at this

theorem sq_mono {x y : Int} (h0 : 0 ≤ x) (h : x ≤ y) : x * x ≤ y * y := Int.mul_le_mul h h h0 (by omega)

/-- |x| ≤ y. -/
theorem sq_abs {x y : Int} (h1 : -y ≤ x) (h2 : x ≤ y) : x * x ≤ y * y := by
  by_cases c : 0 ≤ x
  · exact sq_mono c h2
  · have := sq_mono (show 0 ≤ -x by omega) (show -x ≤ y by omega)
    rwa [Int.neg_mul_neg] at this

theorem mul_abs {x y X Y : Int} (h1 : -X ≤ x) (h2 : x ≤ X) (h3 : -Y ≤ y) (h4 : y ≤ Y) : -(X * Y) ≤ x * y ∧ x * y ≤ X * Y := by
  have a := sq_abs h1 h2
  have b := sq_abs h3 h4
  have m := Int.mul_le_mul a b (sq_nonneg y) (sq_nonneg X)
  have e1 : x * y * (x * y) = x * x * (y * y) := by simp only [Int.mul_assoc, Int.mul_comm, Int.mul_left_comm]
  have e2 : X * Y * (X * Y) = X * X * (Y * Y) := by simp only [Int.mul_assoc, Int.mul_comm, Int.mul_left_comm]
  have p : 0 ≤ X * Y := Int.mul_nonneg (by omega) (by omega)
  have u := le_of_sq p (x := x * y) (by rw [e1, e2]; exact m)
  have v := le_of_sq p (x := -(x * y)) (by rw [Int.neg_mul_neg, e1, e2]; exact m)
  omega

/-- The point (a, b) is at most E away from the origin. -/
def nm (a b E : Int) : Prop := 0 ≤ E ∧ a * a + b * b ≤ E * E

theorem nm_nonneg {a b E : Int} (h : nm a b E) : 0 ≤ E := h.1

theorem cauchy (a b c d : Int) : (a * c + b * d) * (a * c + b * d) ≤ (a * a + b * b) * (c * c + d * d) := by
  have h := sq_nonneg (a * d - b * c)
  simp only [Int.mul_add, Int.add_mul, Int.sub_mul, Int.mul_sub, Int.mul_assoc, Int.mul_comm, Int.mul_left_comm] at h ⊢
  omega

theorem nm_add {a b c d E F : Int} (h : nm a b E) (k : nm c d F) : nm (a + c) (b + d) (E + F) := by
  obtain ⟨h0, h⟩ := h
  obtain ⟨k0, k⟩ := k
  have hk : a * c + b * d ≤ E * F := by
    refine le_of_sq (Int.mul_nonneg h0 k0) (Int.le_trans (cauchy a b c d) ?_)
    have m := Int.mul_le_mul h k (Int.add_nonneg (sq_nonneg c) (sq_nonneg d)) (sq_nonneg E)
    have e : E * F * (E * F) = E * E * (F * F) := by simp only [Int.mul_assoc, Int.mul_comm, Int.mul_left_comm]
    rw [e]; exact m
  refine ⟨by omega, ?_⟩
  simp only [Int.mul_add, Int.add_mul]
  have e1 : c * a = a * c := Int.mul_comm _ _
  have e2 : d * b = b * d := Int.mul_comm _ _
  have e3 : F * E = E * F := Int.mul_comm _ _
  omega

theorem nm_neg {a b E : Int} (h : nm a b E) : nm (-a) (-b) E := by
  obtain ⟨h0, h⟩ := h
  exact ⟨h0, by rw [Int.neg_mul_neg, Int.neg_mul_neg]; exact h⟩

theorem nm_conj {a b E : Int} (h : nm a b E) : nm a (-b) E := by
  obtain ⟨h0, h⟩ := h
  exact ⟨h0, by rw [Int.neg_mul_neg]; exact h⟩

/-- A quarter turn. -/
theorem nm_quarter {a b E : Int} (h : nm a b E) : nm (-b) a E := by
  obtain ⟨h0, h⟩ := h
  exact ⟨h0, by rw [Int.neg_mul_neg]; omega⟩

theorem nm_sub {a b c d E F : Int} (h : nm a b E) (k : nm c d F) : nm (a - c) (b - d) (E + F) := by
  have := nm_add h (nm_neg k)
  rwa [← Int.sub_eq_add_neg, ← Int.sub_eq_add_neg] at this

theorem nm_mono {a b E F : Int} (h : nm a b E) (hF : E ≤ F) : nm a b F := by
  obtain ⟨h0, h⟩ := h
  exact ⟨by omega, Int.le_trans h (sq_mono h0 hF)⟩

theorem nm_mul {a b c d E F : Int} (h : nm a b E) (k : nm c d F) : nm (a * c - b * d) (a * d + b * c) (E * F) := by
  obtain ⟨h0, h⟩ := h
  obtain ⟨k0, k⟩ := k
  refine ⟨Int.mul_nonneg h0 k0, ?_⟩
  have m := Int.mul_le_mul h k (Int.add_nonneg (sq_nonneg c) (sq_nonneg d)) (sq_nonneg E)
  simp only [Int.mul_add, Int.add_mul, Int.sub_mul, Int.mul_sub, Int.mul_assoc, Int.mul_comm, Int.mul_left_comm] at m ⊢
  omega

theorem nm_scale {a b E k : Int} (hk : 0 ≤ k) (h : nm a b E) : nm (k * a) (k * b) (k * E) := by
  have := nm_mul (show nm k 0 k from ⟨hk, by omega⟩) h
  simpa using this

theorem nm_cancel {a b E k : Int} (hk : 0 < k) (h : nm (k * a) (k * b) (k * E)) : nm a b E := by
  obtain ⟨h0, h⟩ := h
  refine ⟨?_, ?_⟩
  · by_cases c : 0 ≤ E
    · exact c
    · have := Int.mul_lt_mul_of_pos_left (show E < 0 by omega) hk
      omega
  · refine Int.le_of_mul_le_mul_left ?_ (Int.mul_pos hk hk)
    simp only [Int.mul_add, Int.add_mul, Int.mul_assoc, Int.mul_comm, Int.mul_left_comm] at h ⊢
    omega

theorem nm_re {a b E : Int} (h : nm a b E) : -E ≤ a ∧ a ≤ E := by
  obtain ⟨h0, h⟩ := h
  have hb := sq_nonneg b
  refine ⟨?_, le_of_sq h0 (by omega)⟩
  have := le_of_sq (x := -a) h0 (by rw [Int.neg_mul_neg]; omega)
  omega

theorem nm_im {a b E : Int} (h : nm a b E) : -E ≤ b ∧ b ≤ E := by
  obtain ⟨h0, h⟩ := h
  have ha := sq_nonneg a
  refine ⟨?_, le_of_sq h0 (by omega)⟩
  have := le_of_sq (x := -b) h0 (by rw [Int.neg_mul_neg]; omega)
  omega

/-- A point whose coordinates are at most p. -/
theorem nm_box {a b p E : Int} (h1 : -p ≤ a) (h2 : a ≤ p) (h3 : -p ≤ b) (h4 : b ≤ p) (hE : 0 ≤ E) (h : 2 * (p * p) ≤ E * E) : nm a b E := by
  have x := sq_abs h1 h2
  have y := sq_abs h3 h4
  exact ⟨hE, by omega⟩

theorem nm_zero : nm 0 0 0 := ⟨by decide, by decide⟩

/-- A point of known length. -/
theorem nm_of_sq {a b E : Int} (h0 : 0 ≤ E) (h : a * a + b * b = E * E) : nm a b E := ⟨h0, by omega⟩

/-! ### complex numbers with integer parts -/

structure Cx where
  re : Int
  im : Int

def mul (x y : Cx) : Cx := ⟨x.re * y.re - x.im * y.im, x.re * y.im + x.im * y.re⟩
def cj (x : Cx) : Cx := ⟨x.re, -x.im⟩
def sm (k : Int) (x : Cx) : Cx := ⟨k * x.re, k * x.im⟩

theorem cx_ext {x y : Cx} (h1 : x.re = y.re) (h2 : x.im = y.im) : x = y := by
  cases x; cases y; simp_all

theorem mul_comm (x y : Cx) : mul x y = mul y x := by
  refine cx_ext ?_ ?_
  · simp only [mul, Int.mul_comm]
  · simp only [mul, Int.mul_comm]; omega

theorem mul_assoc (x y z : Cx) : mul (mul x y) z = mul x (mul y z) := by
  refine cx_ext ?_ ?_
  all_goals
    simp only [mul, Int.mul_add, Int.add_mul, Int.sub_mul, Int.mul_sub, Int.mul_assoc]
    omega

theorem mul_left_comm (x y z : Cx) : mul x (mul y z) = mul y (mul x z) := by
  rw [← mul_assoc, mul_comm x y, mul_assoc]

theorem cj_mul (x y : Cx) : cj (mul x y) = mul (cj x) (cj y) := by
  refine cx_ext ?_ ?_
  all_goals
    simp only [mul, cj, Int.neg_mul, Int.mul_neg]
    omega

theorem mul_cj (x : Cx) : mul x (cj x) = ⟨x.re * x.re + x.im * x.im, 0⟩ := by
  refine cx_ext ?_ ?_
  · simp only [mul, cj, Int.mul_neg]; omega
  · have := Int.mul_comm x.re x.im
    simp only [mul, cj, Int.mul_neg]; omega

theorem one_mul (x : Cx) : mul ⟨1, 0⟩ x = x := by
  refine cx_ext ?_ ?_
  all_goals simp [mul]

theorem real_mul (k : Int) (x : Cx) : mul ⟨k, 0⟩ x = sm k x := by
  refine cx_ext ?_ ?_
  all_goals simp [mul, sm]

/-- The powers of a complex number. -/
def pw (w : Cx) : Nat → Cx
  | 0 => ⟨1, 0⟩
  | n + 1 => mul (pw w n) w

theorem pw_add (w : Cx) (m n : Nat) : pw w (m + n) = mul (pw w m) (pw w n) := by
  induction n with
  | zero => rw [Nat.add_zero, pw, mul_comm, one_mul]
  | succ n ih => rw [← Nat.add_assoc, pw, ih, pw, mul_assoc]

theorem pw_cj (w : Cx) (n : Nat) : mul (pw w n) (cj (pw w n)) = ⟨(w.re * w.re + w.im * w.im) ^ n, 0⟩ := by
  induction n with
  | zero => refine cx_ext ?_ ?_ <;> simp [pw, mul, cj]
  | succ n ih =>
    rw [pw, cj_mul, mul_assoc, mul_left_comm w, ← mul_assoc, ih, mul_cj]
    refine cx_ext ?_ ?_
    · simp [mul, Int.pow_succ]
    · simp [mul]

end Go.Proofs.YtkkgjcjjjbikfaaDoor.Cm
