
/- Plain: distances of points with integer coordinates, and products of such points as complex numbers. -/
set_option linter.unusedVariables false
set_option linter.unusedSimpArgs false
namespace Go.Proofs.YtnjcbgnghfppoaaDoor.Cm

theorem le_of_sq {x y : Int} (h0 : 0 ≤ y) (h : x * x ≤ y * y) : x ≤ y := by
  by_cases c : x ≤ y
  · exact c
  · have c' : y + 1 ≤ x := by omega
    have m := Int.mul_le_mul c' c' (by omega) (by omega)
    have e : (y + 1) * (y + 1) = y * y + 2 * y + 1 := by
      simp only [Int.mul_add, Int.add_mul]; omega
    omega

theorem sq_nonneg (x : Int) : 0 ≤ x * x := by
  by_cases c : 0 ≤ x
  · exact Int.mul_nonneg c c
  · have := Int.mul_nonneg (show 0 ≤ -x by omega) (show 0 ≤ -x by omega)
    rwa [Int.neg_mul_neg] at this

theorem sq_mono {x y : Int} (h0 : 0 ≤ x) (h : x ≤ y) : x * x ≤ y * y := Int.mul_le_mul h h h0 (by omega)

/-- |x| ≤ y. -/
theorem sq_abs {x y : Int} (h1 : -y ≤ x) (h2 : x ≤ y) : x * x ≤ y * y := by
  by_cases c : 0 ≤ x
  · exact sq_mono c h2
  · have := sq_mono (show 0 ≤ -x by omega) (show -x ≤ y by omega)
    rwa [Int.neg_mul_neg] at this

theorem mul_abs {x y X Y : Int} (h1 : -X ≤ x) (h2 : x ≤ X) (h3 : -Y ≤ y) (h4 : y ≤ Y) : -(X * Y) ≤ x * y ∧ x * y ≤ X * Y := by
  have a := sq_abs h1 h2
  have b := sq_abs h3 h4
  have m := Int.mul_le_mul a b (sq_nonneg y) (sq_nonneg X)
  have e1 : x * y * (x * y) = x * x * (y * y) := by simp only [Int.mul_assoc, Int.mul_comm, Int.mul_left_comm]
  have e2 : X * Y * (X * Y) = X * X * (Y * Y) := by simp only [Int.mul_assoc, Int.mul_comm, Int.mul_left_comm]
  have p : 0 ≤ X * Y := Int.mul_nonneg (by omega) (by omega)
  have u := le_of_sq p (x := x * y) (by rw [e1, e2]; exact m)
  have v := le_of_sq p (x := -(x * y)) (by rw [Int.neg_mul_neg, e1, e2]; exact m)
  omega

/-- The point (a, b) is at most E away from the origin. -/
def nm (a b E : Int) : Prop := 0 ≤ E ∧ a * a + b * b ≤ E * E

theorem nm_nonneg {a b E : Int} (h : nm a b E) : 0 ≤ E := h.1

theorem cauchy (a b c d : Int) : (a * c + b * d) * (a * c + b * d) ≤ (a * a + b * b) * (c * c + d * d) := by
  have h := sq_nonneg (a * d - b * c)
  simp only [Int.mul_add, Int.add_mul, Int.sub_mul, Int.mul_sub, Int.mul_assoc, Int.mul_comm, Int.mul_left_comm] at h ⊢
  omega

theorem nm_add {a b c d E F : Int} (h : nm a b E) (k : nm c d F) : nm (a + c) (b + d) (E + F) := by
  obtain ⟨h0, h⟩ := h
  obtain ⟨k0, k⟩ := k
  have hk : a * c + b * d ≤ E * F := by
    refine le_of_sq (Int.mul_nonneg h0 k0) (Int.le_trans (cauchy a b c d) ?_)
    have m := Int.mul_le_mul h k (Int.add_nonneg (sq_nonneg c) (sq_nonneg d)) (sq_nonneg E)
    have e : E * F * (E * F) = E * E * (F * F) := by simp only [Int.mul_assoc, Int.mul_comm, Int.mul_left_comm]
    rw [e]; exact m
  refine ⟨by omega, ?_⟩
  simp only [Int.mul_add, Int.add_mul]
  have e1 : c * a = a * c := Int.mul_comm _ _
  have e2 : d * b = b * d := Int.mul_comm _ _
  have e3 : F * E = E * F := Int.mul_comm _ _
  omega

theorem nm_neg {a b E : Int} (h : nm a b E) : nm (-a) (-b) E := by
  obtain ⟨h0, h⟩ := h
  exact ⟨h0, by rw [Int.neg_mul_neg, Int.neg_mul_neg]; exact h⟩

theorem nm_conj {a b E : Int} (h : nm a b E) : nm a (-b) E := by
  obtain ⟨h0, h⟩ := h
  exact ⟨h0, by rw [Int.neg_mul_neg]; exact h⟩

/-- A quarter turn. -/
theorem nm_quarter {a b E : Int} (h : nm a b E) : nm (-b) a E := by
  obtain ⟨h0, h⟩ := h
  exact ⟨h0, by rw [Int.neg_mul_neg]; omega⟩

theorem nm_sub {a b c d E F : Int} (h : nm a b E) (k : nm c d F) : nm (a - c) (b - d) (E + F) := by
  have := nm_add h (nm_neg k)
  rwa [← Int.sub_eq_add_neg, ← Int.sub_eq_add_neg] at this

theorem nm_mono {a b E F : Int} (h : nm a b E) (hF : E ≤ F) : nm a b F := by
  obtain ⟨h0, h⟩ := h
  exact ⟨by omega, Int.le_trans h (sq_mono h0 hF)⟩

theorem nm_mul {a b c d E F : Int} (h : nm a b E) (k : nm c d F) : nm (a * c - b * d) (a * d + b * c) (E * F) := by
  obtain ⟨h0, h⟩ := h
  obtain ⟨k0, k⟩ := k
  refine ⟨Int.mul_nonneg h0 k0, ?_⟩
  have m := Int.mul_le_mul h k (Int.add_nonneg (sq_nonneg c) (sq_nonneg d)) (sq_nonneg E)
  simp only [Int.mul_add, Int.add_mul, Int.sub_mul, Int.mul_sub, Int.mul_assoc, Int.mul_comm, Int.mul_left_comm] at m ⊢
  omega

theorem nm_scale {a b E k : Int} (hk : 0 ≤ k) (h : nm a b E) : nm (k * a) (k * b) (k * E) := by
  have := nm_mul (show nm k 0 k from ⟨hk, by omega⟩) h
  simpa using this

theorem nm_cancel {a b E k : Int} (hk : 0 < k) (h : nm (k * a) (k * b) (k * E)) : nm a b E := by
  obtain ⟨h0, h⟩ := h
  refine ⟨?_, ?_⟩
  · by_cases c : 0 ≤ E
    · exact c
    · have := Int.mul_lt_mul_of_pos_left (show E < 0 by omega) hk
      omega
  · refine Int.le_of_mul_le_mul_left ?_ (Int.mul_pos hk hk)
    simp only [Int.mul_add, Int.add_mul, Int.mul_assoc, Int.mul_comm, Int.mul_left_comm] at h ⊢
    omega

theorem nm_re {a b E : Int} (h : nm a b E) : -E ≤ a ∧ a ≤ E := by
  obtain ⟨h0, h⟩ := h
  have hb := sq_nonneg b
  refine ⟨?_, le_of_sq h0 (by omega)⟩
  have := le_of_sq (x := -a) h0 (by rw [Int.neg_mul_neg]; omega)
  omega

theorem nm_im {a b E : Int} (h : nm a b E) : -E ≤ b ∧ b ≤ E := by
  obtain ⟨h0, h⟩ := h
  have ha := sq_nonneg a
  refine ⟨?_, le_of_sq h0 (by omega)⟩
  have := le_of_sq (x := -b) h0 (by rw [Int.neg_mul_neg]; omega)
  omega

/-- A point whose coordinates are at most p. -/
theorem nm_box {a b p E : Int} (h1 : -p ≤ a) (h2 : a ≤ p) (h3 : -p ≤ b) (h4 : b ≤ p) (hE : 0 ≤ E) (h : 2 * (p * p) ≤ E * E) : nm a b E := by
  have x := sq_abs h1 h2
  have y := sq_abs h3 h4
  exact ⟨hE, by omega⟩

theorem nm_zero : nm 0 0 0 := ⟨by decide, by decide⟩

/-- A point of known length. -/
theorem nm_of_sq {a b E : Int} (h0 : 0 ≤ E) (h : a * a + b * b = E * E) : nm a b E := ⟨h0, by omega⟩

/-! ### complex numbers with integer parts -/

structure Cx where
  re : Int
  im : Int

def mul (x y : Cx) : Cx := ⟨x.re * y.re - x.im * y.im, x.re * y.im + x.im * y.re⟩
def cj (x : Cx) : Cx := ⟨x.re, -x.im⟩
def sm (k : Int) (x : Cx) : Cx := ⟨k * x.re, k * x.im⟩

theorem cx_ext {x y : Cx} (h1 : x.re = y.re) (h2 : x.im = y.im) : x = y := by
  cases x; cases y; simp_all

theorem mul_comm (x y : Cx) : mul x y = mul y x := by
  refine cx_ext ?_ ?_
  · simp only [mul, Int.mul_comm]
  · simp only [mul, Int.mul_comm]; omega

theorem mul_assoc (x y z : Cx) : mul (mul x y) z = mul x (mul y z) := by
  refine cx_ext ?_ ?_
  all_goals
    simp only [mul, Int.mul_add, Int.add_mul, Int.sub_mul, Int.mul_sub, Int.mul_assoc]
    omega

theorem mul_left_comm (x y z : Cx) : mul x (mul y z) = mul y (mul x z) := by
  rw [← mul_assoc, mul_comm x y, mul_assoc]

theorem cj_mul (x y : Cx) : cj (mul x y) = mul (cj x) (cj y) := by
  refine cx_ext ?_ ?_
  all_goals
    simp only [mul, cj, Int.neg_mul, Int.mul_neg]
    omega

theorem mul_cj (x : Cx) : mul x (cj x) = ⟨x.re * x.re + x.im * x.im, 0⟩ := by
  refine cx_ext ?_ ?_
  · simp only [mul, cj, Int.mul_neg]; omega
  · have := Int.mul_comm x.re x.im
    simp only [mul, cj, Int.mul_neg]; omega

theorem one_mul (x : Cx) : mul ⟨1, 0⟩ x = x := by
  refine cx_ext ?_ ?_
  all_goals simp [mul]

theorem real_mul (k : Int) (x : Cx) : mul ⟨k, 0⟩ x = sm k x := by
  refine cx_ext ?_ ?_
  all_goals simp [mul, sm]

/-- The powers of a complex number. -/
def pw (w : Cx) : Nat → Cx
  | 0 => ⟨1, 0⟩
  | n + 1 => mul (pw w n) w

theorem pw_add (w : Cx) (m n : Nat) : pw w (m + n) = mul (pw w m) (pw w n) := by
  induction n with
  | zero => rw [Nat.add_zero, pw, mul_comm, one_mul]
  | succ n ih => rw [← Nat.add_assoc, pw, ih, pw, mul_assoc]

theorem pw_cj (w : Cx) (n : Nat) : mul (pw w n) (cj (pw w n)) = ⟨(w.re * w.re + w.im * w.im) ^ n, 0⟩ := by
  induction n with
  | zero => refine cx_ext ?_ ?_ <;> simp [pw, mul, cj]
  | succ n ih =>
    rw [pw, cj_mul, mul_assoc, mul_left_comm w, ← mul_assoc, ih, mul_cj]
    refine cx_ext ?_ ?_
    · simp [mul, Int.pow_succ]
    · simp [mul]

end Go.Proofs.YtnjcbgnghfppoaaDoor.Cm

/- Plain: a turn by n units for each integer n, exact, as powers of one complex number; its approximations by numbers, computed. -/
set_option linter.unusedVariables false
set_option linter.unusedSimpArgs false
namespace Go.Proofs.YtnjcbgnghfppoaaDoor.Cm

/-- (C n, Z n) is the point (S, 0) after a turn by n units. -/
structure Rot (S : Int) (C Z : Int → Int) : Prop where
  pos : 0 < S
  unit : ∀ n : Int, -100000000000000 ≤ n → n ≤ 100000000000000 → C n * C n + Z n * Z n = S * S
  addC : ∀ n m : Int, -100000000000000 ≤ n → n ≤ 100000000000000 → -100000000000000 ≤ m → m ≤ 100000000000000 → -100000000000000 ≤ n + m → n + m ≤ 100000000000000 → S * C (n + m) = C n * C m - Z n * Z m
  addZ : ∀ n m : Int, -100000000000000 ≤ n → n ≤ 100000000000000 → -100000000000000 ≤ m → m ≤ 100000000000000 → -100000000000000 ≤ n + m → n + m ≤ 100000000000000 → S * Z (n + m) = C n * Z m + Z n * C m
  zeroC : C 0 = S
  zeroZ : Z 0 = 0
  negC : ∀ n : Int, C (-n) = C n
  negZ : ∀ n : Int, Z (-n) = -Z n

theorem dd_pos (w : Cx) (h : 0 < w.re) : 0 < w.re * w.re + w.im * w.im := by
  have := Int.mul_pos h h
  have := sq_nonneg w.im
  omega

def U (w : Cx) (M : Nat) (n : Int) : Cx := mul (pw w (M + n).toNat) (cj (pw w (M - n).toNat))

theorem cj_cj (x : Cx) : cj (cj x) = x := by
  refine cx_ext rfl ?_
  simp [cj]

theorem U_neg (w : Cx) (M : Nat) (n : Int) : U w M (-n) = cj (U w M n) := by
  unfold U
  rw [cj_mul, cj_cj, mul_comm, show (M : Int) + -n = M - n by omega, show (M : Int) - -n = M + n by omega]

theorem U_add (w : Cx) (M : Nat) (n m : Int) (h1 : -(M : Int) ≤ n) (h2 : n ≤ M) (h3 : -(M : Int) ≤ m) (h4 : m ≤ M) (h5 : -(M : Int) ≤ n + m) (h6 : n + m ≤ M) :
    mul (U w M n) (U w M m) = sm ((w.re * w.re + w.im * w.im) ^ M) (U w M (n + m)) := by
  have e1 : mul (pw w (M + n).toNat) (pw w (M + m).toNat) = mul (pw w M) (pw w (M + (n + m)).toNat) := by
    rw [← pw_add, ← pw_add]
    congr 1
    omega
  have e2 : mul (pw w (M - n).toNat) (pw w (M - m).toNat) = mul (pw w M) (pw w (M - (n + m)).toNat) := by
    rw [← pw_add, ← pw_add]
    congr 1
    omega
  have e3 : mul (U w M n) (U w M m) = mul (mul (pw w (M + n).toNat) (pw w (M + m).toNat)) (cj (mul (pw w (M - n).toNat) (pw w (M - m).toNat))) := by
    unfold U
    rw [cj_mul, mul_assoc, mul_assoc, mul_left_comm (cj _)]
  rw [e3, e1, e2, cj_mul, ← real_mul, ← pw_cj w M]
  unfold U
  simp only [mul_assoc]
  congr 1
  rw [mul_left_comm]

theorem U_zero (w : Cx) (M : Nat) : U w M 0 = ⟨(w.re * w.re + w.im * w.im) ^ M, 0⟩ := by
  unfold U
  rw [Int.add_zero, Int.sub_zero, Int.toNat_natCast, pw_cj]

theorem rot_of (w : Cx) (hw : 0 < w.re) (M : Nat) (hM : 100000000000000 ≤ M) : Rot ((w.re * w.re + w.im * w.im) ^ M) (fun n => (U w M n).re) (fun n => (U w M n).im) where
  pos := Int.pow_pos (dd_pos w hw)
  unit n h1 h2 := by
    have h := U_add w M n (-n) (by omega) (by omega) (by omega) (by omega) (by omega) (by omega)
    rw [U_neg, mul_cj, Int.add_right_neg, U_zero] at h
    have := congrArg Cx.re h
    simpa [sm] using this
  addC n m h1 h2 h3 h4 h5 h6 := by
    have h := U_add w M n m (by omega) (by omega) (by omega) (by omega) (by omega) (by omega)
    exact (congrArg Cx.re h).symm
  addZ n m h1 h2 h3 h4 h5 h6 := by
    have h := U_add w M n m (by omega) (by omega) (by omega) (by omega) (by omega) (by omega)
    exact (congrArg Cx.im h).symm
  zeroC := by show (U w M 0).re = _; rw [U_zero]
  zeroZ := by show (U w M 0).im = _; rw [U_zero]
  negC n := by show (U w M (-n)).re = _; rw [U_neg]; rfl
  negZ n := by show (U w M (-n)).im = _; rw [U_neg]; rfl

/-! ### approximations -/

theorem nm_congr {a b a' b' E E' : Int} (h : nm a b E) (h1 : a = a') (h2 : b = b') (h3 : E = E') : nm a' b' E' := by
  subst h1 h2 h3; exact h

theorem ap_plain (P S x1 x2 y1 y2 u v a b e c d f : Int) (hP : 0 < P) (hS : 0 < S) (hu : S * u = x1 * y1 - x2 * y2) (hv : S * v = x1 * y2 + x2 * y1) (kx : nm x1 x2 S) (ky : nm y1 y2 S) (he : 0 ≤ e) (hf : 0 ≤ f)
    (ha : nm (P * x1 - S * a) (P * x2 - S * b) (S * e)) (hb : nm (P * y1 - S * c) (P * y2 - S * d) (S * f)) :
    nm (P * u - S * ((a * c - b * d) / P)) (P * v - S * ((a * d + b * c) / P)) (S * (e + f + 3 + e * f / P)) := by
  have k1 := nm_scale (Int.le_of_lt hP) ky
  have k2 := nm_mul ha k1
  have k3 := nm_sub (nm_scale (Int.le_of_lt hP) kx) ha
  have k4 := nm_mul k3 hb
  have k5 := nm_add k2 k4
  have r1 := Int.emod_add_mul_ediv (a * c - b * d) P
  have r1a := Int.emod_nonneg (a * c - b * d) (show P ≠ 0 by omega)
  have r1b := Int.emod_lt_of_pos (a * c - b * d) hP
  have r2 := Int.emod_add_mul_ediv (a * d + b * c) P
  have r2a := Int.emod_nonneg (a * d + b * c) (show P ≠ 0 by omega)
  have r2b := Int.emod_lt_of_pos (a * d + b * c) hP
  have k6 : nm ((a * c - b * d) % P) ((a * d + b * c) % P) (P + P) :=
    nm_box (p := P) (by omega) (by omega) (by omega) (by omega) (by omega) (by
      have := sq_nonneg P
      simp only [Int.mul_add, Int.add_mul]
      omega)
  have k7 := nm_add k5 (nm_scale (Int.mul_nonneg (Int.le_of_lt hS) (Int.le_of_lt hS)) k6)
  have ef := Int.emod_add_mul_ediv (e * f) P
  have ef2 := Int.emod_lt_of_pos (e * f) hP
  generalize hR1 : (a * c - b * d) / P = R1 at *
  generalize hR2 : (a * d + b * c) / P = R2 at *
  generalize hm1 : (a * c - b * d) % P = m1 at *
  generalize hm2 : (a * d + b * c) % P = m2 at *
  generalize hq : e * f / P = q at *
  clear hR1 hR2 hm1 hm2 hq
  have hu' : P * P * (S * u) = P * P * (x1 * y1 - x2 * y2) := by rw [hu]
  have hv' : P * P * (S * v) = P * P * (x1 * y2 + x2 * y1) := by rw [hv]
  have s1 : S * S * (m1 + P * R1) = S * S * (a * c - b * d) := by rw [r1]
  have s2 : S * S * (m2 + P * R2) = S * S * (a * d + b * c) := by rw [r2]
  have b1 : S * S * (e * f) ≤ S * S * (P + P * q) := Int.mul_le_mul_of_nonneg_left (by omega) (Int.mul_nonneg (Int.le_of_lt hS) (Int.le_of_lt hS))
  refine nm_cancel (k := P * S) (Int.mul_pos hP hS) (nm_mono (nm_congr k7 ?_ ?_ rfl) ?_)
  · clear k1 k2 k3 k4 k5 k6 k7 ha hb kx ky b1 s2 hv' hu hv r1 r2 ef ef2 r1a r1b r2a r2b
    simp only [Int.mul_add, Int.add_mul, Int.sub_mul, Int.mul_sub, Int.mul_assoc, Int.mul_comm, Int.mul_left_comm] at s1 hu' ⊢
    omega
  · clear k1 k2 k3 k4 k5 k6 k7 ha hb kx ky b1 s1 hu' hu hv r1 r2 ef ef2 r1a r1b r2a r2b
    simp only [Int.mul_add, Int.add_mul, Int.sub_mul, Int.mul_sub, Int.mul_assoc, Int.mul_comm, Int.mul_left_comm] at s2 hv' ⊢
    omega
  · clear k1 k2 k3 k4 k5 k6 k7 ha hb kx ky s1 s2 hu' hv' hu hv r1 r2 ef ef2 r1a r1b r2a r2b
    rw [show (3 : Int) = 1 + 1 + 1 from rfl]
    simp only [Int.mul_add, Int.add_mul, Int.sub_mul, Int.mul_sub, Int.mul_assoc, Int.mul_comm, Int.mul_left_comm, Int.mul_one] at b1 ⊢
    omega

/-- A point with its error, out of two. -/
def comb (P : Int) (x y : Int × Int × Int) : Int × Int × Int :=
  ((x.1 * y.1 - x.2.1 * y.2.1) / P, (x.1 * y.2.1 + x.2.1 * y.1) / P, x.2.2 + y.2.2 + 3 + x.2.2 * y.2.2 / P)

/-- The point after n units, computed. -/
def apx (P : Int) (one : Int × Int × Int) : Nat → Nat → Int × Int × Int
  | 0, _ => (P, 0, 0)
  | k + 1, n => if n % 2 = 1 then comb P (comb P (apx P one k (n / 2)) (apx P one k (n / 2))) one else comb P (apx P one k (n / 2)) (apx P one k (n / 2))

/-- x is the point after n units, but for its error. -/
def Ap (P S : Int) (C Z : Int → Int) (n : Int) (x : Int × Int × Int) : Prop := 0 ≤ x.2.2 ∧ nm (P * C n - S * x.1) (P * Z n - S * x.2.1) (S * x.2.2)

theorem nm_unit {S : Int} {C Z : Int → Int} (h : Rot S C Z) (n : Int) (h1 : -100000000000000 ≤ n) (h2 : n ≤ 100000000000000) : nm (C n) (Z n) S :=
  nm_of_sq (Int.le_of_lt h.pos) (h.unit n h1 h2)

theorem ap_comb {P S : Int} {C Z : Int → Int} (h : Rot S C Z) (hP : 0 < P) {n m : Int} {x y : Int × Int × Int} (hx : Ap P S C Z n x) (hy : Ap P S C Z m y)
    (h1 : 0 ≤ n) (h3 : 0 ≤ m) (h6 : n + m ≤ 100000000000000) : Ap P S C Z (n + m) (comb P x y) := by
  obtain ⟨e, ha⟩ := hx
  obtain ⟨f, hb⟩ := hy
  refine ⟨?_, ap_plain P S _ _ _ _ _ _ _ _ _ _ _ _ hP h.pos (h.addC n m (by omega) (by omega) (by omega) (by omega) (by omega) (by omega)) (h.addZ n m (by omega) (by omega) (by omega) (by omega) (by omega) (by omega)) (nm_unit h n (by omega) (by omega)) (nm_unit h m (by omega) (by omega)) e f ha hb⟩
  have := Int.ediv_nonneg (Int.mul_nonneg e f) (Int.le_of_lt hP)
  simp only [comb]
  omega

theorem ap_apx {P S : Int} {C Z : Int → Int} (h : Rot S C Z) (hP : 0 < P) {one : Int × Int × Int} (h1 : Ap P S C Z 1 one) : ∀ (k n : Nat), n < 2 ^ k → n ≤ 50000000000000 → Ap P S C Z n (apx P one k n) := by
  intro k
  induction k with
  | zero =>
    intro n hn _
    obtain rfl : n = 0 := by simpa using hn
    refine ⟨by simp [apx], ?_⟩
    simp only [apx, Int.natCast_zero]
    rw [h.zeroC, h.zeroZ]
    exact nm_congr nm_zero (by rw [Int.mul_comm]; omega) (by simp) (by simp)
  | succ k ih =>
    intro n hn hl
    have hk := ih (n / 2) (by rw [Nat.pow_succ] at hn; omega) (by omega)
    have h2 := ap_comb h hP hk hk (by omega) (by omega) (by omega)
    rw [apx]
    by_cases c : n % 2 = 1
    · rw [if_pos c]
      have := ap_comb h hP h2 h1 (by omega) (by omega) (by omega)
      rwa [show ((n / 2 : Nat) : Int) + ((n / 2 : Nat) : Int) + 1 = n by omega] at this
    · rw [if_neg c]
      rwa [show ((n / 2 : Nat) : Int) + ((n / 2 : Nat) : Int) = n by omega] at h2

end Go.Proofs.YtnjcbgnghfppoaaDoor.Cm

/- Plain: a turn by 10^-9 degrees, and the table of the angles whose tangents are powers of 1/2, held against it. -/
set_option linter.unusedVariables false
set_option linter.unusedSimpArgs false
namespace Go.Proofs.YtnjcbgnghfppoaaDoor.Cm

/-- The angles, in 10^-9 degrees. -/
def tabT : List Int := [45000000000, 26565051177, 14036243468, 7125016349, 3576334375, 1789910608, 895173710, 447614171, 223810500, 111905677, 55952892, 27976453, 13988227, 6994114, 3497057, 1748528, 874264, 437132, 218566, 109283, 54642, 27321, 13660, 6830, 3415, 1708]
def T (i : Nat) : Int := tabT.getD i 0
/-- How much i steps stretch a point, in 2^-40. -/
def tabH : List Int := [1099511627776, 1554944255988, 1738480528806, 1791984712086, 1805930328731, 1809454098577, 1810337405488, 1810558380454, 1810613633468, 1810627447301, 1810630900795, 1810631764171, 1810631980015, 1810632033977, 1810632047467, 1810632050839, 1810632051682, 1810632051893, 1810632051946, 1810632051959, 1810632051962, 1810632051963, 1810632051963, 1810632051964, 1810632051964, 1810632051964, 1810632051964]
def H (i : Nat) : Int := tabH.getD i 0
/-- The scale of the approximations, 2^100. -/
def PP : Int := 1267650600228229401496703205376
def one : Int × Int × Int := (1267650600228229401496510131148, 22124676738864985353, 2)

/-- What the numbers of step i show. -/
def okAt (i : Nat) : Bool :=
  let x := apx PP one 37 (T i).toNat
  let p : Int := 2 ^ i
  let a := p * H i * PP - p * H (i + 1) * x.1
  let b := H i * PP - p * H (i + 1) * x.2.1
  let e := p * 16 * PP - p * H (i + 1) * x.2.2
  decide (0 ≤ e) && decide (a * a + b * b ≤ e * e) && decide (0 ≤ T i) && decide (T i ≤ 45000000000) && decide (0 ≤ H (i + 1))

theorem ok_all : (List.range 26).all okAt = true := by decide +kernel

theorem ok_quarter : (let x := apx PP one 37 90000000000
    let a := 18446744073709551616 * x.1
    let b := 18446744073709551616 * (x.2.1 - PP)
    let e := 16 * PP - 18446744073709551616 * x.2.2
    decide (0 ≤ e) && decide (a * a + b * b ≤ e * e)) = true := by decide +kernel

theorem ok_one : (let a := 18446744073709551616 * (one.1 - PP)
    let b := 18446744073709551616 * one.2.1
    let e := 321956421 * PP - 18446744073709551616 * one.2.2
    decide (0 ≤ e) && decide (a * a + b * b ≤ e * e)) = true := by decide +kernel

/-- A turn by 10^-9 degrees. -/
structure Turn (S : Int) (C Z : Int → Int) : Prop where
  rot : Rot S C Z
  step : nm (18446744073709551616 * (C 1 - S)) (18446744073709551616 * Z 1) (321956421 * S)
  quarter : nm (18446744073709551616 * C 90000000000) (18446744073709551616 * (Z 90000000000 - S)) (16 * S)
  at_ : ∀ i : Nat, i < 26 → nm (2 ^ i * H i * S - 2 ^ i * H (i + 1) * C (T i)) (H i * S - 2 ^ i * H (i + 1) * Z (T i)) (2 ^ i * 16 * S)

theorem bd_T (i : Nat) (h : i < 26) : 0 ≤ T i ∧ T i ≤ 45000000000 := by
  have := List.all_eq_true.1 ok_all i (List.mem_range.2 h)
  simp only [okAt, Bool.and_eq_true, decide_eq_true_eq] at this
  exact ⟨this.1.1.2, this.1.2⟩

/-- From a number to what it stands for. -/
theorem from_ap {P S L a b A B x y e E : Int} (hP : 0 < P) (hS : 0 < S) (hL : 0 ≤ L) (he : 0 ≤ e) (h : nm (P * x - S * a) (P * y - S * b) (S * e))
    (h0 : 0 ≤ E * P - L * e) (hq : (A * P - L * a) * (A * P - L * a) + (B * P - L * b) * (B * P - L * b) ≤ (E * P - L * e) * (E * P - L * e)) :
    nm (A * S - L * x) (B * S - L * y) (E * S) := by
  have k1 : nm (A * P - L * a) (B * P - L * b) (E * P - L * e) := ⟨h0, hq⟩
  have k2 := nm_sub (nm_scale (Int.le_of_lt hS) k1) (nm_scale hL h)
  refine nm_cancel hP (nm_congr k2 ?_ ?_ ?_)
  all_goals
    simp only [Int.mul_add, Int.add_mul, Int.sub_mul, Int.mul_sub, Int.mul_assoc, Int.mul_comm, Int.mul_left_comm]
    omega

theorem turn_of_rot {S : Int} {C Z : Int → Int} (h : Rot S C Z) (h1 : nm (PP * C 1 - S * one.1) (PP * Z 1 - S * one.2.1) (S * one.2.2)) : Turn S C Z := by
  have hP : 0 < PP := by decide
  have A1 : Ap PP S C Z 1 one := ⟨by decide, h1⟩
  refine ⟨h, ?_, ?_, ?_⟩
  · have k := ok_one
    simp only [Bool.and_eq_true, decide_eq_true_eq] at k
    have := nm_neg (from_ap (A := 18446744073709551616) (B := 0) (L := 18446744073709551616) (E := 321956421) hP h.pos (by decide) A1.1 h1 k.1 (by
      have e := k.2
      rw [← Int.neg_mul_neg (18446744073709551616 * (one.1 - PP)), ← Int.neg_mul_neg (18446744073709551616 * one.2.1)] at e
      rwa [show 18446744073709551616 * PP - 18446744073709551616 * one.1 = -(18446744073709551616 * (one.1 - PP)) by omega, show 0 * PP - 18446744073709551616 * one.2.1 = -(18446744073709551616 * one.2.1) by omega]))
    exact nm_congr this (by omega) (by omega) rfl
  · have k := ok_quarter
    simp only [Bool.and_eq_true, decide_eq_true_eq] at k
    have a := ap_apx h hP A1 37 90000000000 (by decide) (by decide)
    rw [show ((90000000000 : Nat) : Int) = 90000000000 from rfl] at a
    generalize apx PP one 37 90000000000 = x at *
    have := nm_neg (from_ap (A := 0) (B := 18446744073709551616) (L := 18446744073709551616) (E := 16) hP h.pos (by decide) a.1 a.2 k.1 (by
      have e := k.2
      rw [← Int.neg_mul_neg (18446744073709551616 * x.1), ← Int.neg_mul_neg (18446744073709551616 * (x.2.1 - PP))] at e
      rwa [show 18446744073709551616 * PP - 18446744073709551616 * x.2.1 = -(18446744073709551616 * (x.2.1 - PP)) by omega, show 0 * PP - 18446744073709551616 * x.1 = -(18446744073709551616 * x.1) by omega]))
    exact nm_congr this (by omega) (by omega) rfl
  · intro i hi
    have k := List.all_eq_true.1 ok_all i (List.mem_range.2 hi)
    have hT := bd_T i hi
    have pp : (0 : Int) ≤ 2 ^ i := Int.le_of_lt (Int.pow_pos (by decide))
    simp only [okAt, Bool.and_eq_true, decide_eq_true_eq] at k
    have a := ap_apx h hP A1 37 (T i).toNat (by omega) (by omega)
    rw [Int.toNat_of_nonneg hT.1] at a
    generalize apx PP one 37 (T i).toNat = x at *
    exact from_ap hP h.pos (Int.mul_nonneg pp k.2) a.1 a.2 k.1.1.1.1 k.1.1.1.2

/-- There is such a turn. -/
theorem exists_turn : ∃ (S : Int) (C Z : Int → Int), Turn S C Z := by
  obtain ⟨M, hM, hM1⟩ : ∃ M : Nat, 100000000000000 ≤ M ∧ 1 ≤ M := ⟨_, Nat.le_refl _, by decide⟩
  obtain ⟨w, hw⟩ : ∃ w : Cx, w = ⟨1298074214633706907132624082305024, 11327834490298872501158⟩ := ⟨_, rfl⟩
  have hr : 0 < w.re := by rw [hw]; decide
  have h := rot_of w hr M hM
  refine ⟨_, _, _, turn_of_rot h ?_⟩
  have hD := dd_pos w hr
  -- one unit is the square of the number
  have e : U w M 1 = sm ((w.re * w.re + w.im * w.im) ^ (M - 1)) (mul w w) := by
    have e1 : pw w ((M : Int) + 1).toNat = mul (pw w (M - 1)) (mul w w) := by
      rw [show ((M : Int) + 1).toNat = M - 1 + 2 by omega, pw_add]
      congr 1
      simp only [pw, one_mul]
    have e2 : pw w ((M : Int) - 1).toNat = pw w (M - 1) := by rw [show ((M : Int) - 1).toNat = M - 1 by omega]
    unfold U
    rw [e1, e2, mul_comm (pw w (M - 1)), mul_assoc, pw_cj, mul_comm, real_mul]
  have eS : (w.re * w.re + w.im * w.im) ^ M = (w.re * w.re + w.im * w.im) ^ (M - 1) * (w.re * w.re + w.im * w.im) := by
    have k := Int.pow_succ (w.re * w.re + w.im * w.im) (M - 1)
    rwa [show (M - 1).succ = M by omega] at k
  have p0 : 0 ≤ (w.re * w.re + w.im * w.im) ^ (M - 1) := Int.le_of_lt (Int.pow_pos hD)
  show nm (PP * (U w M 1).re - _) (PP * (U w M 1).im - _) _
  rw [e, eS]
  generalize (w.re * w.re + w.im * w.im) ^ (M - 1) = R at *
  have fin : nm (PP * (w.re * w.re - w.im * w.im) - (w.re * w.re + w.im * w.im) * one.1) (PP * (w.re * w.im + w.im * w.re) - (w.re * w.re + w.im * w.im) * one.2.1) ((w.re * w.re + w.im * w.im) * one.2.2) := by
    rw [hw]
    unfold nm
    decide +kernel
  refine nm_congr (nm_scale p0 fin) ?_ ?_ ?_
  all_goals
    simp only [sm, mul, Int.mul_add, Int.add_mul, Int.sub_mul, Int.mul_sub, Int.mul_assoc, Int.mul_comm, Int.mul_left_comm]
  all_goals omega

end Go.Proofs.YtnjcbgnghfppoaaDoor.Cm

/- Plain: the steps of the algorithm turn a point by the sum of their angles, but for what the floors and the table lose. -/
set_option linter.unusedVariables false
set_option linter.unusedSimpArgs false
namespace Go.Proofs.YtnjcbgnghfppoaaDoor.Cm

/-- One step, multiplied out. -/
theorem step_plain (S p h h' x y x' y' x0 y0 u1 u2 t1 t2 c z M E E' r1 r2 : Int) (hS : 0 < S) (hp : 0 < p) (hh : 0 ≤ h) (hM : nm x0 y0 M) (hu : nm u1 u2 S)
    (et1 : S * t1 = u1 * c - u2 * z) (et2 : S * t2 = u1 * z + u2 * c)
    (hd : nm (p * h * S - p * h' * c) (h * S - p * h' * z) (p * 16 * S))
    (ha : nm (1099511627776 * S * x - h * (x0 * u1 - y0 * u2)) (1099511627776 * S * y - h * (x0 * u2 + y0 * u1)) (S * E))
    (ex : p * x' = p * x - y + r1) (ey : p * y' = p * y + x + r2) (b1 : -p ≤ r1) (b2 : r1 ≤ p) (b3 : -p ≤ r2) (b4 : r2 ≤ p)
    (hE : (p + 1) * E + 1649267441664 * p + p * 16 * M ≤ p * E') :
    nm (1099511627776 * S * x' - h' * (x0 * t1 - y0 * t2)) (1099511627776 * S * y' - h' * (x0 * t2 + y0 * t1)) (S * E') := by
  have hS' : 0 ≤ S := Int.le_of_lt hS
  have hp' : 0 ≤ p := Int.le_of_lt hp
  -- the table
  have k1 : nm (p * h * u1 - h * u2 - p * h' * t1) (h * u1 + p * h * u2 - p * h' * t2) (p * 16 * S) := by
    refine nm_cancel hS (nm_congr (nm_mul hu hd) ?_ ?_ rfl)
    · have e : p * h' * (S * t1) = p * h' * (u1 * c - u2 * z) := by rw [et1]
      clear ha ex ey et1 et2 hd hE
      simp only [Int.mul_add, Int.add_mul, Int.sub_mul, Int.mul_sub, Int.mul_assoc, Int.mul_comm, Int.mul_left_comm] at e ⊢
      omega
    · have e : p * h' * (S * t2) = p * h' * (u1 * z + u2 * c) := by rw [et2]
      clear ha ex ey et1 et2 hd hE
      simp only [Int.mul_add, Int.add_mul, Int.sub_mul, Int.mul_sub, Int.mul_assoc, Int.mul_comm, Int.mul_left_comm] at e ⊢
      omega
  have k2 := nm_mul hM k1
  clear k1 hd hu et1 et2
  -- the point before
  have k3 : nm p 1 (p + 1) := ⟨by omega, by simp only [Int.mul_add, Int.add_mul]; omega⟩
  have k4 := nm_mul k3 ha
  clear k3 ha
  -- the floors
  have k5 : nm (2 * r1) (2 * r2) (3 * p) := nm_box (p := 2 * p) (by omega) (by omega) (by omega) (by omega) (by omega) (by
    have := sq_nonneg p
    have e1 : 2 * p * (2 * p) = 4 * (p * p) := by rw [show 2 * p = p + p by omega]; simp only [Int.mul_add, Int.add_mul]; omega
    have e2 : 3 * p * (3 * p) = 9 * (p * p) := by rw [show 3 * p = p + p + p by omega]; simp only [Int.mul_add, Int.add_mul]; omega
    omega)
  have k6 := nm_scale hS' (nm_scale (show (0 : Int) ≤ 549755813888 by decide) k5)
  clear k5
  have k7 := nm_add (nm_add k4 k2) k6
  clear k4 k2 k6
  refine nm_cancel hp (nm_mono (nm_congr k7 ?_ ?_ rfl) ?_)
  · have e : S * (p * x') = S * (p * x - y + r1) := by rw [ex]
    clear k7 ex ey hE hM
    rw [show S * (549755813888 * (2 * r1)) = S * (1099511627776 * r1) by rw [show (549755813888 : Int) * (2 * r1) = 1099511627776 * r1 by omega]]
    generalize hk : (1099511627776 : Int) = k
    have e' : k * (S * (p * x')) = k * (S * (p * x - y + r1)) := by rw [e]
    clear e hk
    simp only [Int.one_mul, Int.mul_one, Int.mul_add, Int.add_mul, Int.sub_mul, Int.mul_sub, Int.mul_assoc, Int.mul_comm, Int.mul_left_comm] at e' ⊢
    omega
  · have e : S * (p * y') = S * (p * y + x + r2) := by rw [ey]
    clear k7 ex ey hE hM
    rw [show S * (549755813888 * (2 * r2)) = S * (1099511627776 * r2) by rw [show (549755813888 : Int) * (2 * r2) = 1099511627776 * r2 by omega]]
    generalize hk : (1099511627776 : Int) = k
    have e' : k * (S * (p * y')) = k * (S * (p * y + x + r2)) := by rw [e]
    clear e hk
    simp only [Int.one_mul, Int.mul_one, Int.mul_add, Int.add_mul, Int.sub_mul, Int.mul_sub, Int.mul_assoc, Int.mul_comm, Int.mul_left_comm] at e' ⊢
    omega
  · have e := Int.mul_le_mul_of_nonneg_left hE hS'
    clear k7 ex ey hE hM
    rw [show (549755813888 : Int) * (3 * p) = 1649267441664 * p by omega]
    generalize (1649267441664 : Int) = k at *
    generalize (16 : Int) = k' at *
    simp only [Int.one_mul, Int.mul_one, Int.mul_add, Int.add_mul, Int.sub_mul, Int.mul_sub, Int.mul_assoc, Int.mul_comm, Int.mul_left_comm] at e ⊢
    omega

def tabA : List Int := [0, 16, 40, 66, 91, 113, 133, 152, 170, 187, 204, 221, 238, 255, 272, 289, 306, 323, 340, 357, 374, 391, 408, 425, 442, 459, 476]
def tabB : List Int := [0, 1649267441664, 4123168604160, 6803228196864, 9302899163136, 11533597802496, 13543290175488, 15404171526144, 17173784057856, 18890136593496, 20576298833195, 22245660316689, 23905789897180, 25560893713331, 27213281381279, 28864209789825, 30514358097267, 32164091151085, 33813603985291, 35463000415618, 37112335497588, 38761638332334, 40410924256988, 42060201333368, 43709473788999, 45358743835951, 47008012629411]
def A (i : Nat) : Int := tabA.getD i 0
def B (i : Nat) : Int := tabB.getD i 0

def okE (i : Nat) : Bool := decide (((2 : Int) ^ i + 1) * A i + 2 ^ i * 16 ≤ 2 ^ i * A (i + 1)) && decide (((2 : Int) ^ i + 1) * B i + 1649267441664 * 2 ^ i ≤ 2 ^ i * B (i + 1)) && decide (0 ≤ H i)
theorem okE_all : (List.range 26).all okE = true := by decide +kernel

/-- A step to the left: what x and y become. -/
def lx (i : Nat) (x y : Int) : Int := x - y / 2 ^ i
def ly (i : Nat) (x y : Int) : Int := y + x / 2 ^ i
/-- A step to the right. -/
def rx (i : Nat) (x y : Int) : Int := x + y / 2 ^ i
def ry (i : Nat) (x y : Int) : Int := y - x / 2 ^ i

/-- After i steps the point (x0, y0), which is at most M away, has been turned by n. -/
def Inv (S : Int) (C Z : Int → Int) (x0 y0 M : Int) (i : Nat) (x y n : Int) : Prop :=
  nm (1099511627776 * S * x - H i * (x0 * C n - y0 * Z n)) (1099511627776 * S * y - H i * (x0 * Z n + y0 * C n)) (S * (A i * M + B i))

theorem inv_zero {S : Int} {C Z : Int → Int} (t : Turn S C Z) (x0 y0 M : Int) (hM : 0 ≤ M) : Inv S C Z x0 y0 M 0 x0 y0 0 := by
  unfold Inv
  rw [t.rot.zeroC, t.rot.zeroZ, show H 0 = 1099511627776 from rfl, show A 0 = 0 from rfl, show B 0 = 0 from rfl]
  refine nm_congr nm_zero ?_ ?_ ?_
  · rw [Int.mul_zero, Int.sub_zero, Int.mul_comm x0 S, Int.mul_assoc]; omega
  · rw [Int.mul_zero, Int.zero_add, Int.mul_comm y0 S, Int.mul_assoc]; omega
  · simp

theorem err_step (i : Nat) (hi : i < 26) (M : Int) (hM : 0 ≤ M) : ((2 : Int) ^ i + 1) * (A i * M + B i) + 1649267441664 * 2 ^ i + 2 ^ i * 16 * M ≤ 2 ^ i * (A (i + 1) * M + B (i + 1)) := by
  have k := List.all_eq_true.1 okE_all i (List.mem_range.2 hi)
  simp only [okE, Bool.and_eq_true, decide_eq_true_eq] at k
  have m := Int.mul_le_mul_of_nonneg_right k.1.1 hM
  have e1 : ((2 : Int) ^ i + 1) * (A i * M + B i) = ((2 : Int) ^ i + 1) * A i * M + ((2 : Int) ^ i + 1) * B i := by rw [Int.mul_add, Int.mul_assoc]
  have e2 : (2 : Int) ^ i * (A (i + 1) * M + B (i + 1)) = 2 ^ i * A (i + 1) * M + 2 ^ i * B (i + 1) := by rw [Int.mul_add, Int.mul_assoc]
  rw [Int.add_mul] at m
  rw [e1, e2]
  omega

theorem H_nonneg (i : Nat) (hi : i < 26) : 0 ≤ H i := by
  have k := List.all_eq_true.1 okE_all i (List.mem_range.2 hi)
  simp only [okE, Bool.and_eq_true, decide_eq_true_eq] at k
  exact k.2

theorem inv_left {S : Int} {C Z : Int → Int} (t : Turn S C Z) {x0 y0 M : Int} (hM : nm x0 y0 M) {i : Nat} (hi : i < 26) {x y n : Int} (h : Inv S C Z x0 y0 M i x y n)
    (h1 : -10000000000000 ≤ n) (h2 : n ≤ 10000000000000) : Inv S C Z x0 y0 M (i + 1) (lx i x y) (ly i x y) (n + T i) := by
  have hT := bd_T i hi
  have hp : (0 : Int) < 2 ^ i := Int.pow_pos (by decide)
  have d1 := Int.emod_add_mul_ediv y (2 ^ i)
  have d2 := Int.emod_add_mul_ediv x (2 ^ i)
  have a1 := Int.emod_nonneg y (show (2 : Int) ^ i ≠ 0 by omega)
  have a2 := Int.emod_lt_of_pos y hp
  have a3 := Int.emod_nonneg x (show (2 : Int) ^ i ≠ 0 by omega)
  have a4 := Int.emod_lt_of_pos x hp
  refine step_plain S (2 ^ i) (H i) (H (i + 1)) x y _ _ x0 y0 (C n) (Z n) (C (n + T i)) (Z (n + T i)) (C (T i)) (Z (T i)) M (A i * M + B i) _ (y % 2 ^ i) (-(x % 2 ^ i)) t.rot.pos hp (H_nonneg i hi) hM
    (nm_unit t.rot n (by omega) (by omega)) (t.rot.addC n (T i) (by omega) (by omega) (by omega) (by omega) (by omega) (by omega)) (t.rot.addZ n (T i) (by omega) (by omega) (by omega) (by omega) (by omega) (by omega)) (t.at_ i hi) h
    ?_ ?_ (by omega) (by omega) (by omega) (by omega) (err_step i hi M hM.1)
  · rw [lx, Int.mul_sub]; omega
  · rw [ly, Int.mul_add]; omega

theorem inv_conj {S : Int} {C Z : Int → Int} (t : Turn S C Z) {x0 y0 M : Int} {i : Nat} {x y n : Int} (h : Inv S C Z x0 y0 M i x y n) : Inv S C Z x0 (-y0) M i x (-y) (-n) := by
  unfold Inv at h ⊢
  rw [t.rot.negC, t.rot.negZ]
  refine nm_congr (nm_conj h) ?_ ?_ rfl
  · rw [Int.neg_mul_neg]
  · simp only [Int.mul_neg, Int.neg_mul, Int.mul_add]; omega

theorem inv_right {S : Int} {C Z : Int → Int} (t : Turn S C Z) {x0 y0 M : Int} (hM : nm x0 y0 M) {i : Nat} (hi : i < 26) {x y n : Int} (h : Inv S C Z x0 y0 M i x y n)
    (h1 : -10000000000000 ≤ n) (h2 : n ≤ 10000000000000) : Inv S C Z x0 y0 M (i + 1) (rx i x y) (ry i x y) (n - T i) := by
  have hT := bd_T i hi
  have hp : (0 : Int) < 2 ^ i := Int.pow_pos (by decide)
  have d1 := Int.emod_add_mul_ediv y (2 ^ i)
  have d2 := Int.emod_add_mul_ediv x (2 ^ i)
  have a1 := Int.emod_nonneg y (show (2 : Int) ^ i ≠ 0 by omega)
  have a2 := Int.emod_lt_of_pos y hp
  have a3 := Int.emod_nonneg x (show (2 : Int) ^ i ≠ 0 by omega)
  have a4 := Int.emod_lt_of_pos x hp
  have k := step_plain S (2 ^ i) (H i) (H (i + 1)) x (-y) (rx i x y) (-ry i x y) x0 (-y0) (C (-n)) (Z (-n)) (C (-n + T i)) (Z (-n + T i)) (C (T i)) (Z (T i)) M (A i * M + B i) _ (-(y % 2 ^ i)) (-(x % 2 ^ i)) t.rot.pos hp (H_nonneg i hi) (nm_conj hM)
    (nm_unit t.rot (-n) (by omega) (by omega)) (t.rot.addC (-n) (T i) (by omega) (by omega) (by omega) (by omega) (by omega) (by omega)) (t.rot.addZ (-n) (T i) (by omega) (by omega) (by omega) (by omega) (by omega) (by omega)) (t.at_ i hi) (inv_conj t h)
    (by rw [rx, Int.mul_add]; omega) (by rw [ry, Int.mul_neg, Int.mul_sub, Int.mul_neg]; omega) (by omega) (by omega) (by omega) (by omega) (err_step i hi M hM.1)
  have k' := inv_conj t (i := i + 1) k
  rwa [Int.neg_neg, Int.neg_neg, show -(-n + T i) = n - T i by omega] at k'

end Go.Proofs.YtnjcbgnghfppoaaDoor.Cm

/- Plain: sine and cosine as the algorithm computes them are those of a turn by their angle, up to 80 units of 2^-30. -/
set_option linter.unusedVariables false
set_option linter.unusedSimpArgs false
namespace Go.Proofs.YtnjcbgnghfppoaaDoor.Cm

/-! ### the steps -/

/-- The point and the angle that is left, after i steps. -/
def rs (r : Int) : Nat → Int × Int × Int
  | 0 => (652032874, 0, r * 1000)
  | i + 1 => if 0 ≤ (rs r i).2.2 then (lx i (rs r i).1 (rs r i).2.1, ly i (rs r i).1 (rs r i).2.1, (rs r i).2.2 - T i)
    else (rx i (rs r i).1 (rs r i).2.1, ry i (rs r i).1 (rs r i).2.1, (rs r i).2.2 + T i)

theorem rs_succ (r : Int) (i : Nat) : rs r (i + 1) = if 0 ≤ (rs r i).2.2 then (lx i (rs r i).1 (rs r i).2.1, ly i (rs r i).1 (rs r i).2.1, (rs r i).2.2 - T i)
    else (rx i (rs r i).1 (rs r i).2.1, ry i (rs r i).1 (rs r i).2.1, (rs r i).2.2 + T i) := rfl

/-- What may be left of the angle. -/
def zb : Nat → Int
  | 0 => 45000000000
  | i + 1 => max (T i) (zb i - T i)
theorem zb_end : zb 26 = 1708 := by decide +kernel
theorem zb_le : (List.range 27).all (fun i => decide (0 ≤ zb i) && decide (zb i ≤ 45000000000)) = true := by decide +kernel
theorem zb_bd (i : Nat) (hi : i ≤ 26) : 0 ≤ zb i ∧ zb i ≤ 45000000000 := by
  have := List.all_eq_true.1 zb_le i (List.mem_range.2 (by omega))
  simpa only [Bool.and_eq_true, decide_eq_true_eq] using this

theorem rs_z (r : Int) (h1 : -45000000 ≤ r) (h2 : r ≤ 45000000) : ∀ i : Nat, i ≤ 26 → -zb i ≤ (rs r i).2.2 ∧ (rs r i).2.2 ≤ zb i := by
  intro i
  induction i with
  | zero => intro _; simp only [rs, zb]; omega
  | succ i ih =>
    intro hi
    have k := ih (by omega)
    have t := bd_T i (by omega)
    rw [rs, zb]
    by_cases c : 0 ≤ (rs r i).2.2
    · rw [if_pos c]; dsimp only; omega
    · rw [if_neg c]; dsimp only; omega

theorem rs_inv {S : Int} {C Z : Int → Int} (t : Turn S C Z) (r : Int) (h1 : -45000000 ≤ r) (h2 : r ≤ 45000000) : ∀ i : Nat, i ≤ 26 →
    Inv S C Z 652032874 0 652032874 i (rs r i).1 (rs r i).2.1 (r * 1000 - (rs r i).2.2) := by
  have hM : nm 652032874 0 652032874 := ⟨by decide, by decide⟩
  intro i
  induction i with
  | zero =>
    intro _
    have := inv_zero t 652032874 0 652032874 (by decide)
    simp only [rs]
    rwa [Int.sub_self]
  | succ i ih =>
    intro hi
    have k := ih (by omega)
    have z := rs_z r h1 h2 i (by omega)
    have zz := zb_bd i (by omega)
    rw [rs]
    by_cases c : 0 ≤ (rs r i).2.2
    · rw [if_pos c]
      have := inv_left t hM (by omega) k (by omega) (by omega)
      dsimp only
      rwa [show r * 1000 - (rs r i).2.2 + T i = r * 1000 - ((rs r i).2.2 - T i) by omega] at this
    · rw [if_neg c]
      have := inv_right t hM (by omega) k (by omega) (by omega)
      dsimp only
      rwa [show r * 1000 - (rs r i).2.2 - T i = r * 1000 - ((rs r i).2.2 + T i) by omega] at this

/-- From the invariant to bounds: the point stays within the stretched length. -/
theorem inv_len {S : Int} {C Z : Int → Int} (t : Turn S C Z) {x0 y0 M : Int} (hM : nm x0 y0 M) {i : Nat} (hi : i ≤ 26) {x y n : Int} (h : Inv S C Z x0 y0 M i x y n)
    (h1 : -10000000000000 ≤ n) (h2 : n ≤ 10000000000000) : nm (1099511627776 * x) (1099511627776 * y) (H i * M + (A i * M + B i)) := by
  have hH : 0 ≤ H i := by
    by_cases c : i < 26
    · exact H_nonneg i c
    · obtain rfl : i = 26 := by omega
      decide
  have k1 := nm_scale hH (nm_mul hM (nm_unit t.rot n (by omega) (by omega)))
  have k2 := nm_add h k1
  refine nm_cancel t.rot.pos (nm_congr k2 ?_ ?_ ?_)
  · rw [Int.sub_add_cancel]; simp only [Int.mul_assoc, Int.mul_comm, Int.mul_left_comm]
  · rw [Int.sub_add_cancel]; simp only [Int.mul_assoc, Int.mul_comm, Int.mul_left_comm]
  · simp only [Int.mul_add, Int.add_mul, Int.mul_assoc, Int.mul_comm, Int.mul_left_comm]; omega

def okL (i : Nat) : Bool := decide (H i ≤ 1810632051965) && decide (A i ≤ 476) && decide (B i ≤ 47008012629411)
theorem okL_all : (List.range 27).all okL = true := by decide +kernel
theorem len_bd {S : Int} {C Z : Int → Int} (t : Turn S C Z) {x0 y0 M : Int} (hM : nm x0 y0 M) {i : Nat} (hi : i ≤ 26) {x y n : Int} (h : Inv S C Z x0 y0 M i x y n)
    (h1 : -10000000000000 ≤ n) (h2 : n ≤ 10000000000000) (hb : M ≤ 1729382256910270464) : -4000000000000000000 ≤ x ∧ x ≤ 4000000000000000000 ∧ -4000000000000000000 ≤ y ∧ y ≤ 4000000000000000000 := by
  have k := inv_len t hM hi h h1 h2
  have l := List.all_eq_true.1 okL_all i (List.mem_range.2 (by omega))
  simp only [okL, Bool.and_eq_true, decide_eq_true_eq] at l
  have m1 := Int.mul_le_mul_of_nonneg_right l.1.1 hM.1
  have m2 := Int.mul_le_mul_of_nonneg_right l.1.2 hM.1
  have a := nm_re k
  have b := nm_im k
  omega

/-! ### near a turn -/

theorem turn_step {S : Int} {C Z : Int → Int} (t : Turn S C Z) (n : Int) (h1 : -10000000000000 ≤ n) (h2 : n ≤ 10000000000000) :
    nm (18446744073709551616 * (C (n + 1) - C n)) (18446744073709551616 * (Z (n + 1) - Z n)) (321956421 * S) := by
  have k := nm_mul (nm_unit t.rot n (by omega) (by omega)) t.step
  have a := t.rot.addC n 1 (by omega) (by omega) (by omega) (by omega) (by omega) (by omega)
  have b := t.rot.addZ n 1 (by omega) (by omega) (by omega) (by omega) (by omega) (by omega)
  have p := t.rot.pos
  generalize C (n + 1) = c' at *
  generalize Z (n + 1) = z' at *
  generalize C n = c at *
  generalize Z n = z at *
  generalize C 1 = c1 at *
  generalize Z 1 = z1 at *
  refine nm_cancel p (nm_congr k ?_ ?_ ?_)
  · rw [show S * (18446744073709551616 * (c' - c)) = 18446744073709551616 * (S * (c' - c)) from Int.mul_left_comm _ _ _, Int.mul_left_comm c, Int.mul_left_comm z]
    simp only [Int.mul_sub, Int.mul_add]
    rw [Int.mul_comm S c]
    omega
  · rw [show S * (18446744073709551616 * (z' - z)) = 18446744073709551616 * (S * (z' - z)) from Int.mul_left_comm _ _ _, Int.mul_left_comm c, Int.mul_left_comm z]
    simp only [Int.mul_sub, Int.mul_add]
    rw [Int.mul_comm S z]
    omega
  · simp only [Int.mul_assoc, Int.mul_comm, Int.mul_left_comm]

theorem turn_steps {S : Int} {C Z : Int → Int} (t : Turn S C Z) (n : Int) (h1 : -10000000000000 ≤ n) (h2 : n ≤ 9999999990000) : ∀ k : Nat, k ≤ 10000 →
    nm (18446744073709551616 * (C (n + k) - C n)) (18446744073709551616 * (Z (n + k) - Z n)) (k * 321956421 * S) := by
  intro k
  induction k with
  | zero => intro _; exact nm_congr nm_zero (by simp) (by simp) (by simp)
  | succ k ih =>
    intro hk
    have a := nm_add (ih (by omega)) (turn_step t (n + k) (by omega) (by omega))
    rw [show n + (k : Int) + 1 = n + ((k + 1 : Nat) : Int) by omega] at a
    refine nm_congr a (by omega) (by omega) ?_
    have e : ((k + 1 : Nat) : Int) * 321956421 = k * 321956421 + 321956421 := by omega
    rw [e, Int.add_mul]

theorem turn_near {S : Int} {C Z : Int → Int} (t : Turn S C Z) (n m b : Int) (h1 : -10000000000 * 900 ≤ n) (h2 : n ≤ 10000000000 * 900) (hb : b ≤ 10000) (hm1 : n - m ≤ b) (hm2 : m - n ≤ b) :
    nm (18446744073709551616 * (C n - C m)) (18446744073709551616 * (Z n - Z m)) (b * 321956421 * S) := by
  have p := Int.le_of_lt t.rot.pos
  by_cases c : m ≤ n
  · obtain ⟨k, hk⟩ := Int.eq_ofNat_of_zero_le (show 0 ≤ n - m by omega)
    have a := turn_steps t m (by omega) (by omega) k (by omega)
    rw [show m + (k : Int) = n by omega] at a
    exact nm_mono a (Int.mul_le_mul_of_nonneg_right (by omega) p)
  · obtain ⟨k, hk⟩ := Int.eq_ofNat_of_zero_le (show 0 ≤ m - n by omega)
    have a := turn_steps t n (by omega) (by omega) k (by omega)
    rw [show n + (k : Int) = m by omega] at a
    refine nm_mono (nm_congr (nm_neg a) (by omega) (by omega) rfl) (Int.mul_le_mul_of_nonneg_right (by omega) p)

theorem turn_quarter {S : Int} {C Z : Int → Int} (t : Turn S C Z) (n : Int) (h1 : -10000000000000 ≤ n) (h2 : n ≤ 10000000000000) :
    nm (18446744073709551616 * (C (n + 90000000000) + Z n)) (18446744073709551616 * (Z (n + 90000000000) - C n)) (16 * S) := by
  have k := nm_mul (nm_unit t.rot n (by omega) (by omega)) t.quarter
  have a := t.rot.addC n 90000000000 (by omega) (by omega) (by omega) (by omega) (by omega) (by omega)
  have b := t.rot.addZ n 90000000000 (by omega) (by omega) (by omega) (by omega) (by omega) (by omega)
  have p := t.rot.pos
  generalize C (n + 90000000000) = c' at *
  generalize Z (n + 90000000000) = z' at *
  generalize C n = c at *
  generalize Z n = z at *
  generalize C 90000000000 = c1 at *
  generalize Z 90000000000 = z1 at *
  refine nm_cancel p (nm_congr k ?_ ?_ ?_)
  · rw [show S * (18446744073709551616 * (c' + z)) = 18446744073709551616 * (S * (c' + z)) from Int.mul_left_comm _ _ _, Int.mul_left_comm c, Int.mul_left_comm z]
    simp only [Int.mul_sub, Int.mul_add]
    rw [Int.mul_comm S z]
    omega
  · rw [show S * (18446744073709551616 * (z' - c)) = 18446744073709551616 * (S * (z' - c)) from Int.mul_left_comm _ _ _, Int.mul_left_comm c, Int.mul_left_comm z]
    simp only [Int.mul_sub, Int.mul_add]
    rw [Int.mul_comm S c]
    omega
  · simp only [Int.mul_assoc, Int.mul_comm, Int.mul_left_comm]

/-- The point (x, y) is (2^30, 0), turned by n, up to e units of 2^-34. -/
def Pr (S : Int) (C Z : Int → Int) (x y n e : Int) : Prop := nm (17179869184 * (S * x) - 18446744073709551616 * C n) (17179869184 * (S * y) - 18446744073709551616 * Z n) (S * e)

theorem pr_quarter {S : Int} {C Z : Int → Int} (t : Turn S C Z) {x y n e : Int} (h : Pr S C Z x y n e) (h1 : -10000000000000 ≤ n) (h2 : n ≤ 10000000000000) : Pr S C Z (-y) x (n + 90000000000) (e + 16) := by
  have k := nm_sub (nm_quarter h) (turn_quarter t n h1 h2)
  refine nm_congr k ?_ ?_ ?_
  · rw [Int.mul_neg]; omega
  · omega
  · rw [Int.mul_add]; omega

theorem pr_back {S : Int} {C Z : Int → Int} (t : Turn S C Z) {x y n e : Int} (h : Pr S C Z x y n e) (h1 : -9000000000000 ≤ n) (h2 : n ≤ 10000000000000) : Pr S C Z y (-x) (n - 90000000000) (e + 16) := by
  have q := turn_quarter t (n - 90000000000) (by omega) (by omega)
  rw [show n - 90000000000 + 90000000000 = n by omega] at q
  have k := nm_neg (nm_quarter (nm_add h q))
  refine nm_congr k ?_ ?_ ?_
  · omega
  · rw [Int.mul_neg]; omega
  · rw [Int.mul_add]; omega

/-- Quarter turns. -/
def qt : Nat → Int × Int → Int × Int
  | 0, p => p
  | k + 1, p => (-(qt k p).2, (qt k p).1)

theorem pr_qt {S : Int} {C Z : Int → Int} (t : Turn S C Z) {p : Int × Int} {n e : Int} (h : Pr S C Z p.1 p.2 n e) (h1 : -9000000000000 ≤ n) (h2 : n ≤ 9000000000000) : ∀ k : Nat, k ≤ 10 → Pr S C Z (qt k p).1 (qt k p).2 (n + 90000000000 * k) (e + 16 * k) := by
  intro k
  induction k with
  | zero => intro _; exact nm_congr h (by simp [qt]) (by simp [qt]) (by simp)
  | succ k ih =>
    intro hk
    have a := pr_quarter t (ih (by omega)) (by omega) (by omega)
    rw [show n + 90000000000 * (k : Int) + 90000000000 = n + 90000000000 * ((k + 1 : Nat) : Int) by omega, show e + 16 * (k : Int) + 16 = e + 16 * ((k + 1 : Nat) : Int) by omega] at a
    exact a

theorem pr_full {S : Int} {C Z : Int → Int} (t : Turn S C Z) {x y n e : Int} (h : Pr S C Z x y n e) (h1 : -8000000000000 ≤ n) (h2 : n ≤ 8000000000000) : Pr S C Z x y (n + 360000000000) (e + 64) := by
  have a := pr_quarter t (pr_quarter t (pr_quarter t (pr_quarter t h (by omega) (by omega)) (by omega) (by omega)) (by omega) (by omega)) (by omega) (by omega)
  rwa [Int.neg_neg, Int.neg_neg, show n + 90000000000 + 90000000000 + 90000000000 + 90000000000 = n + 360000000000 by omega, show e + 16 + 16 + 16 + 16 = e + 64 by omega] at a

theorem pr_unfull {S : Int} {C Z : Int → Int} (t : Turn S C Z) {x y n e : Int} (h : Pr S C Z x y n e) (h1 : -8000000000000 ≤ n) (h2 : n ≤ 8000000000000) : Pr S C Z x y (n - 360000000000) (e + 64) := by
  have a := pr_back t (pr_back t (pr_back t (pr_back t h (by omega) (by omega)) (by omega) (by omega)) (by omega) (by omega)) (by omega) (by omega)
  rwa [Int.neg_neg, Int.neg_neg, show n - 90000000000 - 90000000000 - 90000000000 - 90000000000 = n - 360000000000 by omega, show e + 16 + 16 + 16 + 16 = e + 64 by omega] at a

/-! ### sine and cosine -/

/-- The point before the quarter turns. -/
def bs (rest : Int) : Int × Int := if rest = 0 then (1073741824, 0) else ((rs rest 26).1, (rs rest 26).2.1)
/-- The quarter turns of an angle, and what is left of it. -/
def kk (a : Int) : Int := (a % 360000000 + 45000000) / 90000000
def rest (a : Int) : Int := a % 360000000 - kk a * 90000000
/-- Cosine and sine. -/
def sc (a : Int) : Int × Int := qt (kk a).toNat (bs (rest a))

theorem kk_bd (a : Int) : 0 ≤ kk a ∧ kk a ≤ 4 ∧ -45000000 ≤ rest a ∧ rest a < 45000000 ∧ rest a + kk a * 90000000 = a % 360000000 := by
  unfold rest kk
  omega

theorem bs_pr {S : Int} {C Z : Int → Int} (t : Turn S C Z) (r : Int) (h1 : -45000000 ≤ r) (h2 : r ≤ 45000000) : Pr S C Z (bs r).1 (bs r).2 (r * 1000) 1300000000000 := by
  have p := t.rot.pos
  unfold bs
  by_cases c : r = 0
  · subst c
    rw [if_pos rfl]
    unfold Pr
    rw [Int.zero_mul, t.rot.zeroC, t.rot.zeroZ]
    refine nm_mono (nm_congr nm_zero ?_ ?_ rfl) (Int.mul_nonneg (Int.le_of_lt p) (by decide))
    · dsimp only; omega
    · simp
  · rw [if_neg c]
    have h := rs_inv t r h1 h2 26 (by decide)
    have z := rs_z r h1 h2 26 (by decide)
    rw [zb_end] at z
    generalize (rs r 26).2.2 = zz at *
    generalize (rs r 26).1 = x at *
    generalize (rs r 26).2.1 = y at *
    have u := nm_unit t.rot (r * 1000 - zz) (by omega) (by omega)
    have nr := turn_near t (r * 1000 - zz) (r * 1000) 1708 (by omega) (by omega) (by omega) (by omega) (by omega)
    unfold Inv at h
    unfold Pr
    rw [show H 26 = 1810632051964 from rfl, show A 26 = 476 from rfl, show B 26 = 47008012629411 from rfl] at h
    generalize C (r * 1000 - zz) = c1 at *
    generalize Z (r * 1000 - zz) = z1 at *
    generalize C (r * 1000) = c2 at *
    generalize Z (r * 1000) = z2 at *
    have g := nm_add (nm_sub (nm_scale (show (0 : Int) ≤ 17179869184 by decide) h) (nm_scale (show (0 : Int) ≤ 17179869184 by decide) (nm_scale (show (0 : Int) ≤ 118807038888 by decide) u))) (nm_scale (show (0 : Int) ≤ 1099511627776 by decide) nr)
    refine nm_cancel (k := 1099511627776) (by decide) (nm_mono (nm_congr g ?_ ?_ rfl) ?_)
    · rw [Int.mul_assoc]; generalize S * x = X; omega
    · rw [Int.mul_assoc]; generalize S * y = Y; omega
    · omega

theorem sc_pr0 {S : Int} {C Z : Int → Int} (t : Turn S C Z) (a : Int) : Pr S C Z (sc a).1 (sc a).2 ((a % 360000000) * 1000) 1300000000064 := by
  obtain ⟨k0, k1, r0, r1, e⟩ := kk_bd a
  have b := bs_pr t (rest a) r0 (by omega)
  have q := pr_qt t b (by omega) (by omega) (kk a).toNat (by omega)
  unfold Pr at q ⊢
  rw [show (sc a) = qt (kk a).toNat (bs (rest a)) from rfl]
  rw [show rest a * 1000 + 90000000000 * ((kk a).toNat : Int) = a % 360000000 * 1000 by omega] at q
  exact nm_mono q (Int.mul_le_mul_of_nonneg_left (by omega) (Int.le_of_lt t.rot.pos))

theorem sc_pr {S : Int} {C Z : Int → Int} (t : Turn S C Z) (a : Int) (h1 : -360000000 ≤ a) (h2 : a < 720000000) : Pr S C Z (sc a).1 (sc a).2 (a * 1000) 1300000000128 := by
  have p := Int.le_of_lt t.rot.pos
  have h := sc_pr0 t a
  by_cases c : a < 0
  · have := pr_unfull t h (by omega) (by omega)
    rwa [show a % 360000000 * 1000 - 360000000000 = a * 1000 by omega] at this
  · by_cases d : a < 360000000
    · rw [show a % 360000000 = a by omega] at h
      exact nm_mono h (Int.mul_le_mul_of_nonneg_left (by omega) p)
    · have := pr_full t h (by omega) (by omega)
      rwa [show a % 360000000 * 1000 + 360000000000 = a * 1000 by omega] at this

theorem rs_bd (r : Int) (h1 : -45000000 ≤ r) (h2 : r ≤ 45000000) (i : Nat) (hi : i ≤ 26) :
    -4000000000000000000 ≤ (rs r i).1 ∧ (rs r i).1 ≤ 4000000000000000000 ∧ -4000000000000000000 ≤ (rs r i).2.1 ∧ (rs r i).2.1 ≤ 4000000000000000000 ∧ -45000000000 ≤ (rs r i).2.2 ∧ (rs r i).2.2 ≤ 45000000000 := by
  obtain ⟨S, C, Z, t⟩ := exists_turn
  have z := rs_z r h1 h2 i hi
  have b := zb_bd i hi
  have k := len_bd t (show nm 652032874 0 652032874 from ⟨by decide, by decide⟩) hi (rs_inv t r h1 h2 i hi) (by omega) (by omega) (by decide)
  omega

/-- Cosines and sines are at most 2^30 + 76. -/
theorem sc_bd (a : Int) : nm (sc a).1 (sc a).2 1073741900 := by
  obtain ⟨S, C, Z, t⟩ := exists_turn
  have h := sc_pr0 t a
  have u := nm_scale (show (0 : Int) ≤ 18446744073709551616 by decide) (nm_unit t.rot (a % 360000000 * 1000) (by omega) (by omega))
  unfold Pr at h
  have k := nm_add h u
  have p := t.rot.pos
  refine nm_cancel (k := 17179869184 * S) (by omega) (nm_mono (nm_congr k ?_ ?_ rfl) ?_)
  · rw [Int.mul_assoc]; omega
  · rw [Int.mul_assoc]; omega
  · omega

end Go.Proofs.YtnjcbgnghfppoaaDoor.Cm

/- Plain: the direction of a point as the algorithm computes it turns the axis to the point, nearly. -/
set_option linter.unusedVariables false
set_option linter.unusedSimpArgs false
namespace Go.Proofs.YtnjcbgnghfppoaaDoor.Cm

/-- The point and the angle that has been used up, after i steps to the axis. -/
def vs (x0 y0 : Int) : Nat → Int × Int × Int
  | 0 => (x0, y0, 0)
  | i + 1 => if 0 ≤ (vs x0 y0 i).2.1 then (rx i (vs x0 y0 i).1 (vs x0 y0 i).2.1, ry i (vs x0 y0 i).1 (vs x0 y0 i).2.1, (vs x0 y0 i).2.2 + T i)
    else (lx i (vs x0 y0 i).1 (vs x0 y0 i).2.1, ly i (vs x0 y0 i).1 (vs x0 y0 i).2.1, (vs x0 y0 i).2.2 - T i)
theorem vs_succ (x0 y0 : Int) (i : Nat) : vs x0 y0 (i + 1) = if 0 ≤ (vs x0 y0 i).2.1 then (rx i (vs x0 y0 i).1 (vs x0 y0 i).2.1, ry i (vs x0 y0 i).1 (vs x0 y0 i).2.1, (vs x0 y0 i).2.2 + T i)
    else (lx i (vs x0 y0 i).1 (vs x0 y0 i).2.1, ly i (vs x0 y0 i).1 (vs x0 y0 i).2.1, (vs x0 y0 i).2.2 - T i) := rfl

/-- The sum of the angles. -/
def st : Nat → Int
  | 0 => 0
  | i + 1 => st i + T i
theorem st_le : (List.range 27).all (fun i => decide (0 ≤ st i) && decide (st i ≤ 100000000000)) = true := by decide +kernel
theorem st_bd (i : Nat) (hi : i ≤ 26) : 0 ≤ st i ∧ st i ≤ 100000000000 := by
  have := List.all_eq_true.1 st_le i (List.mem_range.2 (by omega))
  simpa only [Bool.and_eq_true, decide_eq_true_eq] using this

theorem vs_z (x0 y0 : Int) : ∀ i : Nat, i ≤ 26 → -st i ≤ (vs x0 y0 i).2.2 ∧ (vs x0 y0 i).2.2 ≤ st i := by
  intro i
  induction i with
  | zero => intro _; simp [vs, st]
  | succ i ih =>
    intro hi
    have k := ih (by omega)
    have t := bd_T i (by omega)
    rw [vs_succ, st]
    by_cases c : 0 ≤ (vs x0 y0 i).2.1
    · rw [if_pos c]; dsimp only; omega
    · rw [if_neg c]; dsimp only; omega

theorem vs_inv {S : Int} {C Z : Int → Int} (t : Turn S C Z) {x0 y0 M : Int} (hM : nm x0 y0 M) : ∀ i : Nat, i ≤ 26 →
    Inv S C Z x0 y0 M i (vs x0 y0 i).1 (vs x0 y0 i).2.1 (-(vs x0 y0 i).2.2) := by
  intro i
  induction i with
  | zero =>
    intro _
    have := inv_zero t x0 y0 M hM.1
    simpa only [vs, Int.neg_zero] using this
  | succ i ih =>
    intro hi
    have k := ih (by omega)
    have z := vs_z x0 y0 i (by omega)
    have zz := st_bd i (by omega)
    rw [vs_succ]
    by_cases c : 0 ≤ (vs x0 y0 i).2.1
    · rw [if_pos c]
      have := inv_right t hM (by omega) k (by omega) (by omega)
      dsimp only
      rwa [show -(vs x0 y0 i).2.2 - T i = -((vs x0 y0 i).2.2 + T i) by omega] at this
    · rw [if_neg c]
      have := inv_left t hM (by omega) k (by omega) (by omega)
      dsimp only
      rwa [show -(vs x0 y0 i).2.2 + T i = -((vs x0 y0 i).2.2 - T i) by omega] at this

theorem vs_bd (x0 y0 : Int) (hx : 0 ≤ x0) (hx' : x0 ≤ 1152921504606846976) (h1 : -x0 ≤ y0) (h2 : y0 ≤ x0) (i : Nat) (hi : i ≤ 26) :
    -4000000000000000000 ≤ (vs x0 y0 i).1 ∧ (vs x0 y0 i).1 ≤ 4000000000000000000 ∧ -4000000000000000000 ≤ (vs x0 y0 i).2.1 ∧ (vs x0 y0 i).2.1 ≤ 4000000000000000000 ∧ -100000000000 ≤ (vs x0 y0 i).2.2 ∧ (vs x0 y0 i).2.2 ≤ 100000000000 := by
  obtain ⟨S, C, Z, t⟩ := exists_turn
  have z := vs_z x0 y0 i hi
  have b := st_bd i hi
  have hM : nm x0 y0 1729382256910270464 := nm_box (p := 1152921504606846976) (by omega) (by omega) (by omega) (by omega) (by decide) (by decide)
  have k := len_bd t hM hi (vs_inv t hM i hi) (by omega) (by omega) (by decide)
  omega

/-- The point stands to the right, nearly on the axis. -/
def Ax (i : Nat) (X Y : Int) : Prop := 0 ≤ X ∧ 2 ^ i * Y ≤ 2 * X + i * 2 ^ i ∧ -(2 * X + i * 2 ^ i) ≤ 2 ^ i * Y

/-- One step brings the point nearer to the axis. -/
theorem ax_plain (p j X Y : Int) (hp : 0 < p) (hj : 0 ≤ j) (h0 : 0 ≤ X) (h1 : p * Y ≤ 2 * X + j * p) (h2 : -(2 * X + j * p) ≤ p * Y) :
    (0 ≤ Y → 0 ≤ X + Y / p ∧ p * 2 * (Y - X / p) ≤ 2 * (X + Y / p) + (j + 1) * (p * 2) ∧ -(2 * (X + Y / p) + (j + 1) * (p * 2)) ≤ p * 2 * (Y - X / p)) ∧
    (Y < 0 → 0 ≤ X - Y / p ∧ p * 2 * (Y + X / p) ≤ 2 * (X - Y / p) + (j + 1) * (p * 2) ∧ -(2 * (X - Y / p) + (j + 1) * (p * 2)) ≤ p * 2 * (Y + X / p)) := by
  have d2 := Int.emod_add_mul_ediv X p
  have a3 := Int.emod_nonneg X (show p ≠ 0 by omega)
  have a4 := Int.emod_lt_of_pos X hp
  have jp := Int.mul_nonneg hj (Int.le_of_lt hp)
  have pq : 0 ≤ X / p := Int.ediv_nonneg h0 (Int.le_of_lt hp)
  have e1 : (j + 1) * (p * 2) = 2 * (j * p) + 2 * p := by rw [Int.add_mul, ← Int.mul_assoc]; omega
  have e2 : p * 2 * (Y - X / p) = 2 * (p * Y) - 2 * (p * (X / p)) := by rw [Int.mul_comm p 2, Int.mul_assoc, Int.mul_sub]; omega
  have e3 : p * 2 * (Y + X / p) = 2 * (p * Y) + 2 * (p * (X / p)) := by rw [Int.mul_comm p 2, Int.mul_assoc, Int.mul_add]; omega
  rw [e1, e2, e3]
  refine ⟨fun hY => ?_, fun hY => ?_⟩
  · have y0 : 0 ≤ Y / p := Int.ediv_nonneg hY (Int.le_of_lt hp)
    have y1 : 0 ≤ p * Y := Int.mul_nonneg (Int.le_of_lt hp) hY
    generalize X / p = q at *
    generalize Y / p = q' at *
    omega
  · have y0 : Y / p < 0 := Int.ediv_neg_of_neg_of_pos hY hp
    have y1 : p * Y ≤ 0 := Int.mul_nonpos_of_nonneg_of_nonpos (Int.le_of_lt hp) (by omega)
    generalize X / p = q at *
    generalize Y / p = q' at *
    omega

theorem vs_ax (x0 y0 : Int) (h0 : 0 ≤ x0) (h1 : y0 ≤ x0) (h2 : -x0 ≤ y0) : ∀ i : Nat, Ax i (vs x0 y0 i).1 (vs x0 y0 i).2.1 := by
  intro i
  induction i with
  | zero => simp [Ax, vs]; omega
  | succ i ih =>
    obtain ⟨k0, k1, k2⟩ := ih
    have a := ax_plain (2 ^ i) i _ _ (Int.pow_pos (by decide)) (by omega) k0 k1 k2
    unfold Ax
    rw [vs_succ, Int.pow_succ, show ((i + 1 : Nat) : Int) = i + 1 by omega]
    by_cases c : 0 ≤ (vs x0 y0 i).2.1
    · rw [if_pos c]
      exact a.1 c
    · rw [if_neg c]
      exact a.2 (by omega)

/-- What the run to the axis shows: the point, but for its length, is the axis turned by what was used up. -/
theorem vs_end {S : Int} {C Z : Int → Int} (t : Turn S C Z) {x0 y0 M : Int} (hM : nm x0 y0 M) (h0 : 0 ≤ x0) (h1 : y0 ≤ x0) (h2 : -x0 ≤ y0) :
    nm (1810632051964 * (S * x0) - 1099511627776 * ((vs x0 y0 26).1 * C (vs x0 y0 26).2.2)) (1810632051964 * (S * y0) - 1099511627776 * ((vs x0 y0 26).1 * Z (vs x0 y0 26).2.2))
      (S * (476 * M + 47008012629411 + 32768 * (vs x0 y0 26).1 + 28587302322176)) := by
  have a := vs_ax x0 y0 h0 h1 h2 26
  have k := vs_inv t hM 26 (by decide)
  have z := vs_z x0 y0 26 (by decide)
  have zz := st_bd 26 (by decide)
  have p := t.rot.pos
  unfold Ax at a
  unfold Inv at k
  rw [t.rot.negC, t.rot.negZ, show H 26 = 1810632051964 from rfl, show A 26 = 476 from rfl, show B 26 = 47008012629411 from rfl] at k
  rw [show (2 : Int) ^ 26 = 67108864 from rfl] at a
  generalize (vs x0 y0 26).2.2 = n at *
  generalize (vs x0 y0 26).1 = X at *
  generalize (vs x0 y0 26).2.1 = Y at *
  have u := nm_unit t.rot n (by omega) (by omega)
  have un := t.rot.unit n (by omega) (by omega)
  generalize C n = c at *
  generalize Z n = s at *
  -- the other coordinate
  have ky : nm 0 (67108864 * Y) (2 * X + 26 * 67108864) := ⟨by omega, by
    have := sq_abs (x := 67108864 * Y) (y := 2 * X + 26 * 67108864) (by omega) (by omega)
    omega⟩
  have k2 := nm_mul k u
  have k3 := nm_mul ky u
  have hk : nm (1810632051964 * (S * x0) - 1099511627776 * (X * c - Y * s)) (1810632051964 * (S * y0) - 1099511627776 * (X * s + Y * c)) (S * (476 * M + 47008012629411)) := by
    refine nm_cancel p (nm_congr (nm_neg k2) ?_ ?_ ?_)
    · have e : 1810632051964 * x0 * (c * c + s * s) = 1810632051964 * x0 * (S * S) := by rw [un]
      clear k k2 k3 ky un u hM
      generalize (1810632051964 : Int) = h at *
      generalize (1099511627776 : Int) = q at *
      simp only [Int.mul_neg, Int.neg_mul, Int.mul_add, Int.add_mul, Int.sub_mul, Int.mul_sub, Int.mul_assoc, Int.mul_comm, Int.mul_left_comm] at e ⊢
      omega
    · have e : 1810632051964 * y0 * (c * c + s * s) = 1810632051964 * y0 * (S * S) := by rw [un]
      clear k k2 k3 ky un u hM
      generalize (1810632051964 : Int) = h at *
      generalize (1099511627776 : Int) = q at *
      simp only [Int.mul_neg, Int.neg_mul, Int.mul_add, Int.add_mul, Int.sub_mul, Int.mul_sub, Int.mul_assoc, Int.mul_comm, Int.mul_left_comm] at e ⊢
      omega
    · exact Int.mul_comm _ _
  have k4 := nm_add hk (nm_scale (show (0 : Int) ≤ 16384 by decide) k3)
  refine nm_mono (nm_congr k4 ?_ ?_ rfl) ?_
  · rw [Int.mul_assoc 67108864 Y s]; generalize Y * s = ys; generalize X * c = xc; generalize S * x0 = sx; omega
  · rw [Int.mul_assoc 67108864 Y c]; generalize Y * c = ys; generalize X * s = xc; generalize S * y0 = sx; omega
  · have e1 : (2 * X + 26 * 67108864) * S = 2 * (S * X) + 26 * 67108864 * S := by rw [Int.add_mul, Int.mul_assoc, Int.mul_comm X S]
    have e2 : S * (476 * M + 47008012629411 + 32768 * X + 28587302322176) = S * (476 * M + 47008012629411) + 32768 * (S * X) + S * 28587302322176 := by
      rw [Int.mul_add, Int.mul_add, Int.mul_left_comm S 32768 X]
    rw [e1, e2]
    omega

end Go.Proofs.YtnjcbgnghfppoaaDoor.Cm

/- Plain: the quarter in which a point lies, and its direction. -/
set_option linter.unusedVariables false
set_option linter.unusedSimpArgs false
namespace Go.Proofs.YtnjcbgnghfppoaaDoor.Cm

/-- Quarter turns backward. -/
def bk : Nat → Int × Int → Int × Int
  | 0, p => p
  | j + 1, p => ((bk j p).2, -(bk j p).1)
/-- The point lies in the quarter about the axis. -/
def inQ (x y : Int) : Bool := decide (-x ≤ y) && decide (y < x)
/-- The quarter turns that lead a point back there. -/
def qn (x y : Int) : Nat := if inQ x y then 0 else if inQ y (-x) then 1 else if inQ (-x) (-y) then 2 else 3

theorem inQ_t {x y : Int} (h1 : -x ≤ y) (h2 : y < x) : inQ x y = true := by unfold inQ; simp; omega
theorem inQ_f {x y : Int} (h : y < -x ∨ x ≤ y) : inQ x y = false := by unfold inQ; simp; omega
theorem inQ_bd {x y : Int} (h : inQ x y = true) : -x ≤ y ∧ y < x := by unfold inQ at h; simpa using h
theorem inQ_no {x y : Int} (h : inQ x y = false) : y < -x ∨ x ≤ y := by
  by_cases c : -x ≤ y ∧ y < x
  · rw [inQ_t c.1 c.2] at h; cases h
  · omega

theorem qn_le (x y : Int) : qn x y ≤ 3 := by
  unfold qn
  split
  · omega
  · split
    · omega
    · split <;> omega

theorem bk_at (x y : Int) : bk 0 (x, y) = (x, y) ∧ bk 1 (x, y) = (y, -x) ∧ bk 2 (x, y) = (-x, -y) ∧ bk 3 (x, y) = (-y, x) := by simp [bk]

theorem qn_in (x y : Int) (h : ¬ (x = 0 ∧ y = 0)) : inQ (bk (qn x y) (x, y)).1 (bk (qn x y) (x, y)).2 = true := by
  obtain ⟨b0, b1, b2, b3⟩ := bk_at x y
  unfold qn
  cases c0 : inQ x y
  · cases c1 : inQ y (-x)
    · cases c2 : inQ (-x) (-y)
      · simp only [Bool.false_eq_true, if_false, b3]
        have := inQ_no c0
        have := inQ_no c1
        have := inQ_no c2
        exact inQ_t (by omega) (by omega)
      · simp only [Bool.false_eq_true, if_false, if_true, b2, c2]
    · simp only [Bool.false_eq_true, if_false, if_true, b1, c1]
  · simp only [if_true, b0, c0]

theorem qn_before (x y : Int) (j : Nat) (hj : j < qn x y) : inQ (bk j (x, y)).1 (bk j (x, y)).2 = false := by
  obtain ⟨b0, b1, b2, b3⟩ := bk_at x y
  unfold qn at hj
  cases c0 : inQ x y
  · rw [c0] at hj
    cases c1 : inQ y (-x)
    · rw [c1] at hj
      cases c2 : inQ (-x) (-y)
      · rw [c2] at hj
        simp at hj
        rcases (show j = 0 ∨ j = 1 ∨ j = 2 by omega) with rfl | rfl | rfl
        · rw [b0]; exact c0
        · rw [b1]; exact c1
        · rw [b2]; exact c2
      · rw [c2] at hj
        simp at hj
        rcases (show j = 0 ∨ j = 1 by omega) with rfl | rfl
        · rw [b0]; exact c0
        · rw [b1]; exact c1
    · rw [c1] at hj
      simp at hj
      obtain rfl : j = 0 := by omega
      rw [b0]; exact c0
  · rw [c0] at hj
    simp at hj

theorem bk_bd (x y b : Int) (h1 : -b ≤ x) (h2 : x ≤ b) (h3 : -b ≤ y) (h4 : y ≤ b) (j : Nat) : -b ≤ (bk j (x, y)).1 ∧ (bk j (x, y)).1 ≤ b ∧ -b ≤ (bk j (x, y)).2 ∧ (bk j (x, y)).2 ≤ b := by
  induction j with
  | zero => exact ⟨h1, h2, h3, h4⟩
  | succ j ih => simp only [bk]; omega

/-- What is left of the direction, in 10^-9 degrees. -/
def rz (x y : Int) : Int := (vs ((bk (qn x y) (x, y)).1 * 1048576) ((bk (qn x y) (x, y)).2 * 1048576) 26).2.2
/-- The same in millionths, rounded. -/
def rr (x y : Int) : Int := if (bk (qn x y) (x, y)).2 = 0 then 0 else (rz x y + 500) / 1000
/-- The direction. -/
def ang (x y : Int) : Int := ((qn x y : Int) * 90000000 + rr x y) % 360000000
/-- Whether a point has one. -/
def aok (x y : Int) : Bool := !(decide (x = 0) && decide (y = 0)) && decide (-1099511627776 ≤ x) && decide (x ≤ 1099511627776) && decide (-1099511627776 ≤ y) && decide (y ≤ 1099511627776)
def angv (x y : Int) : Int := if aok x y then ang x y else 0
theorem aok_t {x y : Int} (h : ¬ (x = 0 ∧ y = 0)) (h1 : -1099511627776 ≤ x) (h2 : x ≤ 1099511627776) (h3 : -1099511627776 ≤ y) (h4 : y ≤ 1099511627776) : aok x y = true := by
  unfold aok; simp; omega
theorem aok_f {x y : Int} (h : (x = 0 ∧ y = 0) ∨ x < -1099511627776 ∨ 1099511627776 < x ∨ y < -1099511627776 ∨ 1099511627776 < y) : aok x y = false := by
  cases c : aok x y
  · rfl
  · unfold aok at c; simp at c; omega

end Go.Proofs.YtnjcbgnghfppoaaDoor.Cm

/- Plain: what the sines and cosines of the algorithm show of each other: the circle, the addition theorem, the opposite angle, rotations there and back, lengths, quarters. -/
set_option linter.unusedVariables false
set_option linter.unusedSimpArgs false
namespace Go.Proofs.YtnjcbgnghfppoaaDoor.Cm

/-! ### quarters -/

theorem qt_four (k : Nat) (p : Int × Int) : qt (k + 4) p = qt k p := by
  simp [qt]

theorem sc_mod (a b : Int) (h : a % 360000000 = b % 360000000) : sc a = sc b := by
  unfold sc rest kk
  rw [h]

theorem sc_quarter (a : Int) : sc (a + 90000000) = (-(sc a).2, (sc a).1) := by
  have e : ∀ k : Nat, ∀ p : Int × Int, (-(qt k p).2, (qt k p).1) = qt (k + 1) p := fun k p => rfl
  unfold sc
  rw [e]
  have r : rest (a + 90000000) = rest a := by unfold rest kk; omega
  rw [r]
  by_cases c : a % 360000000 < 270000000
  · rw [show (kk (a + 90000000)).toNat = (kk a).toNat + 1 by unfold kk; omega]
  · rw [← qt_four (kk (a + 90000000)).toNat]
    congr 1
    unfold kk
    omega

theorem sc_full (a : Int) : sc (a - 360000000) = sc a := sc_mod _ _ (by omega)

theorem sc_half (a : Int) : sc (a + 180000000) = (-(sc a).1, -(sc a).2) := by
  rw [show a + 180000000 = a + 90000000 + 90000000 by omega, sc_quarter, sc_quarter]

theorem sc_right (k : Int) : sc (k * 90000000) = qt (k % 4).toNat (1073741824, 0) := by
  have h : sc (k * 90000000) = sc (k % 4 * 90000000) := sc_mod _ _ (by omega)
  rw [h]
  rcases (show k % 4 = 0 ∨ k % 4 = 1 ∨ k % 4 = 2 ∨ k % 4 = 3 by omega) with e | e | e | e
  all_goals
    rw [e]
    decide +kernel

/-! ### the circle -/

theorem sc_hi (a : Int) : (sc a).1 * (sc a).1 + (sc a).2 * (sc a).2 ≤ 1152921667815610000 := by
  have h := (sc_bd a).2
  omega

theorem nm_lo {S c s R e L : Int} {u v : Int} (hS : 0 < S) (hR : 0 ≤ R) (hu : u * u + v * v = S * S) (h : nm (17179869184 * (S * c) - 18446744073709551616 * u) (17179869184 * (S * s) - 18446744073709551616 * v) (S * e))
    (hL : c * c + s * s ≤ R * R) (hb : 17179869184 * R + e < 18446744073709551616) : False := by
  have k1 : nm c s R := ⟨hR, hL⟩
  have k2 := nm_sub (nm_scale (show (0 : Int) ≤ 17179869184 by decide) (nm_scale (Int.le_of_lt hS) k1)) h
  have k3 : nm (18446744073709551616 * u) (18446744073709551616 * v) (17179869184 * (S * R) + S * e) := nm_congr k2 (by omega) (by omega) rfl
  have e1 : 18446744073709551616 * u * (18446744073709551616 * u) + 18446744073709551616 * v * (18446744073709551616 * v) = 18446744073709551616 * S * (18446744073709551616 * S) := by
    have : 18446744073709551616 * 18446744073709551616 * (u * u + v * v) = 18446744073709551616 * 18446744073709551616 * (S * S) := by rw [hu]
    generalize (18446744073709551616 : Int) = q at *
    simp only [Int.mul_add, Int.mul_assoc, Int.mul_comm, Int.mul_left_comm] at this ⊢
    omega
  have k4 := k3.2
  rw [e1] at k4
  have k5 := le_of_sq k3.1 k4
  have k6 := Int.mul_lt_mul_of_pos_left hb hS
  rw [Int.mul_add, Int.mul_left_comm] at k6
  omega

theorem sc_lo (a : Int) : 1152921339250612009 < (sc a).1 * (sc a).1 + (sc a).2 * (sc a).2 := by
  obtain ⟨S, C, Z, t⟩ := exists_turn
  have h := sc_pr0 t a
  have u := t.rot.unit (a % 360000000 * 1000) (by omega) (by omega)
  by_cases c : 1152921339250612009 < (sc a).1 * (sc a).1 + (sc a).2 * (sc a).2
  · exact c
  · exact absurd (nm_lo (R := 1073741747) (L := 0) t.rot.pos (by decide) u h (by omega) (by decide)) (fun h => h)

/-! ### sums -/

theorem sum_plain (S c s c' s' c'' s'' u v u' v' u'' v'' e : Int) (hS : 0 < S) (he : 0 ≤ e) (hb : nm c s 1073741900) (hu : nm u v S) (hu' : nm u' v' S) (a1 : S * u'' = u * u' - v * v') (a2 : S * v'' = u * v' + v * u')
    (h : nm (17179869184 * (S * c) - 18446744073709551616 * u) (17179869184 * (S * s) - 18446744073709551616 * v) (S * e))
    (h' : nm (17179869184 * (S * c') - 18446744073709551616 * u') (17179869184 * (S * s') - 18446744073709551616 * v') (S * e))
    (h'' : nm (17179869184 * (S * c'') - 18446744073709551616 * u'') (17179869184 * (S * s'') - 18446744073709551616 * v'') (S * e)) :
    nm (17179869184 * (c * c' - s * s') - 18446744073709551616 * c'') (17179869184 * (c * s' + s * c') - 18446744073709551616 * s'') (e * 3221225548) := by
  have S0 := Int.le_of_lt hS
  have k1 := nm_mul (nm_scale (show (0 : Int) ≤ 17179869184 by decide) (nm_scale S0 hb)) h'
  have k2 := nm_mul h (nm_scale (show (0 : Int) ≤ 18446744073709551616 by decide) hu')
  have k3 := nm_scale (show (0 : Int) ≤ 18446744073709551616 by decide) (nm_scale S0 h'')
  have k4 := nm_sub (nm_add k1 k2) k3
  have p : 0 < 17179869184 * (S * S) := by have := Int.mul_pos hS hS; omega
  have b1 : 18446744073709551616 * 18446744073709551616 * (S * u'') = 18446744073709551616 * 18446744073709551616 * (u * u' - v * v') := by rw [a1]
  have b2 : 18446744073709551616 * 18446744073709551616 * (S * v'') = 18446744073709551616 * 18446744073709551616 * (u * v' + v * u') := by rw [a2]
  refine nm_cancel p (nm_congr k4 ?_ ?_ ?_)
  · clear k1 k2 k3 k4 h h' h'' hb hu hu' a1 a2 b2 p
    generalize (17179869184 : Int) = r at *
    generalize (18446744073709551616 : Int) = q at *
    simp only [Int.mul_add, Int.add_mul, Int.sub_mul, Int.mul_sub, Int.mul_assoc, Int.mul_comm, Int.mul_left_comm] at b1 ⊢
    omega
  · clear k1 k2 k3 k4 h h' h'' hb hu hu' a1 a2 b1 p
    generalize (17179869184 : Int) = r at *
    generalize (18446744073709551616 : Int) = q at *
    simp only [Int.mul_add, Int.add_mul, Int.sub_mul, Int.mul_sub, Int.mul_assoc, Int.mul_comm, Int.mul_left_comm] at b2 ⊢
    omega
  · have e1 : 17179869184 * (S * 1073741900) * (S * e) = 17179869184 * 1073741900 * (S * (S * e)) := by
      simp only [Int.mul_assoc, Int.mul_comm, Int.mul_left_comm]
    have e2 : S * e * (18446744073709551616 * S) = 18446744073709551616 * (S * (S * e)) := by
      simp only [Int.mul_assoc, Int.mul_comm, Int.mul_left_comm]
    have e3 : 17179869184 * (S * S) * (e * 3221225548) = 17179869184 * 3221225548 * (S * (S * e)) := by
      simp only [Int.mul_assoc, Int.mul_comm, Int.mul_left_comm]
    rw [e1, e2, e3]
    omega

/-- The addition theorem, up to 228 units of 2^-30. -/
theorem sc_sum (a b : Int) (a1 : -360000000 ≤ a) (a2 : a < 360000000) (b1 : -360000000 ≤ b) (b2 : b < 360000000) (c1 : -360000000 ≤ a + b) (c2 : a + b < 720000000) :
    nm ((sc a).1 * (sc b).1 - (sc a).2 * (sc b).2 - 1073741824 * (sc (a + b)).1) ((sc a).1 * (sc b).2 + (sc a).2 * (sc b).1 - 1073741824 * (sc (a + b)).2) 244813135872 := by
  obtain ⟨S, C, Z, t⟩ := exists_turn
  have h := sc_pr t a a1 (by omega)
  have h' := sc_pr t b b1 (by omega)
  have h'' := sc_pr t (a + b) c1 c2
  have p1 := t.rot.addC (a * 1000) (b * 1000) (by omega) (by omega) (by omega) (by omega) (by omega) (by omega)
  have p2 := t.rot.addZ (a * 1000) (b * 1000) (by omega) (by omega) (by omega) (by omega) (by omega) (by omega)
  rw [show a * 1000 + b * 1000 = (a + b) * 1000 by omega] at p1 p2
  have k := sum_plain S _ _ _ _ _ _ _ _ _ _ _ _ 1300000000128 t.rot.pos (by decide) (sc_bd a) (nm_unit t.rot (a * 1000) (by omega) (by omega)) (nm_unit t.rot (b * 1000) (by omega) (by omega)) p1 p2 h h' h''
  refine nm_cancel (k := 17179869184) (by decide) (nm_mono (nm_congr k ?_ ?_ rfl) (by decide))
  · omega
  · omega

/-! ### the opposite angle -/

theorem sc_mirror (a : Int) (a1 : 0 ≤ a) (a2 : a < 360000000) : nm ((sc (-a)).1 - (sc a).1) ((sc (-a)).2 + (sc a).2) 152 := by
  obtain ⟨S, C, Z, t⟩ := exists_turn
  have h := sc_pr t a (by omega) (by omega)
  have h' := sc_pr t (-a) (by omega) (by omega)
  unfold Pr at h h'
  rw [show -a * 1000 = -(a * 1000) by omega, t.rot.negC, t.rot.negZ] at h'
  have k := nm_sub h' (nm_conj h)
  have p := t.rot.pos
  refine nm_cancel (k := 17179869184 * S) (by omega) (nm_mono (nm_congr k ?_ ?_ rfl) ?_)
  · rw [Int.mul_assoc, Int.mul_sub]; omega
  · rw [Int.mul_assoc, Int.mul_add]; omega
  · omega

/-! ### there and back -/

/-- A rounded coordinate. -/
theorem rd_near (n : Int) : -536870912 ≤ 1073741824 * ((n + 536870912) / 1073741824) - n ∧ 1073741824 * ((n + 536870912) / 1073741824) - n ≤ 536870912 := by omega

theorem rounded (X Y x y : Int) (h1 : -536870912 ≤ 1073741824 * x - X) (h2 : 1073741824 * x - X ≤ 536870912) (h3 : -536870912 ≤ 1073741824 * y - Y) (h4 : 1073741824 * y - Y ≤ 536870912) :
    nm (1073741824 * x - X) (1073741824 * y - Y) 759250126 :=
  nm_box (p := 536870912) (by omega) (by omega) (by omega) (by omega) (by decide) (by decide)

/-- A turn of a point, rounded. -/
theorem turn_len (x y c s x' y' M : Int) (hp : nm x y M) (hv : nm c s 1073741900) (h : nm (1073741824 * x' - (x * c - y * s)) (1073741824 * y' - (x * s + y * c)) 759250126) :
    nm (1073741824 * x') (1073741824 * y') (M * 1073741900 + 759250126) := by
  have k := nm_add (nm_mul hp hv) h
  exact nm_congr k (by omega) (by omega) rfl

theorem back_plain (x y c s c' s' x' y' x'' y'' : Int) (hp : nm x y 1482911) (hv : nm c s 1073741900) (hv' : nm c' s' 1073741900)
    (h : nm (1073741824 * x' - (x * c - y * s)) (1073741824 * y' - (x * s + y * c)) 759250126)
    (h' : nm (1073741824 * x'' - (x' * c' - y' * s')) (1073741824 * y'' - (x' * s' + y' * c')) 759250126)
    (hs : nm (c * c' - s * s' - 1073741824 * 1073741824) (c * s' + s * c' - 1073741824 * 0) 244813135872) : -1 ≤ x'' - x ∧ x'' - x ≤ 1 ∧ -1 ≤ y'' - y ∧ y'' - y ≤ 1 := by
  have k1 := nm_mul hp hs
  have k2 := nm_mul h hv'
  have k3 := nm_scale (show (0 : Int) ≤ 1073741824 by decide) h'
  have k4 := nm_add (nm_add k1 k2) k3
  have k5 : nm (1152921504606846976 * (x'' - x)) (1152921504606846976 * (y'' - y)) (1482911 * 244813135872 + 759250126 * 1073741900 + 1073741824 * 759250126) := by
    refine nm_congr k4 ?_ ?_ rfl
    · clear k1 k2 k3 k4 hp hv hv' h h' hs
      simp only [Int.mul_add, Int.add_mul, Int.sub_mul, Int.mul_sub, Int.mul_assoc, Int.mul_comm, Int.mul_left_comm]
      omega
    · clear k1 k2 k3 k4 hp hv hv' h h' hs
      simp only [Int.mul_add, Int.add_mul, Int.sub_mul, Int.mul_sub, Int.mul_assoc, Int.mul_comm, Int.mul_left_comm]
      omega
  have a := nm_re k5
  have b := nm_im k5
  omega

/-! ### lengths -/

/-- The nearest root m of N, the nearest root n of the square of the turned point: they differ by at most 1. -/
theorem len_plain (x y c s x' y' m n : Int) (m0 : 0 ≤ m) (n0 : 0 ≤ n) (mm : m ≤ 1500000) (nn : n ≤ 10000000)
    (m1 : m = 0 ∨ (2 * m - 1) * (2 * m - 1) ≤ 4 * (x * x + y * y)) (m2 : 4 * (x * x + y * y) ≤ (2 * m + 1) * (2 * m + 1))
    (n1 : n = 0 ∨ (2 * n - 1) * (2 * n - 1) ≤ 4 * (x' * x' + y' * y')) (n2 : 4 * (x' * x' + y' * y') ≤ (2 * n + 1) * (2 * n + 1))
    (hv : nm c s 1073741900) (lo : 1073741747 * 1073741747 ≤ c * c + s * s)
    (h : nm (1073741824 * x' - (x * c - y * s)) (1073741824 * y' - (x * s + y * c)) 759250126) : m - n ≤ 1 ∧ n - m ≤ 1 := by
  have e4 : ∀ a b : Int, 2 * a * (2 * a) + 2 * b * (2 * b) = 4 * (a * a + b * b) := fun a b => by
    rw [show 2 * a = a + a by omega, show 2 * b = b + b by omega]; simp only [Int.mul_add, Int.add_mul]; omega
  have p : nm (2 * x) (2 * y) (2 * m + 1) := ⟨by omega, by rw [e4]; exact m2⟩
  have p' : nm (2 * x') (2 * y') (2 * n + 1) := ⟨by omega, by rw [e4]; exact n2⟩
  have h2 := nm_scale (show (0 : Int) ≤ 2 by decide) h
  refine ⟨?_, ?_⟩
  · -- m is not greater than n + 1
    by_cases c0 : m = 0
    · omega
    have m1 := m1.resolve_left c0
    have k := nm_sub (nm_scale (show (0 : Int) ≤ 1073741824 by decide) p') h2
    have k2 : nm (2 * x * c - 2 * y * s) (2 * x * s + 2 * y * c) (1073741824 * (2 * n + 1) + 2 * 759250126) := by
      refine nm_congr k ?_ ?_ rfl
      · rw [Int.mul_assoc, Int.mul_assoc]; omega
      · rw [Int.mul_assoc, Int.mul_assoc]; omega
    have e : (2 * x * c - 2 * y * s) * (2 * x * c - 2 * y * s) + (2 * x * s + 2 * y * c) * (2 * x * s + 2 * y * c) = (2 * x * (2 * x) + 2 * y * (2 * y)) * (c * c + s * s) := by
      generalize 2 * x = X
      generalize 2 * y = Y
      simp only [Int.mul_add, Int.add_mul, Int.sub_mul, Int.mul_sub, Int.mul_assoc, Int.mul_comm, Int.mul_left_comm]
      omega
    have k3 := k2.2
    rw [e, e4] at k3
    have l : (2 * m - 1) * 1073741747 * ((2 * m - 1) * 1073741747) ≤ 4 * (x * x + y * y) * (c * c + s * s) := by
      have := Int.mul_le_mul m1 lo (by decide) (by have := sq_nonneg x; have := sq_nonneg y; omega)
      have e5 : (2 * m - 1) * 1073741747 * ((2 * m - 1) * 1073741747) = (2 * m - 1) * (2 * m - 1) * (1073741747 * 1073741747) := by
        generalize 2 * m - 1 = q
        rw [Int.mul_assoc, Int.mul_left_comm 1073741747 q, ← Int.mul_assoc]
      rw [e5]; exact this
    have := le_of_sq k2.1 (Int.le_trans l k3)
    omega
  · by_cases c0 : n = 0
    · omega
    have n1 := n1.resolve_left c0
    have k := nm_add (nm_mul p hv) h2
    have k2 : nm (1073741824 * (2 * x')) (1073741824 * (2 * y')) ((2 * m + 1) * 1073741900 + 2 * 759250126) := by
      refine nm_congr k ?_ ?_ rfl
      · rw [Int.mul_assoc, Int.mul_assoc]; omega
      · rw [Int.mul_assoc, Int.mul_assoc]; omega
    have e : 1073741824 * (2 * x') * (1073741824 * (2 * x')) + 1073741824 * (2 * y') * (1073741824 * (2 * y')) = 1073741824 * 1073741824 * (2 * x' * (2 * x') + 2 * y' * (2 * y')) := by
      generalize 2 * x' = X
      generalize 2 * y' = Y
      generalize (1073741824 : Int) = q
      simp only [Int.mul_add, Int.add_mul, Int.mul_assoc, Int.mul_comm, Int.mul_left_comm]
    have k3 := k2.2
    rw [e, e4] at k3
    have l : (2 * n - 1) * 1073741824 * ((2 * n - 1) * 1073741824) ≤ 1073741824 * 1073741824 * (4 * (x' * x' + y' * y')) := by
      have := Int.mul_le_mul_of_nonneg_left n1 (show (0 : Int) ≤ 1073741824 * 1073741824 by decide)
      have e5 : (2 * n - 1) * 1073741824 * ((2 * n - 1) * 1073741824) = 1073741824 * 1073741824 * ((2 * n - 1) * (2 * n - 1)) := by
        generalize 2 * n - 1 = q
        generalize (1073741824 : Int) = r
        simp only [Int.mul_assoc, Int.mul_comm, Int.mul_left_comm]
      rw [e5]; exact this
    have := le_of_sq k2.1 (Int.le_trans l k3)
    omega

end Go.Proofs.YtnjcbgnghfppoaaDoor.Cm

/- Plain: a point is its distance, turned by its direction, nearly. -/
set_option linter.unusedVariables false
set_option linter.unusedSimpArgs false
namespace Go.Proofs.YtnjcbgnghfppoaaDoor.Cm

/-- The point (x, y) is (m, 0), turned by n, up to e units of 2^-64. -/
def Qm (S : Int) (C Z : Int → Int) (m x y n e : Int) : Prop := nm (18446744073709551616 * (S * x - m * C n)) (18446744073709551616 * (S * y - m * Z n)) (S * e)

theorem qm_quarter {S : Int} {C Z : Int → Int} (t : Turn S C Z) {m x y n e : Int} (hm : 0 ≤ m) (h : Qm S C Z m x y n e) (h1 : -10000000000000 ≤ n) (h2 : n ≤ 10000000000000) : Qm S C Z m (-y) x (n + 90000000000) (e + 16 * m) := by
  have k := nm_sub (nm_quarter h) (nm_scale hm (turn_quarter t n h1 h2))
  unfold Qm
  refine nm_congr k ?_ ?_ ?_
  · rw [Int.mul_left_comm m]; simp only [Int.mul_add, Int.mul_sub, Int.mul_neg]; omega
  · rw [Int.mul_left_comm m]; simp only [Int.mul_add, Int.mul_sub, Int.mul_neg]; omega
  · rw [Int.mul_add, Int.mul_left_comm m, Int.mul_left_comm S, Int.mul_comm m S]

theorem qm_back {S : Int} {C Z : Int → Int} (t : Turn S C Z) {m x y n e : Int} (hm : 0 ≤ m) (h : Qm S C Z m x y n e) (h1 : -9000000000000 ≤ n) (h2 : n ≤ 10000000000000) : Qm S C Z m y (-x) (n - 90000000000) (e + 16 * m) := by
  have q := turn_quarter t (n - 90000000000) (by omega) (by omega)
  rw [show n - 90000000000 + 90000000000 = n by omega] at q
  have k := nm_neg (nm_quarter (nm_add h (nm_scale hm q)))
  unfold Qm
  refine nm_congr k ?_ ?_ ?_
  · rw [Int.mul_left_comm m]; simp only [Int.mul_add, Int.mul_sub, Int.mul_neg]; omega
  · rw [Int.mul_left_comm m]; simp only [Int.mul_add, Int.mul_sub, Int.mul_neg]; omega
  · rw [Int.mul_add, Int.mul_left_comm m, Int.mul_left_comm S, Int.mul_comm m S]

theorem qm_near {S : Int} {C Z : Int → Int} (t : Turn S C Z) {m x y n n' e : Int} (hm : 0 ≤ m) (h : Qm S C Z m x y n e) (h1 : -9000000000000 ≤ n) (h2 : n ≤ 9000000000000) (d1 : n - n' ≤ 500) (d2 : n' - n ≤ 500) : Qm S C Z m x y n' (e + 160978210500 * m) := by
  have k := nm_add h (nm_scale hm (turn_near t n n' 500 (by omega) (by omega) (by decide) d1 d2))
  unfold Qm
  refine nm_congr k ?_ ?_ ?_
  · rw [Int.mul_left_comm m]; simp only [Int.mul_add, Int.mul_sub, Int.mul_neg]; omega
  · rw [Int.mul_left_comm m]; simp only [Int.mul_add, Int.mul_sub, Int.mul_neg]; omega
  · rw [Int.mul_add, Int.mul_left_comm m, Int.mul_left_comm S, Int.mul_comm m S]; omega

theorem qm_qt {S : Int} {C Z : Int → Int} (t : Turn S C Z) {m n e : Int} {p : Int × Int} (hm : 0 ≤ m) (h : Qm S C Z m p.1 p.2 n e) (h1 : -9000000000000 ≤ n) (h2 : n ≤ 9000000000000) : ∀ k : Nat, k ≤ 10 → Qm S C Z m (qt k p).1 (qt k p).2 (n + 90000000000 * k) (e + 16 * m * k) := by
  intro k
  induction k with
  | zero => intro _; exact nm_congr h (by simp [qt]) (by simp [qt]) (by simp)
  | succ k ih =>
    intro hk
    have a := qm_quarter t hm (ih (by omega)) (by omega) (by omega)
    have e1 : e + 16 * m * (k : Int) + 16 * m = e + 16 * m * ((k + 1 : Nat) : Int) := by
      rw [show ((k + 1 : Nat) : Int) = (k : Int) + 1 by omega, Int.mul_add]; omega
    rw [show n + 90000000000 * (k : Int) + 90000000000 = n + 90000000000 * ((k + 1 : Nat) : Int) by omega, e1] at a
    exact a

theorem qm_full {S : Int} {C Z : Int → Int} (t : Turn S C Z) {m x y n e : Int} (hm : 0 ≤ m) (h : Qm S C Z m x y n e) (h1 : -8000000000000 ≤ n) (h2 : n ≤ 8000000000000) : Qm S C Z m x y (n + 360000000000) (e + 64 * m) := by
  have a := qm_quarter t hm (qm_quarter t hm (qm_quarter t hm (qm_quarter t hm h (by omega) (by omega)) (by omega) (by omega)) (by omega) (by omega)) (by omega) (by omega)
  rwa [Int.neg_neg, Int.neg_neg, show n + 90000000000 + 90000000000 + 90000000000 + 90000000000 = n + 360000000000 by omega, show e + 16 * m + 16 * m + 16 * m + 16 * m = e + 64 * m by omega] at a

theorem qm_unfull {S : Int} {C Z : Int → Int} (t : Turn S C Z) {m x y n e : Int} (hm : 0 ≤ m) (h : Qm S C Z m x y n e) (h1 : -8000000000000 ≤ n) (h2 : n ≤ 8000000000000) : Qm S C Z m x y (n - 360000000000) (e + 64 * m) := by
  have a := qm_back t hm (qm_back t hm (qm_back t hm (qm_back t hm h (by omega) (by omega)) (by omega) (by omega)) (by omega) (by omega)) (by omega) (by omega)
  rwa [Int.neg_neg, Int.neg_neg, show n - 90000000000 - 90000000000 - 90000000000 - 90000000000 = n - 360000000000 by omega, show e + 16 * m + 16 * m + 16 * m + 16 * m = e + 64 * m by omega] at a

theorem qm_mono {S : Int} {C Z : Int → Int} (t : Turn S C Z) {m x y n e e' : Int} (h : Qm S C Z m x y n e) (he : e ≤ e') : Qm S C Z m x y n e' :=
  nm_mono h (Int.mul_le_mul_of_nonneg_left he (Int.le_of_lt t.rot.pos))

/-- In the quarter about the axis: the point is its rounded distance m, turned by z. -/
theorem axis_plain (S u v c s X m : Int) (hS : 0 < S) (hu : c * c + s * s = S * S) (m0 : 1 ≤ m) (mm : m ≤ 1500000) (hX : 0 ≤ X)
    (m1 : (2 * m - 1) * (2 * m - 1) ≤ 4 * (u * u + v * v)) (m2 : nm (2 * u) (2 * v) (2 * m + 1))
    (h : nm (1810632051964 * (S * (u * 1048576)) - 1099511627776 * (X * c)) (1810632051964 * (S * (v * 1048576)) - 1099511627776 * (X * s)) (S * (476 * ((2 * m + 1) * 524288) + 47008012629411 + 32768 * X + 28587302322176))) :
    nm (4 * (S * u - m * c)) (4 * (S * v - m * s)) (S * 3) := by
  have S0 := Int.le_of_lt hS
  obtain ⟨E, hE⟩ : ∃ E, 476 * ((2 * m + 1) * 524288) + 47008012629411 + 32768 * X + 28587302322176 = E := ⟨_, rfl⟩
  rw [hE] at h
  have nu : nm c s S := nm_of_sq S0 hu
  have nx := nm_scale hX nu
  -- X is not too great
  have g1 := nm_sub (nm_scale (show (0 : Int) ≤ 1810632051964 by decide) (nm_scale S0 (nm_scale (show (0 : Int) ≤ 524288 by decide) m2))) h
  have g1' : nm (1099511627776 * X * c) (1099511627776 * X * s) (S * (1810632051964 * (524288 * (2 * m + 1)) + E)) := by
    refine nm_congr g1 ?_ ?_ ?_
    · rw [show 524288 * (2 * u) = u * 1048576 by omega, Int.mul_assoc]; omega
    · rw [show 524288 * (2 * v) = v * 1048576 by omega, Int.mul_assoc]; omega
    · generalize 524288 * (2 * m + 1) = q; rw [Int.mul_add, Int.mul_left_comm S]
  have sq1 : 1099511627776 * X * c * (1099511627776 * X * c) + 1099511627776 * X * s * (1099511627776 * X * s) = 1099511627776 * X * S * (1099511627776 * X * S) := by
    have : 1099511627776 * X * (1099511627776 * X) * (c * c + s * s) = 1099511627776 * X * (1099511627776 * X) * (S * S) := by rw [hu]
    generalize 1099511627776 * X = Y at *
    clear g1 g1' h nx nu m1 m2 hE
    simp only [Int.mul_add, Int.mul_assoc, Int.mul_comm, Int.mul_left_comm] at this ⊢
    omega
  have g2 := g1'.2
  rw [sq1] at g2
  have g3 := le_of_sq g1'.1 g2
  have up : 1099511627776 * X ≤ 1810632051964 * (524288 * (2 * m + 1)) + E := by
    refine Int.le_of_mul_le_mul_left (a := S) ?_ hS
    rw [Int.mul_comm S (1099511627776 * X)]; exact g3
  -- X is not too small
  have g4 := nm_add h (nm_scale (show (0 : Int) ≤ 1099511627776 by decide) nx)
  have g4' : nm (1810632051964 * 524288 * S * (2 * u)) (1810632051964 * 524288 * S * (2 * v)) (S * (E + 1099511627776 * X)) := by
    refine nm_congr g4 ?_ ?_ ?_
    · rw [show 1810632051964 * 524288 * S * (2 * u) = 1810632051964 * (S * (u * 1048576)) by
        rw [show u * 1048576 = 524288 * (2 * u) by omega]; generalize 2 * u = U; generalize (1810632051964 : Int) = q; simp only [Int.mul_assoc, Int.mul_comm, Int.mul_left_comm]]
      omega
    · rw [show 1810632051964 * 524288 * S * (2 * v) = 1810632051964 * (S * (v * 1048576)) by
        rw [show v * 1048576 = 524288 * (2 * v) by omega]; generalize 2 * v = U; generalize (1810632051964 : Int) = q; simp only [Int.mul_assoc, Int.mul_comm, Int.mul_left_comm]]
      omega
    · rw [Int.mul_add, Int.mul_left_comm S, Int.mul_comm X S]
  have sq2 : 1810632051964 * 524288 * S * (2 * m - 1) * (1810632051964 * 524288 * S * (2 * m - 1)) ≤ 1810632051964 * 524288 * S * (2 * u) * (1810632051964 * 524288 * S * (2 * u)) + 1810632051964 * 524288 * S * (2 * v) * (1810632051964 * 524288 * S * (2 * v)) := by
    have e4 : 2 * u * (2 * u) + 2 * v * (2 * v) = 4 * (u * u + v * v) := by
      rw [show 2 * u = u + u by omega, show 2 * v = v + v by omega]; simp only [Int.mul_add, Int.add_mul]; omega
    rw [← e4] at m1
    have := Int.mul_le_mul_of_nonneg_left m1 (sq_nonneg (1810632051964 * 524288 * S))
    clear g1 g1' g4 g4' h nx nu m2 hE sq1 g2 g3 up
    generalize 1810632051964 * 524288 * S = q at *
    generalize 2 * m - 1 = M at *
    generalize 2 * u = U at *
    generalize 2 * v = V at *
    simp only [Int.mul_add, Int.mul_assoc, Int.mul_comm, Int.mul_left_comm] at this ⊢
    omega
  have g5 := le_of_sq g4'.1 (Int.le_trans sq2 g4'.2)
  have lo : 1810632051964 * 524288 * (2 * m - 1) ≤ E + 1099511627776 * X := by
    refine Int.le_of_mul_le_mul_left (a := S) ?_ hS
    rw [show S * (1810632051964 * 524288 * (2 * m - 1)) = 1810632051964 * 524288 * S * (2 * m - 1) by
      generalize 2 * m - 1 = M; generalize (1810632051964 : Int) * 524288 = q; simp only [Int.mul_assoc, Int.mul_comm, Int.mul_left_comm]]
    exact g5
  clear g1 g1' g2 g3 g4 g4' g5 sq1 sq2 nx m1 m2
  -- E is small
  have eb : 2 * E ≤ 1810632051964 * 262144 := by omega
  have d : nm ((1099511627776 * X - 1810632051964 * 1048576 * m) * c) ((1099511627776 * X - 1810632051964 * 1048576 * m) * s) ((1810632051964 * 524288 + E) * S) := by
    have := nm_mul (show nm (1099511627776 * X - 1810632051964 * 1048576 * m) 0 (1810632051964 * 524288 + E) from ⟨by omega, by
      have := sq_abs (x := 1099511627776 * X - 1810632051964 * 1048576 * m) (y := 1810632051964 * 524288 + E) (by omega) (by omega)
      omega⟩) nu
    simpa using this
  have f := nm_add h d
  refine nm_cancel (k := 1810632051964 * 262144) (by decide) (nm_mono (nm_congr f ?_ ?_ rfl) ?_)
  · rw [Int.sub_mul, Int.mul_assoc _ X c, Int.mul_assoc _ m c, ← Int.mul_assoc S u]; omega
  · rw [Int.sub_mul, Int.mul_assoc _ X s, Int.mul_assoc _ m s, ← Int.mul_assoc S v]; omega
  · have := Int.mul_le_mul_of_nonneg_left eb S0
    rw [Int.mul_left_comm S 2 E] at this
    rw [Int.add_mul, Int.mul_comm E S]
    omega

/-! ### the direction of a point -/

theorem qt_bk (p : Int × Int) (j : Nat) (hj : j ≤ 3) : qt j (bk j p) = p := by
  rcases (show j = 0 ∨ j = 1 ∨ j = 2 ∨ j = 3 by omega) with rfl | rfl | rfl | rfl <;> simp [qt, bk]

theorem bk_sq (p : Int × Int) (j : Nat) : (bk j p).1 * (bk j p).1 + (bk j p).2 * (bk j p).2 = p.1 * p.1 + p.2 * p.2 := by
  induction j with
  | zero => rfl
  | succ j ih => simp only [bk]; rw [Int.neg_mul_neg]; omega

theorem rr_bd (x y : Int) : -100000001 ≤ rr x y ∧ rr x y ≤ 100000001 := by
  have z := vs_z ((bk (qn x y) (x, y)).1 * 1048576) ((bk (qn x y) (x, y)).2 * 1048576) 26 (by decide)
  have b := st_bd 26 (by decide)
  unfold rr rz
  split
  · decide
  · omega

/-- The point in the quarter about the axis is its rounded distance m, turned by what is left of the direction. -/
theorem axis_turn {S : Int} {C Z : Int → Int} (t : Turn S C Z) (x y m : Int) (h0 : ¬ (x = 0 ∧ y = 0)) (m0 : 1 ≤ m) (mm : m ≤ 1500000)
    (m1 : (2 * m - 1) * (2 * m - 1) ≤ 4 * (x * x + y * y)) (m2 : 4 * (x * x + y * y) ≤ (2 * m + 1) * (2 * m + 1)) :
    Qm S C Z m (bk (qn x y) (x, y)).1 (bk (qn x y) (x, y)).2 (rr x y * 1000) (13835058055282163712 + 160978210500 * m) := by
  obtain ⟨i1, i2⟩ := inQ_bd (qn_in x y h0)
  have n2 := bk_sq (x, y) (qn x y)
  have p := t.rot.pos
  have rd : rr x y = if (bk (qn x y) (x, y)).2 = 0 then 0 else (rz x y + 500) / 1000 := rfl
  have rze : rz x y = (vs ((bk (qn x y) (x, y)).1 * 1048576) ((bk (qn x y) (x, y)).2 * 1048576) 26).2.2 := rfl
  dsimp only at n2
  generalize rr x y = R at *
  generalize rz x y = z at *
  generalize (bk (qn x y) (x, y)).1 = u at *
  generalize (bk (qn x y) (x, y)).2 = v at *
  rw [← n2] at m1 m2
  by_cases c : v = 0
  · rw [if_pos c] at rd
    subst rd c
    have e : u = m := by
      have a := le_of_sq (x := 2 * m - 1) (y := 2 * u) (by omega) (by
        have : 2 * u * (2 * u) = 4 * (u * u) := by rw [show 2 * u = u + u by omega]; simp only [Int.mul_add, Int.add_mul]; omega
        omega)
      have b := le_of_sq (x := 2 * u) (y := 2 * m + 1) (by omega) (by
        have : 2 * u * (2 * u) = 4 * (u * u) := by rw [show 2 * u = u + u by omega]; simp only [Int.mul_add, Int.add_mul]; omega
        omega)
      omega
    subst e
    unfold Qm
    rw [Int.zero_mul, t.rot.zeroC, t.rot.zeroZ]
    refine nm_mono (nm_congr nm_zero ?_ ?_ rfl) (Int.mul_nonneg (Int.le_of_lt p) (by omega))
    · rw [Int.mul_comm S u]; omega
    · simp
  · rw [if_neg c] at rd
    have e4 : 2 * u * (2 * u) + 2 * v * (2 * v) = 4 * (u * u + v * v) := by
      rw [show 2 * u = u + u by omega, show 2 * v = v + v by omega]; simp only [Int.mul_add, Int.add_mul]; omega
    have h2 : nm (2 * u) (2 * v) (2 * m + 1) := ⟨by omega, by rw [e4]; exact m2⟩
    have hM : nm (u * 1048576) (v * 1048576) ((2 * m + 1) * 524288) :=
      nm_congr (nm_scale (show (0 : Int) ≤ 524288 by decide) h2) (by omega) (by omega) (by omega)
    have k := vs_end t hM (by omega) (by omega) (by omega)
    have ax := vs_ax (u * 1048576) (v * 1048576) (by omega) (by omega) (by omega) 26
    have zz := vs_z (u * 1048576) (v * 1048576) 26 (by decide)
    have sb := st_bd 26 (by decide)
    rw [← rze] at k zz
    have a := axis_plain S u v (C z) (Z z) _ m p (t.rot.unit z (by omega) (by omega)) m0 mm ax.1 m1 h2 k
    have q : Qm S C Z m u v z 13835058055282163712 := by
      have := nm_scale (show (0 : Int) ≤ 4611686018427387904 by decide) a
      exact nm_congr this (by omega) (by omega) (by omega)
    exact qm_near t (by omega) q (by omega) (by omega) (by omega) (by omega)

/-- A point is its rounded distance, turned by its direction. -/
theorem dir_plain (x y m : Int) (h0 : ¬ (x = 0 ∧ y = 0)) (m0 : 0 ≤ m) (mm : m ≤ 1500000)
    (m1 : m = 0 ∨ (2 * m - 1) * (2 * m - 1) ≤ 4 * (x * x + y * y)) (m2 : 4 * (x * x + y * y) ≤ (2 * m + 1) * (2 * m + 1)) :
    nm (1073741824 * x - m * (sc (ang x y)).1) (1073741824 * y - m * (sc (ang x y)).2) 1073741824 := by
  obtain ⟨S, C, Z, t⟩ := exists_turn
  have p := t.rot.pos
  have m3 : 1 ≤ m := by
    by_cases c : m = 0
    · subst c
      have a := sq_nonneg x
      have b := sq_nonneg y
      have a0 : x * x = 0 := by omega
      have b0 : y * y = 0 := by omega
      exact absurd ⟨(Int.mul_eq_zero.1 a0).elim id id, (Int.mul_eq_zero.1 b0).elim id id⟩ h0
    · omega
  have q := axis_turn t x y m h0 m3 mm (m1.resolve_left (by omega)) m2
  have rb := rr_bd x y
  have nl := qn_le x y
  have q2 := qm_qt t m0 q (by omega) (by omega) (qn x y) (by omega)
  rw [qt_bk (x, y) (qn x y) nl] at q2
  dsimp only at q2
  have mk : 16 * m * (qn x y : Int) ≤ 48 * m := by
    have := Int.mul_le_mul_of_nonneg_left (show (qn x y : Int) ≤ 3 by omega) (show 0 ≤ 16 * m by omega)
    omega
  have q3 : Qm S C Z m x y (ang x y * 1000) (13835058055282163712 + 160978210700 * m) := by
    have e : ang x y = ((qn x y : Int) * 90000000 + rr x y) % 360000000 := rfl
    by_cases c : (qn x y : Int) * 90000000 + rr x y < 0
    · have := qm_full t m0 q2 (by omega) (by omega)
      rw [show rr x y * 1000 + 90000000000 * (qn x y : Int) + 360000000000 = ang x y * 1000 by omega] at this
      exact qm_mono t this (by omega)
    · by_cases d : (qn x y : Int) * 90000000 + rr x y < 360000000
      · rw [show rr x y * 1000 + 90000000000 * (qn x y : Int) = ang x y * 1000 by omega] at q2
        exact qm_mono t q2 (by omega)
      · have := qm_unfull t m0 q2 (by omega) (by omega)
        rw [show rr x y * 1000 + 90000000000 * (qn x y : Int) - 360000000000 = ang x y * 1000 by omega] at this
        exact qm_mono t this (by omega)
  have ab : 0 ≤ ang x y ∧ ang x y < 360000000 := by unfold ang; omega
  have h := sc_pr t (ang x y) (by omega) (by omega)
  unfold Qm at q3
  unfold Pr at h
  have k := nm_sub q3 (nm_scale m0 h)
  refine nm_cancel (k := 17179869184 * S) (by omega) (nm_mono (nm_congr k ?_ ?_ rfl) ?_)
  · rw [Int.mul_assoc 17179869184 S, Int.mul_sub S, Int.mul_sub m, Int.mul_left_comm S 1073741824, Int.mul_left_comm S m, Int.mul_left_comm m 17179869184, Int.mul_left_comm m 18446744073709551616]; omega
  · rw [Int.mul_assoc 17179869184 S, Int.mul_sub S, Int.mul_sub m, Int.mul_left_comm S 1073741824, Int.mul_left_comm S m, Int.mul_left_comm m 17179869184, Int.mul_left_comm m 18446744073709551616]; omega
  · have b : 13835058055282163712 + 160978210700 * m + 1300000000128 * m ≤ 17179869184 * 1073741824 := by omega
    have := Int.mul_le_mul_of_nonneg_left b (Int.le_of_lt p)
    have e : m * (S * 1300000000128) = S * (1300000000128 * m) := by simp only [Int.mul_comm, Int.mul_left_comm]
    rw [e]
    rw [Int.mul_add S (13835058055282163712 + 160978210700 * m)] at this
    omega

end Go.Proofs.YtnjcbgnghfppoaaDoor.Cm
