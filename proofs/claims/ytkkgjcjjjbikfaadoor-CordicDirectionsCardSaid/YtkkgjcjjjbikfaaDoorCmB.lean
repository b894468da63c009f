
/- Plain: a turn by n units for each integer n, exact, as powers of one complex number; its approximations by numbers, computed. -/
import Derived.Test.YtkkgjcjjjbikfaaDoorCmA
set_option linter.unusedVariables false
set_option linter.unusedSimpArgs false
namespace Go.Proofs.YtkkgjcjjjbikfaaDoor.Cm

/-- (C n, Z n) is the point (S, 0) after a turn by n units. -/
structure Rot (S : Int) (C Z : Int → Int) : Prop where
  pos : 0 < S
  unit : ∀ n : Int, -100000000000000 ≤ n → n ≤ 100000000000000 → C n * C n + Z n * Z n = S * S
  addC : ∀ n m : Int, -100000000000000 ≤ n → n ≤ 100000000000000 → -100000000000000 ≤ m → m ≤ 100000000000000 → -100000000000000 ≤ n + m → n + m ≤ 100000000000000 → S * C (n + m) = C n * C m - Z n * Z m
  addZ : ∀ n m : Int, -100000000000000 ≤ n → n ≤ 100000000000000 → -100000000000000 ≤ m → m ≤ 100000000000000 → -100000000000000 ≤ n + m → n + m ≤ 100000000000000 → S * Z (n + m) = C n * Z m + Z n * C m
  zeroC : C 0 = S
  zeroZ : Z 0 = 0
  negC : ∀ n : Int, C (-n) = C n
  negZ : ∀ n : Int, Z (-n) = -Z n

theorem dd_pos (w : Cx) (h : 0 < w.re) : 0 < w.re * w.re + w.im * w.im := by
  have := Int.mul_pos h h
  have := sq_nonneg w.im
  omega

def U (w : Cx) (M : Nat) (n : Int) : Cx := mul (pw w (M + n).toNat) (cj (pw w (M - n).toNat))

theorem cj_cj (x : Cx) : cj (cj x) = x := by
  refine cx_ext rfl ?_
  simp [cj]

theorem U_neg (w : Cx) (M : Nat) (n : Int) : U w M (-n) = cj (U w M n) := by
  unfold U
  rw [cj_mul, cj_cj, mul_comm, show (M : Int) + -n = M - n by omega, show (M : Int) - -n = M + n by omega]

theorem U_add (w : Cx) (M : Nat) (n m : Int) (h1 : -(M : Int) ≤ n) (h2 : n ≤ M) (h3 : -(M : Int) ≤ m) (h4 : m ≤ M) (h5 : -(M : Int) ≤ n + m) (h6 : n + m ≤ M) :
    mul (U w M n) (U w M m) = sm ((w.re * w.re + w.im * w.im) ^ M) (U w M (n + m)) := by
  have e1 : mul (pw w (M + n).toNat) (pw w (M + m).toNat) = mul (pw w M) (pw w (M + (n + m)).toNat) := by
    rw [← pw_add, ← pw_add]
    congr 1
    omega
  have e2 : mul (pw w (M - n).toNat) (pw w (M - m).toNat) = mul (pw w M) (pw w (M - (n + m)).toNat) := by
    rw [← pw_add, ← pw_add]
    congr 1
    omega
  have e3 : mul (U w M n) (U w M m) = mul (mul (pw w (M + n).toNat) (pw w (M + m).toNat)) (cj (mul (pw w (M - n).toNat) (pw w (M - m).toNat))) := by
    unfold U
    rw [cj_mul, mul_assoc, mul_assoc, mul_left_comm (cj _)]
  rw [e3, e1, e2, cj_mul, ← real_mul, ← pw_cj w M]
  unfold U
  simp only [mul_assoc]
  congr 1
  rw [mul_left_comm]

theorem U_zero (w : Cx) (M : Nat) : U w M 0 = ⟨(w.re * w.re + w.im * w.im) ^ M, 0⟩ := by
  unfold U
  rw [Int.add_zero, Int.sub_zero, Int.toNat_natCast, pw_cj]

theorem rot_of (w : Cx) (hw : 0 < w.re) (M : Nat) (hM : 100000000000000 ≤ M) : Rot ((w.re * w.re + w.im * w.im) ^ M) (fun n => (U w M n).re) (fun n => (U w M n).im) where
  pos := Int.pow_pos (dd_pos w hw)
  unit n h1 h2 := by
    have h := U_add w M n (-n) (by omega) (by omega) (by omega) (by omega) (by omega) (by omega)
    rw [U_neg, mul_cj, Int.add_right_neg, U_zero] at h
    have := congrArg Cx.re h
    simpa [sm] using this
  addC n m h1 h2 h3 h4 h5 h6 := by
    have h := U_add w M n m (by omega) (by omega) (by omega) (by omega) (by omega) (by omega)
    exact (congrArg Cx.re h).symm
  addZ n m h1 h2 h3 h4 h5 h6 := by
    have h := U_add w M n m (by omega) (by omega) (by omega) (by omega) (by omega) (by omega)
    exact (congrArg Cx.im h).symm
  zeroC := by show (U w M 0).re = _; rw [U_zero]
  zeroZ := by show (U w M 0).im = _; rw [U_zero]
  negC n := by show (U w M (-n)).re = _; rw [U_neg]; rfl
  negZ n := by show (U w M (-n)).im = _; rw [U_neg]; rfl

/-! ### approximations -/

theorem nm_congr {a b a' b' E E' : Int} (h : nm a b E) (h1 : a = a') (h2 : b = b') (h3 : E = E') : nm a' b' E' := by
  subst h1 h2 h3; exact h

theorem ap_plain (P S x1 x2 y1 y2 u v a b e c d f : Int) (hP : 0 < P) (hS : 0 < S) (hu : S * u = x1 * y1 - x2 * y2) (hv : S * v = x1 * y2 + x2 * y1) (kx : nm x1 x2 S) (ky : nm y1 y2 S) (he : 0 ≤ e) (hf : 0 ≤ f)
    (ha : nm (P * x1 - S * a) (P * x2 - S * b) (S * e)) (hb : nm (P * y1 - S * c) (P * y2 - S * d) (S * f)) :
    nm (P * u - S * ((a * c - b * d) / P)) (P * v - S * ((a * d + b * c) / P)) (S * (e + f + 3 + e * f / P)) := by
  have k1 := nm_scale (Int.le_of_lt hP) ky
  have k2 := nm_mul ha k1
  have k3 := nm_sub (nm_scale (Int.le_of_lt hP) kx) ha
  have k4 := nm_mul k3 hb
  have k5 := nm_add k2 k4
  have r1 := Int.emod_add_mul_ediv (a * c - b * d) P
  have r1a := Int.emod_nonneg (a * c - b * d) (show P ≠ 0 by omega)
  have r1b := Int.emod_lt_of_pos (a * c - b * d) hP
  have r2 := Int.emod_add_mul_ediv (a * d + b * c) P
  have r2a := Int.emod_nonneg (a * d + b * c) (show P ≠ 0 by omega)
  have r2b := Int.emod_lt_of_pos (a * d + b * c) hP
  have k6 : nm ((a * c - b * d) % P) ((a * d + b * c) % P) (P + P) :=
    nm_box (p := P) (by omega) (by omega) (by omega) (by omega) (by omega) (by
      have := sq_nonneg P
      simp only [Int.mul_add, Int.add_mul]
      omega)
  have k7 := nm_add k5 (nm_scale (Int.mul_nonneg (Int.le_of_lt hS) (Int.le_of_lt hS)) k6)
  have ef := Int.emod_add_mul_ediv (e * f) P
  have ef2 := Int.emod_lt_of_pos (e * f) hP
  generalize hR1 : (a * c - b * d) / P = R1 at *
  generalize hR2 : (a * d + b * c) / P = R2 at *
  generalize hm1 : (a * c - b * d) % P = m1 at *
  generalize hm2 : (a * d + b * c) % P = m2 at *
  generalize hq : e * f / P = q at *
  clear hR1 hR2 hm1 hm2 hq
  have hu' : P * P * (S * u) = P * P * (x1 * y1 - x2 * y2) := by rw [hu]
  have hv' : P * P * (S * v) = P * P * (x1 * y2 + x2 * y1) := by rw [hv]
  have s1 : S * S * (m1 + P * R1) = S * S * (a * c - b * d) := by rw [r1]
  have s2 : S * S * (m2 + P * R2) = S * S * (a * d + b * c) := by rw [r2]
  have b1 : S * S * (e * f) ≤ S * S * (P + P * q) := Int.mul_le_mul_of_nonneg_left (by omega) (Int.mul_nonneg (Int.le_of_lt hS) (Int.le_of_lt hS))
  refine nm_cancel (k := P * S) (Int.mul_pos hP hS) (nm_mono (nm_congr k7 ?_ ?_ rfl) ?_)
  · clear k1 k2 k3 k4 k5 k6 k7 ha hb kx ky b1 s2 hv' hu hv r1 r2 ef ef2 r1a r1b r2a r2b
    simp only [Int.mul_add, Int.add_mul, Int.sub_mul, Int.mul_sub, Int.mul_assoc, Int.mul_comm, Int.mul_left_comm] at s1 hu' ⊢
    omega
  · clear k1 k2 k3 k4 k5 k6 k7 ha hb kx ky b1 s1 hu' hu hv r1 r2 ef ef2 r1a r1b r2a r2b
    simp only [Int.mul_add, Int.add_mul, Int.sub_mul, Int.mul_sub, Int.mul_assoc, Int.mul_comm, Int.mul_left_comm] at s2 hv' ⊢
    omega
  · clear k1 k2 k3 k4 k5 k6 k7 ha hb kx ky s1 s2 hu' hv' hu hv r1 r2 ef ef2 r1a r1b r2a r2b
    rw [show (3 : Int) = 1 + 1 + 1 from rfl]
    simp only [Int.mul_add, Int.add_mul, Int.sub_mul, Int.mul_sub, Int.mul_assoc, Int.mul_comm, Int.mul_left_comm, Int.mul_one] at b1 ⊢
    omega

/-- A point with its error, out of two. -/
def comb (P : Int) (x y : Int × Int × Int) : Int × Int × Int :=
  ((x.1 * y.1 - x.2.1 * y.2.1) / P, (x.1 * y.2.1 + x.2.1 * y.1) / P, x.2.2 + y.2.2 + 3 + x.2.2 * y.2.2 / P)

/-- The point after n units, computed. -/
def apx (P : Int) (one : Int × Int × Int) : Nat → Nat → Int × Int × Int
  | 0, _ => (P, 0, 0)
  | k + 1, n => if n % 2 = 1 then comb P (comb P (apx P one k (n / 2)) (apx P one k (n / 2))) one else comb P (apx P one k (n / 2)) (apx P one k (n / 2))

/-- x is the point after n units, but for its error. -/
def Ap (P S : Int) (C Z : Int → Int) (n : Int) (x : Int × Int × Int) : Prop := 0 ≤ x.2.2 ∧ nm (P * C n - S * x.1) (P * Z n - S * x.2.1) (S * x.2.2)

theorem nm_unit {S : Int} {C Z : Int → Int} (h : Rot S C Z) (n : Int) (h1 : -100000000000000 ≤ n) (h2 : n ≤ 100000000000000) : nm (C n) (Z n) S :=
  nm_of_sq (Int.le_of_lt h.pos) (h.unit n h1 h2)

theorem ap_comb {P S : Int} {C Z : Int → Int} (h : Rot S C Z) (hP : 0 < P) {n m : Int} {x y : Int × Int × Int} (hx : Ap P S C Z n x) (hy : Ap P S C Z m y)
    (h1 : 0 ≤ n) (h3 : 0 ≤ m) (h6 : n + m ≤ 100000000000000) : Ap P S C Z (n + m) (comb P x y) := by
  obtain ⟨e, ha⟩ := hx
  obtain ⟨f, hb⟩ := hy
  refine ⟨?_, ap_plain P S _ _ _ _ _ _ _ _ _ _ _ _ hP h.pos (h.addC n m (by omega) (by omega) (by omega) (by omega) (by omega) (by omega)) (h.addZ n m (by omega) (by omega) (by omega) (by omega) (by omega) (by omega)) (nm_unit h n (by omega) (by omega)) (nm_unit h m (by omega) (by omega)) e f ha hb⟩
  have := Int.ediv_nonneg (Int.mul_nonneg e f) (Int.le_of_lt hP)
  simp only [comb]
  omega

theorem ap_apx {P S : Int} {C Z : Int → Int} (h : Rot S C Z) (hP : 0 < P) {one : Int × Int × Int} (h1 : Ap P S C Z 1 one) : ∀ (k n : Nat), n < 2 ^ k → n ≤ 50000000000000 → Ap P S C Z n (apx P one k n) := by
  intro k
  induction k with
  | zero =>
    intro n hn _
    obtain rfl : n = 0 := by simpa using hn
    refine ⟨by simp [apx], ?_⟩
    simp only [apx, Int.natCast_zero]
    rw [h.zeroC, h.zeroZ]
    exact nm_congr nm_zero (by rw [Int.mul_comm]; omega) (by simp) (by simp)
  | succ k ih =>
    intro n hn hl
    have hk := ih (n / 2) (by rw [Nat.pow_succ] at hn; omega) (by omega)
    have h2 := ap_comb h hP hk hk (by omega) (by omega) (by omega)
    rw [apx]
    by_cases c : n % 2 = 1
    · rw [if_pos c]
      have := ap_comb h hP h2 h1 (by omega) (by omega) (by omega)
      rwa [show ((n / 2 : Nat) : Int) + ((n / 2 : Nat) : Int) + 1 = n by omega] at this
    · rw [if_neg c]
      rwa [show ((n / 2 : Nat) : Int) + ((n / 2 : Nat) : Int) = n by omega] at h2

end Go.Proofs.YtkkgjcjjjbikfaaDoor.Cm
