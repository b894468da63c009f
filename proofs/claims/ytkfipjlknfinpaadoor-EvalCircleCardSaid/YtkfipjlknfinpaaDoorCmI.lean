
/- Plain: a point is its distance, turned by its direction, nearly. -/
import Derived.Test.YtkfipjlknfinpaaDoorCmH
set_option linter.unusedVariables false
set_option linter.unusedSimpArgs false
namespace Go.Proofs.YtkfipjlknfinpaaDoor.Cm

/-- The point (x, y) is (m, 0), turned by n, up to e units of 2^-64. -/
def Qm (S : Int) (C Z : Int → Int) (m x y n e : Int) : Prop := nm (18446744073709551616 * (S * x - m * C n)) (18446744073709551616 * (S * y - m * Z n)) (S * e)

theorem qm_quarter {S : Int} {C Z : Int → Int} (t : Turn S C Z) {m x y n e : Int} (hm : 0 ≤ m) (h : Qm S C Z m x y n e) (h1 : -10000000000000 ≤ n) (h2 : n ≤ 10000000000000) : Qm S C Z m (-y) x (n + 90000000000) (e + 16 * m) := by
  have k := nm_sub (nm_quarter h) (nm_scale hm (turn_quarter t n h1 h2))
  unfold Qm
  refine nm_congr k ?_ ?_ ?_
  · rw [Int.mul_left_comm m]; simp only [Int.mul_add, Int.mul_sub, Int.mul_neg]; omega
  · rw [Int.mul_left_comm m]; simp only [Int.mul_add, Int.mul_sub, Int.mul_neg]; omega
  · rw [Int.mul_add, Int.mul_left_comm m, Int.mul_left_comm S, Int.mul_comm m S]

theorem qm_back {S : Int} {C Z : Int → Int} (t : Turn S C Z) {m x y n e : Int} (hm : 0 ≤ m) (h : Qm S C Z m x y n e) (h1 : -9000000000000 ≤ n) (h2 : n ≤ 10000000000000) : Qm S C Z m y (-x) (n - 90000000000) (e + 16 * m) := by
  have q := turn_quarter t (n - 90000000000) (by omega) (by omega)
  rw [show n - 90000000000 + 90000000000 = n by omega] at q
  have k := nm_neg (nm_quarter (nm_add h (nm_scale hm q)))
  unfold Qm
  refine nm_congr k ?_ ?_ ?_
  · rw [Int.mul_left_comm m]; simp only [Int.mul_add, Int.mul_sub, Int.mul_neg]; omega
  · rw [Int.mul_left_comm m]; simp only [Int.mul_add, Int.mul_sub, Int.mul_neg]; omega
  · rw [Int.mul_add, Int.mul_left_comm m, Int.mul_left_comm S, Int.mul_comm m S]

theorem qm_near {S : Int} {C Z : Int → Int} (t : Turn S C Z) {m x y n n' e : Int} (hm : 0 ≤ m) (h : Qm S C Z m x y n e) (h1 : -9000000000000 ≤ n) (h2 : n ≤ 9000000000000) (d1 : n - n' ≤ 500) (d2 : n' - n ≤ 500) : Qm S C Z m x y n' (e + 160978210500 * m) := by
  have k := nm_add h (nm_scale hm (turn_near t n n' 500 (by omega) (by omega) (by decide) d1 d2))
  unfold Qm
  refine nm_congr k ?_ ?_ ?_
  · rw [Int.mul_left_comm m]; simp only [Int.mul_add, Int.mul_sub, Int.mul_neg]; omega
  · rw [Int.mul_left_comm m]; simp only [Int.mul_add, Int.mul_sub, Int.mul_neg]; omega
  · rw [Int.mul_add, Int.mul_left_comm m, Int.mul_left_comm S, Int.mul_comm m S]; omega

theorem qm_qt {S : Int} {C Z : Int → Int} (t : Turn S C Z) {m n e : Int} {p : Int × Int} (hm : 0 ≤ m) (h : Qm S C Z m p.1 p.2 n e) (h1 : -9000000000000 ≤ n) (h2 : n ≤ 9000000000000) : ∀ k : Nat, k ≤ 10 → Qm S C Z m (qt k p).1 (qt k p).2 (n + 90000000000 * k) (e + 16 * m * k) := by
  intro k
  induction k with
  | zero => intro _; exact nm_congr h (by simp [qt]) (by simp [qt]) (by simp)
  | succ k ih =>
    intro hk
    have a := qm_quarter t hm (ih (by omega)) (by omega) (by omega)
    have e1 : e + 16 * m * (k : Int) + 16 * m = e + 16 * m * ((k + 1 : Nat) : Int) := by
      rw [show ((k + 1 : Nat) : Int) = (k : Int) + 1 by omega, Int.mul_add]; omega
    rw [show n + 90000000000 * (k : Int) + 90000000000 = n + 90000000000 * ((k + 1 : Nat) : Int) by omega, e1] at a
    exact a

theorem qm_full {S : Int} {C Z : Int → Int} (t : Turn S C Z) {m x y n e : Int} (hm : 0 ≤ m) (h : Qm S C Z m x y n e) (h1 : -8000000000000 ≤ n) (h2 : n ≤ 8000000000000) : Qm S C Z m x y (n + 360000000000) (e + 64 * m) := by
  have a := qm_quarter t hm (qm_quarter t hm (qm_quarter t hm (qm_quarter t hm h (by omega) (by omega)) (by omega) (by omega)) (by omega) (by omega)) (by omega) (by omega)
  rwa [Int.neg_neg, Int.neg_neg, show n + 90000000000 + 90000000000 + 90000000000 + 90000000000 = n + 360000000000 by omega, show e + 16 * m + 16 * m + 16 * m + 16 * m = e + 64 * m by omega] at a

theorem qm_unfull {S : Int} {C Z : Int → Int} (t : Turn S C Z) {m x y n e : Int} (hm : 0 ≤ m) (h : Qm S C Z m x y n e) (h1 : -8000000000000 ≤ n) (h2 : n ≤ 8000000000000) : Qm S C Z m x y (n - 360000000000) (e + 64 * m) := by
  have a := qm_back t hm (qm_back t hm (qm_back t hm (qm_back t hm h (by omega) (by omega)) (by omega) (by omega)) (by omega) (by omega)) (by omega) (by omega)
  rwa [Int.neg_neg, Int.neg_neg, show n - 90000000000 - 90000000000 - 90000000000 - 90000000000 = n - 360000000000 by omega, show e + 16 * m + 16 * m + 16 * m + 16 * m = e + 64 * m by omega] at a

theorem qm_mono {S : Int} {C Z : Int → Int} (t : Turn S C Z) {m x y n e e' : Int} (h : Qm S C Z m x y n e) (he : e ≤ e') : Qm S C Z m x y n e' :=
  nm_mono h (Int.mul_le_mul_of_nonneg_left he (Int.le_of_lt t.rot.pos))

/-- In the quarter about the axis: the point is its rounded distance m, turned by z. -/
theorem axis_plain (S u v c s X m : Int) (hS : 0 < S) (hu : c * c + s * s = S * S) (m0 : 1 ≤ m) (mm : m ≤ 1500000) (hX : 0 ≤ X)
    (m1 : (2 * m - 1) * (2 * m - 1) ≤ 4 * (u * u + v * v)) (m2 : nm (2 * u) (2 * v) (2 * m + 1))
    (h : nm (1810632051964 * (S * (u * 1048576)) - 1099511627776 * (X * c)) (1810632051964 * (S * (v * 1048576)) - 1099511627776 * (X * s)) (S * (476 * ((2 * m + 1) * 524288) + 47008012629411 + 32768 * X + 28587302322176))) :
    nm (4 * (S * u - m * c)) (4 * (S * v - m * s)) (S * 3) := by
  have S0 := Int.le_of_lt hS
  obtain ⟨E, hE⟩ : ∃ E, 476 * ((2 * m + 1) * 524288) + 47008012629411 + 32768 * X + 28587302322176 = E := ⟨_, rfl⟩
  rw [hE] at h
  have nu : nm c s S := nm_of_sq S0 hu
  have nx := nm_scale hX nu
  -- X is not too great
  have g1 := nm_sub (nm_scale (show (0 : Int) ≤ 1810632051964 by decide) (nm_scale S0 (nm_scale (show (0 : Int) ≤ 524288 by decide) m2))) h
  have g1' : nm (1099511627776 * X * c) (1099511627776 * X * s) (S * (1810632051964 * (524288 * (2 * m + 1)) + E)) := by
    refine nm_congr g1 ?_ ?_ ?_
    · rw [show 524288 * (2 * u) = u * 1048576 by omega, Int.mul_assoc]; omega
    · rw [show 524288 * (2 * v) = v * 1048576 by omega, Int.mul_assoc]; omega
    · generalize 524288 * (2 * m + 1) = q; rw [Int.mul_add, Int.mul_left_comm S]
  have sq1 : 1099511627776 * X * c * (1099511627776 * X * c) + 1099511627776 * X * s * (1099511627776 * X * s) = 1099511627776 * X * S * (1099511627776 * X * S) := by
    have : 1099511627776 * X * (1099511627776 * X) * (c * c + s * s) = 1099511627776 * X * (1099511627776 * X) * (S * S) := by rw [hu]
    generalize 1099511627776 * X = Y at *
    clear g1 g1' h nx nu m1 m2 hE
    simp only [Int.mul_add, Int.mul_assoc, Int.mul_comm, Int.mul_left_comm] at this ⊢
    omega
  have g2 := g1'.2
  rw [sq1] at g2
  have g3 := le_of_sq g1'.1 g2
  have up : 1099511627776 * X ≤ 1810632051964 * (524288 * (2 * m + 1)) + E := by
    refine Int.le_of_mul_le_mul_left (a := S) ?_ hS
    rw [Int.mul_comm S (1099511627776 * X)]; exact g3
  -- X is not too small
  have g4 := nm_add h (nm_scale (show (0 : Int) ≤ 1099511627776 by decide) nx)
  have g4' : nm (1810632051964 * 524288 * S * (2 * u)) (1810632051964 * 524288 * S * (2 * v)) (S * (E + 1099511627776 * X)) := by
    refine nm_congr g4 ?_ ?_ ?_
    · rw [show 1810632051964 * 524288 * S * (2 * u) = 1810632051964 * (S * (u * 1048576)) by
        rw [show u * 1048576 = 524288 * (2 * u) by omega]; generalize 2 * u = U; generalize (1810632051964 : Int) = q; simp only [Int.mul_assoc, Int.mul_comm, Int.mul_left_comm]]
      omega
    · rw [show 1810632051964 * 524288 * S * (2 * v) = 1810632051964 * (S * (v * 1048576)) by
        rw [show v * 1048576 = 524288 * (2 * v) by omega]; generalize 2 * v = U; generalize (1810632051964 : Int) = q; simp only [Int.mul_assoc, Int.mul_comm, Int.mul_left_comm]]
      omega
    · rw [Int.mul_add, Int.mul_left_comm S, Int.mul_comm X S]
  have sq2 : 1810632051964 * 524288 * S * (2 * m - 1) * (1810632051964 * 524288 * S * (2 * m - 1)) ≤ 1810632051964 * 524288 * S * (2 * u) * (1810632051964 * 524288 * S * (2 * u)) + 1810632051964 * 524288 * S * (2 * v) * (1810632051964 * 524288 * S * (2 * v)) := by
    have e4 : 2 * u * (2 * u) + 2 * v * (2 * v) = 4 * (u * u + v * v) := by
      rw [show 2 * u = u + u by omega, show 2 * v = v + v by omega]; simp only [Int.mul_add, Int.add_mul]; omega
    rw [← e4] at m1
    have := Int.mul_le_mul_of_nonneg_left m1 (sq_nonneg (1810632051964 * 524288 * S))
    clear g1 g1' g4 g4' h nx nu m2 hE sq1 g2 g3 up
    generalize 1810632051964 * 524288 * S = q at *
    generalize 2 * m - 1 = M at *
    generalize 2 * u = U at *
    generalize 2 * v = V at *
    simp only [Int.mul_add, Int.mul_assoc, Int.mul_comm, Int.mul_left_comm] at this ⊢
    omega
  have g5 := le_of_sq g4'.1 (Int.le_trans sq2 g4'.2)
  have lo : 1810632051964 * 524288 * (2 * m - 1) ≤ E + 1099511627776 * X := by
    refine Int.le_of_mul_le_mul_left (a := S) ?_ hS
    rw [show S * (1810632051964 * 524288 * (2 * m - 1)) = 1810632051964 * 524288 * S * (2 * m - 1) by
      generalize 2 * m - 1 = M; generalize (1810632051964 : Int) * 524288 = q; simp only [Int.mul_assoc, Int.mul_comm, Int.mul_left_comm]]
    exact g5
  clear g1 g1' g2 g3 g4 g4' g5 sq1 sq2 nx m1 m2
  -- E is small
  have eb : 2 * E ≤ 1810632051964 * 262144 := by omega
  have d : nm ((1099511627776 * X - 1810632051964 * 1048576 * m) * c) ((1099511627776 * X - 1810632051964 * 1048576 * m) * s) ((1810632051964 * 524288 + E) * S) := by
    have := nm_mul (show nm (1099511627776 * X - 1810632051964 * 1048576 * m) 0 (1810632051964 * 524288 + E) from ⟨by omega, by
      have := sq_abs (x := 1099511627776 * X - 1810632051964 * 1048576 * m) (y := 1810632051964 * 524288 + E) (by omega) (by omega)
      omega⟩) nu
    simpa using this
  have f := nm_add h d
  refine nm_cancel (k := 1810632051964 * 262144) (by decide) (nm_mono (nm_congr f ?_ ?_ rfl) ?_)
  · rw [Int.sub_mul, Int.mul_assoc _ X c, Int.mul_assoc _ m c, ← Int.mul_assoc S u]; omega
  · rw [Int.sub_mul, Int.mul_assoc _ X s, Int.mul_assoc _ m s, ← Int.mul_assoc S v]; omega
  · have := Int.mul_le_mul_of_nonneg_left eb S0
    rw [Int.mul_left_comm S 2 E] at this
    rw [Int.add_mul, Int.mul_comm E S]
    omega

/-! ### the direction of a point -/

theorem qt_bk (p : Int × Int) (j : Nat) (hj : j ≤ 3) : qt j (bk j p) = p := by
  rcases (show j = 0 ∨ j = 1 ∨ j = 2 ∨ j = 3 by omega) with rfl | rfl | rfl | rfl <;> simp [qt, bk]

theorem bk_sq (p : Int × Int) (j : Nat) : (bk j p).1 * (bk j p).1 + (bk j p).2 * (bk j p).2 = p.1 * p.1 + p.2 * p.2 := by
  induction j with
  | zero => rfl
  | succ j ih => simp only [bk]; rw [Int.neg_mul_neg]; omega

theorem rr_bd (x y : Int) : -100000001 ≤ rr x y ∧ rr x y ≤ 100000001 := by
  have z := vs_z ((bk (qn x y) (x, y)).1 * 1048576) ((bk (qn x y) (x, y)).2 * 1048576) 26 (by decide)
  have b := st_bd 26 (by decide)
  unfold rr rz
  split
  · decide
  · omega

/-- The point in the quarter about the axis is its rounded distance m, turned by what is left of the direction. -/
theorem axis_turn {S : Int} {C Z : Int → Int} (t : Turn S C Z) (x y m : Int) (h0 : ¬ (x = 0 ∧ y = 0)) (m0 : 1 ≤ m) (mm : m ≤ 1500000)
    (m1 : (2 * m - 1) * (2 * m - 1) ≤ 4 * (x * x + y * y)) (m2 : 4 * (x * x + y * y) ≤ (2 * m + 1) * (2 * m + 1)) :
    Qm S C Z m (bk (qn x y) (x, y)).1 (bk (qn x y) (x, y)).2 (rr x y * 1000) (13835058055282163712 + 160978210500 * m) := by
  obtain ⟨i1, i2⟩ := inQ_bd (qn_in x y h0)
  have n2 := bk_sq (x, y) (qn x y)
  have p := t.rot.pos
  have rd : rr x y = if (bk (qn x y) (x, y)).2 = 0 then 0 else (rz x y + 500) / 1000 := rfl
  have rze : rz x y = (vs ((bk (qn x y) (x, y)).1 * 1048576) ((bk (qn x y) (x, y)).2 * 1048576) 26).2.2 := rfl
  dsimp only at n2
  generalize rr x y = R at *
  generalize rz x y = z at *
  generalize (bk (qn x y) (x, y)).1 = u at *
  generalize (bk (qn x y) (x, y)).2 = v at *
  rw [← n2] at m1 m2
  by_cases c : v = 0
  · rw [if_pos c] at rd
    subst rd c
    have e : u = m := by
      have a := le_of_sq (x := 2 * m - 1) (y := 2 * u) (by omega) (by
        have : 2 * u * (2 * u) = 4 * (u * u) := by rw [show 2 * u = u + u by omega]; simp only [Int.mul_add, Int.add_mul]; omega
        omega)
      have b := le_of_sq (x := 2 * u) (y := 2 * m + 1) (by omega) (by
        have : 2 * u * (2 * u) = 4 * (u * u) := by rw [show 2 * u = u + u by omega]; simp only [Int.mul_add, Int.add_mul]; omega
        omega)
      omega
    subst e
    unfold Qm
    rw [Int.zero_mul, t.rot.zeroC, t.rot.zeroZ]
    refine nm_mono (nm_congr nm_zero ?_ ?_ rfl) (Int.mul_nonneg (Int.le_of_lt p) (by omega))
    · rw [Int.mul_comm S u]; omega
    · simp
  · rw [if_neg c] at rd
    have e4 : 2 * u * (2 * u) + 2 * v * (2 * v) = 4 * (u * u + v * v) := by
      rw [show 2 * u = u + u by omega, show 2 * v = v + v by omega]; simp only [Int.mul_add, Int.add_mul]; omega
    have h2 : nm (2 * u) (2 * v) (2 * m + 1) := ⟨by omega, by rw [e4]; exact m2⟩
    have hM : nm (u * 1048576) (v * 1048576) ((2 * m + 1) * 524288) :=
      nm_congr (nm_scale (show (0 : Int) ≤ 524288 by decide) h2) (by omega) (by omega) (by omega)
    have k := vs_end t hM (by omega) (by omega) (by omega)
    have ax := vs_ax (u * 1048576) (v * 1048576) (by omega) (by omega) (by omega) 26
    have zz := vs_z (u * 1048576) (v * 1048576) 26 (by decide)
    have sb := st_bd 26 (by decide)
    rw [← rze] at k zz
    have a := axis_plain S u v (C z) (Z z) _ m p (t.rot.unit z (by omega) (by omega)) m0 mm ax.1 m1 h2 k
    have q : Qm S C Z m u v z 13835058055282163712 := by
      have := nm_scale (show (0 : Int) ≤ 4611686018427387904 by decide) a
      exact nm_congr this (by omega) (by omega) (by omega)
    exact qm_near t (by omega) q (by omega) (by omega) (by omega) (by omega)

/-- A point is its rounded distance, turned by its direction. -/
theorem dir_plain (x y m : Int) (h0 : ¬ (x = 0 ∧ y = 0)) (m0 : 0 ≤ m) (mm : m ≤ 1500000)
    (m1 : m = 0 ∨ (2 * m - 1) * (2 * m - 1) ≤ 4 * (x * x + y * y)) (m2 : 4 * (x * x + y * y) ≤ (2 * m + 1) * (2 * m + 1)) :
    nm (1073741824 * x - m * (sc (ang x y)).1) (1073741824 * y - m * (sc (ang x y)).2) 1073741824 := by
  obtain ⟨S, C, Z, t⟩ := exists_turn
  have p := t.rot.pos
  have m3 : 1 ≤ m := by
    by_cases c : m = 0
    · subst c
      have a := sq_nonneg x
      have b := sq_nonneg y
      have a0 : x * x = 0 := by omega
      have b0 : y * y = 0 := by omega
      exact absurd ⟨(Int.mul_eq_zero.1 a0).elim id id, (Int.mul_eq_zero.1 b0).elim id id⟩ h0
    · omega
  have q := axis_turn t x y m h0 m3 mm (m1.resolve_left (by omega)) m2
  have rb := rr_bd x y
  have nl := qn_le x y
  have q2 := qm_qt t m0 q (by omega) (by omega) (qn x y) (by omega)
  rw [qt_bk (x, y) (qn x y) nl] at q2
  dsimp only at q2
  have mk : 16 * m * (qn x y : Int) ≤ 48 * m := by
    have := Int.mul_le_mul_of_nonneg_left (show (qn x y : Int) ≤ 3 by omega) (show 0 ≤ 16 * m by omega)
    omega
  have q3 : Qm S C Z m x y (ang x y * 1000) (13835058055282163712 + 160978210700 * m) := by
    have e : ang x y = ((qn x y : Int) * 90000000 + rr x y) % 360000000 := rfl
    by_cases c : (qn x y : Int) * 90000000 + rr x y < 0
    · have := qm_full t m0 q2 (by omega) (by omega)
      rw [show rr x y * 1000 + 90000000000 * (qn x y : Int) + 360000000000 = ang x y * 1000 by omega] at this
      exact qm_mono t this (by omega)
    · by_cases d : (qn x y : Int) * 90000000 + rr x y < 360000000
      · rw [show rr x y * 1000 + 90000000000 * (qn x y : Int) = ang x y * 1000 by omega] at q2
        exact qm_mono t q2 (by omega)
      · have := qm_unfull t m0 q2 (by omega) (by omega)
        rw [show rr x y * 1000 + 90000000000 * (qn x y : Int) - 360000000000 = ang x y * 1000 by omega] at this
        exact qm_mono t this (by omega)
  have ab : 0 ≤ ang x y ∧ ang x y < 360000000 := by unfold ang; omega
  have h := sc_pr t (ang x y) (by omega) (by omega)
  unfold Qm at q3
  unfold Pr at h
  have k := nm_sub q3 (nm_scale m0 h)
  refine nm_cancel (k := 17179869184 * S) (by omega) (nm_mono (nm_congr k ?_ ?_ rfl) ?_)
  · rw [Int.mul_assoc 17179869184 S, Int.mul_sub S, Int.mul_sub m, Int.mul_left_comm S 1073741824, Int.mul_left_comm S m, Int.mul_left_comm m 17179869184, Int.mul_left_comm m 18446744073709551616]; omega
  · rw [Int.mul_assoc 17179869184 S, Int.mul_sub S, Int.mul_sub m, Int.mul_left_comm S 1073741824, Int.mul_left_comm S m, Int.mul_left_comm m 17179869184, Int.mul_left_comm m 18446744073709551616]; omega
  · have b : 13835058055282163712 + 160978210700 * m + 1300000000128 * m ≤ 17179869184 * 1073741824 := by omega
    have := Int.mul_le_mul_of_nonneg_left b (Int.le_of_lt p)
    have e : m * (S * 1300000000128) = S * (1300000000128 * m) := by simp only [Int.mul_comm, Int.mul_left_comm]
    rw [e]
    rw [Int.mul_add S (13835058055282163712 + 160978210700 * m)] at this
    omega

end Go.Proofs.YtkfipjlknfinpaaDoor.Cm
