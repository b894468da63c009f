
/- Plain: what the sines and cosines of the algorithm show of each other: the circle, the addition theorem, the opposite angle, rotations there and back, lengths, quarters. -/
import Derived.Test.YtkfipjlknfinpaaDoorCM
set_option linter.unusedVariables false
set_option linter.unusedSimpArgs false
namespace Go.Proofs.YtkfipjlknfinpaaDoor.Cm

/-! ### quarters -/

theorem qt_four (k : Nat) (p : Int × Int) : qt (k + 4) p = qt k p := by
  simp [qt]

theorem sc_mod (a b : Int) (h : a % 360000000 = b % 360000000) : sc a = sc b := by
  unfold sc rest kk
  rw [h]

theorem sc_quarter (a : Int) : sc (a + 90000000) = (-(sc a).2, (sc a).1) := by
  have e : ∀ k : Nat, ∀ p : Int × Int, (-(qt k p).2, (qt k p).1) = qt (k + 1) p := fun k p => rfl
  unfold sc
  rw [e]
  have r : rest (a + 90000000) = rest a := by unfold rest kk; omega
  rw [r]
  by_cases c : a % 360000000 < 270000000
  · rw [show (kk (a + 90000000)).toNat = (kk a).toNat + 1 by unfold kk; omega]
  · rw [← qt_four (kk (a + 90000000)).toNat]
    congr 1
    unfold kk
    omega

theorem sc_full (a : Int) : sc (a - 360000000) = sc a := sc_mod _ _ (by omega)

theorem sc_half (a : Int) : sc (a + 180000000) = (-(sc a).1, -(sc a).2) := by
  rw [show a + 180000000 = a + 90000000 + 90000000 by omega, sc_quarter, sc_quarter]

theorem sc_right (k : Int) : sc (k * 90000000) = qt (k % 4).toNat (1073741824, 0) := by
  have h : sc (k * 90000000) = sc (k % 4 * 90000000) := sc_mod _ _ (by omega)
  rw [h]
  rcases (show k % 4 = 0 ∨ k % 4 = 1 ∨ k % 4 = 2 ∨ k % 4 = 3 by omega) with e | e | e | e
  all_goals
    rw [e]
    decide +kernel

/-! ### the circle -/

theorem sc_hi (a : Int) : (sc a).1 * (sc a).1 + (sc a).2 * (sc a).2 ≤ 1152921667815610000 := by
  have h := (sc_bd a).2
  omega

theorem nm_lo {S c s R e L : Int} {u v : Int} (hS : 0 < S) (hR : 0 ≤ R) (hu : u * u + v * v = S * S) (h : nm (17179869184 * (S * c) - 18446744073709551616 * u) (17179869184 * (S * s) - 18446744073709551616 * v) (S * e))
    (hL : c * c + s * s ≤ R * R) (hb : 17179869184 * R + e < 18446744073709551616) : False := by
  have k1 : nm c s R := ⟨hR, hL⟩
  have k2 := nm_sub (nm_scale (show (0 : Int) ≤ 17179869184 by decide) (nm_scale (Int.le_of_lt hS) k1)) h
  have k3 : nm (18446744073709551616 * u) (18446744073709551616 * v) (17179869184 * (S * R) + S * e) := nm_congr k2 (by omega) (by omega) rfl
  have e1 : 18446744073709551616 * u * (18446744073709551616 * u) + 18446744073709551616 * v * (18446744073709551616 * v) = 18446744073709551616 * S * (18446744073709551616 * S) := by
    have : 18446744073709551616 * 18446744073709551616 * (u * u + v * v) = 18446744073709551616 * 18446744073709551616 * (S * S) := by rw [hu]
    generalize (18446744073709551616 : Int) = q at *
    simp only [Int.mul_add, Int.mul_assoc, Int.mul_comm, Int.mul_left_comm] at this ⊢
    omega
  have k4 := k3.2
  rw [e1] at k4
  have k5 := le_of_sq k3.1 k4
  have k6 := Int.mul_lt_mul_of_pos_left hb hS
  rw [Int.mul_add, Int.mul_left_comm] at k6
  omega

theorem sc_lo (a : Int) : 1152921339250612009 < (sc a).1 * (sc a).1 + (sc a).2 * (sc a).2 := by
  obtain ⟨S, C, Z, t⟩ := exists_turn
  have h := sc_pr0 t a
  have u := t.rot.unit (a % 360000000 * 1000) (by omega) (by omega)
  by_cases c : 1152921339250612009 < (sc a).1 * (sc a).1 + (sc a).2 * (sc a).2
  · exact c
  · exact absurd (nm_lo (R := 1073741747) (L := 0) t.rot.pos (by decide) u h (by omega) (by decide)) (fun h => h)

/-! ### sums -/

theorem sum_plain (S c s c' s' c'' s'' u v u' v' u'' v'' e : Int) (hS : 0 < S) (he : 0 ≤ e) (hb : nm c s 1073741900) (hu : nm u v S) (hu' : nm u' v' S) (a1 : S * u'' = u * u' - v * v') (a2 : S * v'' = u * v' + v * u')
    (h : nm (17179869184 * (S * c) - 18446744073709551616 * u) (17179869184 * (S * s) - 18446744073709551616 * v) (S * e))
    (h' : nm (17179869184 * (S * c') - 18446744073709551616 * u') (17179869184 * (S * s') - 18446744073709551616 * v') (S * e))
    (h'' : nm (17179869184 * (S * c'') - 18446744073709551616 * u'') (17179869184 * (S * s'') - 18446744073709551616 * v'') (S * e)) :
    nm (17179869184 * (c * c' - s * s') - 18446744073709551616 * c'') (17179869184 * (c * s' + s * c') - 18446744073709551616 * s'') (e * 3221225548) := by
  have S0 := Int.le_of_lt hS
  have k1 := nm_mul (nm_scale (show (0 : Int) ≤ 17179869184 by decide) (nm_scale S0 hb)) h'
  have k2 := nm_mul h (nm_scale (show (0 : Int) ≤ 18446744073709551616 by decide) hu')
  have k3 := nm_scale (show (0 : Int) ≤ 18446744073709551616 by decide) (nm_scale S0 h'')
  have k4 := nm_sub (nm_add k1 k2) k3
  have p : 0 < 17179869184 * (S * S) := by have := Int.mul_pos hS hS; omega
  have b1 : 18446744073709551616 * 18446744073709551616 * (S * u'') = 18446744073709551616 * 18446744073709551616 * (u * u' - v * v') := by rw [a1]
  have b2 : 18446744073709551616 * 18446744073709551616 * (S * v'') = 18446744073709551616 * 18446744073709551616 * (u * v' + v * u') := by rw [a2]
  refine nm_cancel p (nm_congr k4 ?_ ?_ ?_)
  · clear k1 k2 k3 k4 h h' h'' hb hu hu' a1 a2 b2 p
    generalize (17179869184 : Int) = r at *
    generalize (18446744073709551616 : Int) = q at *
    simp only [Int.mul_add, Int.add_mul, Int.sub_mul, Int.mul_sub, Int.mul_assoc, Int.mul_comm, Int.mul_left_comm] at b1 ⊢
    omega
  · clear k1 k2 k3 k4 h h' h'' hb hu hu' a1 a2 b1 p
    generalize (17179869184 : Int) = r at *
    generalize (18446744073709551616 : Int) = q at *
    simp only [Int.mul_add, Int.add_mul, Int.sub_mul, Int.mul_sub, Int.mul_assoc, Int.mul_comm, Int.mul_left_comm] at b2 ⊢
    omega
  · have e1 : 17179869184 * (S * 1073741900) * (S * e) = 17179869184 * 1073741900 * (S * (S * e)) := by
      simp only [Int.mul_assoc, Int.mul_comm, Int.mul_left_comm]
    have e2 : S * e * (18446744073709551616 * S) = 18446744073709551616 * (S * (S * e)) := by
      simp only [Int.mul_assoc, Int.mul_comm, Int.mul_left_comm]
    have e3 : 17179869184 * (S * S) * (e * 3221225548) = 17179869184 * 3221225548 * (S * (S * e)) := by
      simp only [Int.mul_assoc, Int.mul_comm, Int.mul_left_comm]
    rw [e1, e2, e3]
    omega

/-- The addition theorem, up to 228 units of 2^-30. -/
theorem sc_sum (a b : Int) (a1 : -360000000 ≤ a) (a2 : a < 360000000) (b1 : -360000000 ≤ b) (b2 : b < 360000000) (c1 : -360000000 ≤ a + b) (c2 : a + b < 720000000) :
    nm ((sc a).1 * (sc b).1 - (sc a).2 * (sc b).2 - 1073741824 * (sc (a + b)).1) ((sc a).1 * (sc b).2 + (sc a).2 * (sc b).1 - 1073741824 * (sc (a + b)).2) 244813135872 := by
  obtain ⟨S, C, Z, t⟩ := exists_turn
  have h := sc_pr t a a1 (by omega)
  have h' := sc_pr t b b1 (by omega)
  have h'' := sc_pr t (a + b) c1 c2
  have p1 := t.rot.addC (a * 1000) (b * 1000) (by omega) (by omega) (by omega) (by omega) (by omega) (by omega)
  have p2 := t.rot.addZ (a * 1000) (b * 1000) (by omega) (by omega) (by omega) (by omega) (by omega) (by omega)
  rw [show a * 1000 + b * 1000 = (a + b) * 1000 by omega] at p1 p2
  have k := sum_plain S _ _ _ _ _ _ _ _ _ _ _ _ 1300000000128 t.rot.pos (by decide) (sc_bd a) (nm_unit t.rot (a * 1000) (by omega) (by omega)) (nm_unit t.rot (b * 1000) (by omega) (by omega)) p1 p2 h h' h''
  refine nm_cancel (k := 17179869184) (by decide) (nm_mono (nm_congr k ?_ ?_ rfl) (by decide))
  · omega
  · omega

/-! ### the opposite angle -/

theorem sc_mirror (a : Int) (a1 : 0 ≤ a) (a2 : a < 360000000) : nm ((sc (-a)).1 - (sc a).1) ((sc (-a)).2 + (sc a).2) 152 := by
  obtain ⟨S, C, Z, t⟩ := exists_turn
  have h := sc_pr t a (by omega) (by omega)
  have h' := sc_pr t (-a) (by omega) (by omega)
  unfold Pr at h h'
  rw [show -a * 1000 = -(a * 1000) by omega, t.rot.negC, t.rot.negZ] at h'
  have k := nm_sub h' (nm_conj h)
  have p := t.rot.pos
  refine nm_cancel (k := 17179869184 * S) (by omega) (nm_mono (nm_congr k ?_ ?_ rfl) ?_)
  · rw [Int.mul_assoc, Int.mul_sub]; omega
  · rw [Int.mul_assoc, Int.mul_add]; omega
  · omega

/-! ### there and back -/

/-- A rounded coordinate. -/
theorem rd_near (n : Int) : -536870912 ≤ 1073741824 * ((n + 536870912) / 1073741824) - n ∧ 1073741824 * ((n + 536870912) / 1073741824) - n ≤ 536870912 := by omega

theorem rounded (X Y x y : Int) (h1 : -536870912 ≤ 1073741824 * x - X) (h2 : 1073741824 * x - X ≤ 536870912) (h3 : -536870912 ≤ 1073741824 * y - Y) (h4 : 1073741824 * y - Y ≤ 536870912) :
    nm (1073741824 * x - X) (1073741824 * y - Y) 759250126 :=
  nm_box (p := 536870912) (by omega) (by omega) (by omega) (by omega) (by decide) (by decide)

/-- A turn of a point, rounded. -/
theorem turn_len (x y c s x' y' M : Int) (hp : nm x y M) (hv : nm c s 1073741900) (h : nm (1073741824 * x' - (x * c - y * s)) (1073741824 * y' - (x * s + y * c)) 759250126) :
    nm (1073741824 * x') (1073741824 * y') (M * 1073741900 + 759250126) := by
  have k := nm_add (nm_mul hp hv) h
  exact nm_congr k (by omega) (by omega) rfl

theorem back_plain (x y c s c' s' x' y' x'' y'' : Int) (hp : nm x y 1482911) (hv : nm c s 1073741900) (hv' : nm c' s' 1073741900)
    (h : nm (1073741824 * x' - (x * c - y * s)) (1073741824 * y' - (x * s + y * c)) 759250126)
    (h' : nm (1073741824 * x'' - (x' * c' - y' * s')) (1073741824 * y'' - (x' * s' + y' * c')) 759250126)
    (hs : nm (c * c' - s * s' - 1073741824 * 1073741824) (c * s' + s * c' - 1073741824 * 0) 244813135872) : -1 ≤ x'' - x ∧ x'' - x ≤ 1 ∧ -1 ≤ y'' - y ∧ y'' - y ≤ 1 := by
  have k1 := nm_mul hp hs
  have k2 := nm_mul h hv'
  have k3 := nm_scale (show (0 : Int) ≤ 1073741824 by decide) h'
  have k4 := nm_add (nm_add k1 k2) k3
  have k5 : nm (1152921504606846976 * (x'' - x)) (1152921504606846976 * (y'' - y)) (1482911 * 244813135872 + 759250126 * 1073741900 + 1073741824 * 759250126) := by
    refine nm_congr k4 ?_ ?_ rfl
    · clear k1 k2 k3 k4 hp hv hv' h h' hs
      simp only [Int.mul_add, Int.add_mul, Int.sub_mul, Int.mul_sub, Int.mul_assoc, Int.mul_comm, Int.mul_left_comm]
      omega
    · clear k1 k2 k3 k4 hp hv hv' h h' hs
      simp only [Int.mul_add, Int.add_mul, Int.sub_mul, Int.mul_sub, Int.mul_assoc, Int.mul_comm, Int.mul_left_comm]
      omega
  have a := nm_re k5
  have b := nm_im k5
  omega

/-! ### lengths -/

/-- The nearest root m of N, the nearest root n of the square of the turned point: they differ by at most 1. -/
theorem len_plain (x y c s x' y' m n : Int) (m0 : 0 ≤ m) (n0 : 0 ≤ n) (mm : m ≤ 1500000) (nn : n ≤ 10000000)
    (m1 : m = 0 ∨ (2 * m - 1) * (2 * m - 1) ≤ 4 * (x * x + y * y)) (m2 : 4 * (x * x + y * y) ≤ (2 * m + 1) * (2 * m + 1))
    (n1 : n = 0 ∨ (2 * n - 1) * (2 * n - 1) ≤ 4 * (x' * x' + y' * y')) (n2 : 4 * (x' * x' + y' * y') ≤ (2 * n + 1) * (2 * n + 1))
    (hv : nm c s 1073741900) (lo : 1073741747 * 1073741747 ≤ c * c + s * s)
    (h : nm (1073741824 * x' - (x * c - y * s)) (1073741824 * y' - (x * s + y * c)) 759250126) : m - n ≤ 1 ∧ n - m ≤ 1 := by
  have e4 : ∀ a b : Int, 2 * a * (2 * a) + 2 * b * (2 * b) = 4 * (a * a + b * b) := fun a b => by
    rw [show 2 * a = a + a by omega, show 2 * b = b + b by omega]; simp only [Int.mul_add, Int.add_mul]; omega
  have p : nm (2 * x) (2 * y) (2 * m + 1) := ⟨by omega, by rw [e4]; exact m2⟩
  have p' : nm (2 * x') (2 * y') (2 * n + 1) := ⟨by omega, by rw [e4]; exact n2⟩
  have h2 := nm_scale (show (0 : Int) ≤ 2 by decide) h
  refine ⟨?_, ?_⟩
  · -- m is not greater than n + 1
    by_cases c0 : m = 0
    · omega
    have m1 := m1.resolve_left c0
    have k := nm_sub (nm_scale (show (0 : Int) ≤ 1073741824 by decide) p') h2
    have k2 : nm (2 * x * c - 2 * y * s) (2 * x * s + 2 * y * c) (1073741824 * (2 * n + 1) + 2 * 759250126) := by
      refine nm_congr k ?_ ?_ rfl
      · rw [Int.mul_assoc, Int.mul_assoc]; omega
      · rw [Int.mul_assoc, Int.mul_assoc]; omega
    have e : (2 * x * c - 2 * y * s) * (2 * x * c - 2 * y * s) + (2 * x * s + 2 * y * c) * (2 * x * s + 2 * y * c) = (2 * x * (2 * x) + 2 * y * (2 * y)) * (c * c + s * s) := by
      generalize 2 * x = X
      generalize 2 * y = Y
      simp only [Int.mul_add, Int.add_mul, Int.sub_mul, Int.mul_sub, Int.mul_assoc, Int.mul_comm, Int.mul_left_comm]
      omega
    have k3 := k2.2
    rw [e, e4] at k3
    have l : (2 * m - 1) * 1073741747 * ((2 * m - 1) * 1073741747) ≤ 4 * (x * x + y * y) * (c * c + s * s) := by
      have := Int.mul_le_mul m1 lo (by decide) (by have := sq_nonneg x; have := sq_nonneg y; omega)
      have e5 : (2 * m - 1) * 1073741747 * ((2 * m - 1) * 1073741747) = (2 * m - 1) * (2 * m - 1) * (1073741747 * 1073741747) := by
        generalize 2 * m - 1 = q
        rw [Int.mul_assoc, Int.mul_left_comm 1073741747 q, ← Int.mul_assoc]
      rw [e5]; exact this
    have := le_of_sq k2.1 (Int.le_trans l k3)
    omega
  · by_cases c0 : n = 0
    · omega
    have n1 := n1.resolve_left c0
    have k := nm_add (nm_mul p hv) h2
    have k2 : nm (1073741824 * (2 * x')) (1073741824 * (2 * y')) ((2 * m + 1) * 1073741900 + 2 * 759250126) := by
      refine nm_congr k ?_ ?_ rfl
      · rw [Int.mul_assoc, Int.mul_assoc]; omega
      · rw [Int.mul_assoc, Int.mul_assoc]; omega
    have e : 1073741824 * (2 * x') * (1073741824 * (2 * x')) + 1073741824 * (2 * y') * (1073741824 * (2 * y')) = 1073741824 * 1073741824 * (2 * x' * (2 * x') + 2 * y' * (2 * y')) := by
      generalize 2 * x' = X
      generalize 2 * y' = Y
      generalize (1073741824 : Int) = q
      simp only [Int.mul_add, Int.add_mul, Int.mul_assoc, Int.mul_comm, Int.mul_left_comm]
    have k3 := k2.2
    rw [e, e4] at k3
    have l : (2 * n - 1) * 1073741824 * ((2 * n - 1) * 1073741824) ≤ 1073741824 * 1073741824 * (4 * (x' * x' + y' * y')) := by
      have := Int.mul_le_mul_of_nonneg_left n1 (show (0 : Int) ≤ 1073741824 * 1073741824 by decide)
      have e5 : (2 * n - 1) * 1073741824 * ((2 * n - 1) * 1073741824) = 1073741824 * 1073741824 * ((2 * n - 1) * (2 * n - 1)) := by
        generalize 2 * n - 1 = q
        generalize (1073741824 : Int) = r
        simp only [Int.mul_assoc, Int.mul_comm, Int.mul_left_comm]
      rw [e5]; exact this
    have := le_of_sq k2.1 (Int.le_trans l k3)
    omega

end Go.Proofs.YtkfipjlknfinpaaDoor.Cm
