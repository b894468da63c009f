
/- Plain: sine and cosine in millionths, and the angle back. -/
import Derived.Test.YtkfipjlknfinpaaDoorCmI
set_option linter.unusedVariables false
set_option linter.unusedSimpArgs false
namespace Go.Proofs.YtkfipjlknfinpaaDoor.Cm

theorem sq_two (K S : Int) : K * S * (K * S) = K * K * (S * S) := by simp only [Int.mul_assoc, Int.mul_comm, Int.mul_left_comm]
/-- Further steps. -/
theorem turn_far {S : Int} {C Z : Int → Int} (t : Turn S C Z) (n : Int) (h1 : -1000000000000 ≤ n) (h2 : n ≤ 1000000000000) : ∀ k : Nat, k ≤ 100000000000 →
    nm (18446744073709551616 * (C (n + k) - C n)) (18446744073709551616 * (Z (n + k) - Z n)) (k * 321956421 * S) := by
  intro k
  induction k with
  | zero =>
    intro _
    refine nm_congr nm_zero ?_ ?_ ?_
    · simp
    · simp
    · simp
  | succ k ih =>
    intro hk
    have a := ih (by omega)
    have b := turn_step t (n + k) (by omega) (by omega)
    have c := nm_add b a
    refine nm_congr c ?_ ?_ ?_
    · rw [show n + ((k + 1 : Nat) : Int) = n + k + 1 by omega]; omega
    · rw [show n + ((k + 1 : Nat) : Int) = n + k + 1 by omega]; omega
    · rw [show ((k + 1 : Nat) : Int) = k + 1 by omega]
      simp only [Int.add_mul, Int.one_mul]
      omega

/-- The turn back: what is left between two turns. -/
theorem turn_diff {S : Int} {C Z : Int → Int} (t : Turn S C Z) (a b F : Int) (a1 : -1000000000000 ≤ a) (a2 : a ≤ 1000000000000) (b1 : -1000000000000 ≤ b) (b2 : b ≤ 1000000000000)
    (h : nm (18446744073709551616 * (C b - C a)) (18446744073709551616 * (Z b - Z a)) (S * F)) : nm (18446744073709551616 * (C (b - a) - S)) (18446744073709551616 * Z (b - a)) (S * F) := by
  have k := nm_mul h (nm_conj (nm_unit t.rot a (by omega) (by omega)))
  have e1 := t.rot.addC b (-a) (by omega) (by omega) (by omega) (by omega) (by omega) (by omega)
  have e2 := t.rot.addZ b (-a) (by omega) (by omega) (by omega) (by omega) (by omega) (by omega)
  have e3 := t.rot.unit a (by omega) (by omega)
  rw [t.rot.negC, t.rot.negZ, show b + -a = b - a by omega] at e1 e2
  refine nm_cancel t.rot.pos (nm_congr k ?_ ?_ ?_)
  · generalize (18446744073709551616 : Int) = K at *
    have e1' : K * (S * C (b - a)) = K * (C b * C a - Z b * -Z a) := by rw [e1]
    have e3' : K * (C a * C a + Z a * Z a) = K * (S * S) := by rw [e3]
    simp only [Int.mul_add, Int.add_mul, Int.sub_mul, Int.mul_sub, Int.mul_assoc, Int.mul_comm, Int.mul_left_comm, Int.mul_neg, Int.neg_mul] at e1' e3' ⊢
    omega
  · generalize (18446744073709551616 : Int) = K at *
    have e2' : K * (S * Z (b - a)) = K * (C b * -Z a + Z b * C a) := by rw [e2]
    simp only [Int.mul_add, Int.add_mul, Int.sub_mul, Int.mul_sub, Int.mul_assoc, Int.mul_comm, Int.mul_left_comm, Int.mul_neg, Int.neg_mul] at e2' ⊢
    omega
  · simp only [Int.mul_assoc, Int.mul_comm, Int.mul_left_comm]

/-- Several turns by the same angle. -/
theorem turn_mult {S : Int} {C Z : Int → Int} (t : Turn S C Z) (n F : Int) (n1 : 0 ≤ n) (hF : 0 ≤ F) (h : nm (18446744073709551616 * (C n - S)) (18446744073709551616 * Z n) (S * F)) : ∀ k : Nat, n * k ≤ 1000000000000 →
    nm (18446744073709551616 * (C (n * k) - S)) (18446744073709551616 * Z (n * k)) (S * (F * k)) := by
  intro k
  induction k with
  | zero =>
    intro _
    refine nm_congr nm_zero ?_ ?_ ?_
    · simp [t.rot.zeroC]
    · simp [t.rot.zeroZ]
    · simp
  | succ k ih =>
    intro hk
    have ek : n * ((k + 1 : Nat) : Int) = n * k + n := by rw [show ((k + 1 : Nat) : Int) = k + 1 by omega, Int.mul_add, Int.mul_one]
    have k0 : 0 ≤ n * (k : Int) := Int.mul_nonneg n1 (by omega)
    rw [ek] at hk ⊢
    have a := ih (by omega)
    have c := nm_mul a (nm_unit t.rot n (by omega) (by omega))
    have e1 := t.rot.addC (n * k) n (by omega) (by omega) (by omega) (by omega) (by omega) (by omega)
    have e2 := t.rot.addZ (n * k) n (by omega) (by omega) (by omega) (by omega) (by omega) (by omega)
    have d : nm (18446744073709551616 * (C (n * k + n) - C n)) (18446744073709551616 * (Z (n * k + n) - Z n)) (S * (F * k)) := by
      refine nm_cancel t.rot.pos (nm_congr c ?_ ?_ ?_)
      · generalize (18446744073709551616 : Int) = K at *
        generalize C (n * k + n) = u at *
        generalize C (n * k) = x at *
        generalize Z (n * k) = y at *
        have e1' : K * (S * u) = K * (x * C n - y * Z n) := by rw [e1]
        simp only [Int.mul_add, Int.add_mul, Int.sub_mul, Int.mul_sub, Int.mul_assoc, Int.mul_comm, Int.mul_left_comm] at e1' ⊢
        omega
      · generalize (18446744073709551616 : Int) = K at *
        generalize Z (n * k + n) = u at *
        generalize C (n * k) = x at *
        generalize Z (n * k) = y at *
        have e2' : K * (S * u) = K * (x * Z n + y * C n) := by rw [e2]
        simp only [Int.mul_add, Int.add_mul, Int.sub_mul, Int.mul_sub, Int.mul_assoc, Int.mul_comm, Int.mul_left_comm] at e2' ⊢
        omega
      · simp only [Int.mul_assoc, Int.mul_comm, Int.mul_left_comm]
    have f := nm_add d h
    refine nm_congr f ?_ ?_ ?_
    · omega
    · omega
    · rw [show ((k + 1 : Nat) : Int) = k + 1 by omega]
      simp only [Int.mul_add, Int.mul_one]

/-- No turn by more than a thousand millionths up to a half turn is near to none. -/
theorem turn_small {S : Int} {C Z : Int → Int} (t : Turn S C Z) (n : Int) (n1 : 1001000 ≤ n) (n2 : n ≤ 180000000000) (h : nm (18446744073709551616 * (C n - S)) (18446744073709551616 * Z n) (S * 60000000000000)) : False := by
  have p := t.rot.pos
  by_cases c : n ≤ 90000000000
  · -- some multiple lies between an eighth and a quarter turn
    obtain ⟨k, hk⟩ : ∃ k : Nat, (k : Int) = 90000000000 / n := ⟨(90000000000 / n).toNat, by
      have := Int.ediv_nonneg (show (0 : Int) ≤ 90000000000 by decide) (show 0 ≤ n by omega)
      omega⟩
    have d1 := Int.emod_add_mul_ediv 90000000000 n
    have d2 := Int.emod_nonneg 90000000000 (show n ≠ 0 by omega)
    have d3 := Int.emod_lt_of_pos 90000000000 (show 0 < n by omega)
    rw [← hk] at d1
    have k1 : (k : Int) ≤ 89910 := by
      have : n * (k : Int) ≤ 90000000000 := by omega
      rcases Int.lt_or_le 89910 (k : Int) with g | g
      · have a := Int.mul_le_mul n1 (show (89911 : Int) ≤ k by omega) (by decide) (by omega)
        omega
      · exact g
    have k0 : 1 ≤ (k : Int) := by
      rcases Int.lt_or_le (k : Int) 1 with g | g
      · have : (k : Int) = 0 := by omega
        rw [this] at d1; omega
      · exact g
    have m1 : n * (k : Int) ≤ 90000000000 := by omega
    have m2 : 45000000000 ≤ n * (k : Int) := by
      have : n ≤ n * (k : Int) := by
        have := Int.mul_le_mul_of_nonneg_left k0 (show 0 ≤ n by omega)
        omega
      omega
    have a := turn_mult t n 60000000000000 (by omega) (by decide) h k (by omega)
    obtain ⟨j, hj⟩ : ∃ j : Nat, n * (k : Int) + j = 90000000000 := ⟨(90000000000 - n * (k : Int)).toNat, by omega⟩
    have b := turn_far t (n * (k : Int)) (by omega) (by omega) j (by omega)
    rw [hj] at b
    have q := t.quarter
    generalize n * (k : Int) = m at *
    have f := nm_add (nm_add a b) (nm_neg q)
    have g : nm (-(18446744073709551616 * S)) (18446744073709551616 * S) (S * 21000000000000000000) := by
      refine nm_mono (nm_congr f ?_ ?_ rfl) ?_
      · omega
      · omega
      · have j1 : (j : Int) ≤ 45000000000 := by omega
        have x1 : (60000000000000 : Int) * k ≤ 60000000000000 * 89910 := by omega
        have x2 : (j : Int) * 321956421 ≤ 45000000000 * 321956421 := by omega
        have y1 := Int.mul_le_mul_of_nonneg_left x1 (Int.le_of_lt p)
        have y2 := Int.mul_le_mul_of_nonneg_right x2 (Int.le_of_lt p)
        omega
    have s := g.2
    have pp := Int.mul_pos p p
    rw [Int.neg_mul_neg, sq_two, Int.mul_comm S 21000000000000000000, sq_two] at s
    generalize S * S = W at *
    omega
  · -- beyond the quarter the half turn is near
    obtain ⟨j, hj⟩ : ∃ j : Nat, n + j = 180000000000 := ⟨(180000000000 - n).toNat, by omega⟩
    have b := turn_far t n (by omega) (by omega) j (by omega)
    rw [hj] at b
    have q := turn_quarter t 90000000000 (by decide) (by decide)
    rw [show (90000000000 : Int) + 90000000000 = 180000000000 from rfl] at q
    have q2 := nm_quarter t.quarter
    have f := nm_sub (nm_sub (nm_add h b) q) q2
    have g : nm (-(36893488147419103232 * S)) 0 (S * 29000000000000000000) := by
      refine nm_mono (nm_congr f ?_ ?_ rfl) ?_
      · omega
      · omega
      · have j1 : (j : Int) ≤ 90000000000 := by omega
        have x2 : (j : Int) * 321956421 ≤ 90000000000 * 321956421 := by omega
        have y2 := Int.mul_le_mul_of_nonneg_right x2 (Int.le_of_lt p)
        omega
    have s := g.2
    have pp := Int.mul_pos p p
    rw [Int.neg_mul_neg, sq_two, Int.mul_comm S 29000000000000000000, sq_two] at s
    generalize S * S = W at *
    omega

/-- Angles whose sines and cosines are near are near. -/
theorem near_angle (a b : Int) (a1 : -360000000 ≤ a) (a2 : a < 720000000) (b1 : -360000000 ≤ b) (b2 : b < 720000000) (d1 : b - a ≤ 180000000) (d2 : a - b ≤ 180000000)
    (h : nm ((sc b).1 - (sc a).1) ((sc b).2 - (sc a).2) 2907) : b - a ≤ 1000 ∧ a - b ≤ 1000 := by
  obtain ⟨S, C, Z, t⟩ := exists_turn
  have p := t.rot.pos
  have pa := sc_pr t a a1 a2
  have pb := sc_pr t b b1 b2
  have key : ∀ x y : Int, -360000000 ≤ x → x < 720000000 → -360000000 ≤ y → y < 720000000 → y - x ≤ 180000000 → nm ((sc y).1 - (sc x).1) ((sc y).2 - (sc x).2) 2907 → y - x ≤ 1000 := by
    intro x y x1 x2 y1 y2 d hh
    rcases Int.lt_or_le 1000 (y - x) with g | g
    · exfalso
      have px := sc_pr t x x1 x2
      have py := sc_pr t y y1 y2
      unfold Pr at px py
      have k := nm_scale (show (0 : Int) ≤ 17179869184 * S by omega) hh
      have f := nm_sub (nm_add k px) py
      have e : nm (18446744073709551616 * (C (y * 1000) - C (x * 1000))) (18446744073709551616 * (Z (y * 1000) - Z (x * 1000))) (S * 60000000000000) := by
        refine nm_mono (nm_congr f ?_ ?_ rfl) ?_
        · rw [Int.mul_assoc, Int.mul_sub]
          generalize S * (sc y).1 = u1
          generalize S * (sc x).1 = u2
          omega
        · rw [Int.mul_assoc, Int.mul_sub]
          generalize S * (sc y).2 = u1
          generalize S * (sc x).2 = u2
          omega
        · omega
      have e2 := turn_diff t (x * 1000) (y * 1000) 60000000000000 (by omega) (by omega) (by omega) (by omega) e
      exact turn_small t (y * 1000 - x * 1000) (by omega) (by omega) e2
    · exact g
  refine ⟨key a b a1 a2 b1 b2 d1 h, key b a b1 b2 a1 a2 d2 ?_⟩
  have := nm_neg h
  exact nm_congr this (by omega) (by omega) rfl

/-- Millionths. -/
def mi (x : Int) : Int := (2 * (x * 1000000) + 1073741824) / 2147483648
theorem mi_near (x : Int) : -536870912 ≤ 1073741824 * mi x - 1000000 * x ∧ 1073741824 * mi x - 1000000 * x ≤ 536870912 := by unfold mi; omega

/-- Sine and cosine in millionths are those of a circle, nearly. -/
theorem mi_len (a : Int) : mi (sc a).1 * mi (sc a).1 + mi (sc a).2 * mi (sc a).2 ≤ 1000002000000 ∧ 999998000000 ≤ mi (sc a).1 * mi (sc a).1 + mi (sc a).2 * mi (sc a).2 := by
  obtain ⟨c1, c2⟩ := mi_near (sc a).1
  obtain ⟨s1, s2⟩ := mi_near (sc a).2
  have hi := sc_hi a
  have lo := sc_lo a
  have hb := sc_bd a
  have r : nm (1073741824 * mi (sc a).1 - 1000000 * (sc a).1) (1073741824 * mi (sc a).2 - 1000000 * (sc a).2) 759250126 := nm_box c1 c2 s1 s2 (by decide) (by decide)
  have k := nm_scale (show (0 : Int) ≤ 1000000 by decide) hb
  generalize (sc a).1 = x at *
  generalize (sc a).2 = y at *
  generalize mi x = c at *
  generalize mi y = s at *
  refine ⟨?_, ?_⟩
  · have f := nm_congr (nm_add r k) (show _ = 1073741824 * c by omega) (show _ = 1073741824 * s by omega) rfl
    have g := f.2
    rw [sq_two, sq_two] at g
    generalize c * c = cc at *
    generalize s * s = ss at *
    omega
  · rcases Int.lt_or_le (c * c + s * s) 999998000000 with g | g
    · exfalso
      have u : nm c s 999999 := ⟨by decide, by omega⟩
      have v := nm_scale (show (0 : Int) ≤ 1073741824 by decide) u
      have f := nm_congr (nm_sub v r) (show _ = 1000000 * x by omega) (show _ = 1000000 * y by omega) rfl
      have q := f.2
      rw [sq_two, sq_two] at q
      generalize x * x = xx at *
      generalize y * y = yy at *
      omega
    · exact g

/-- The direction leads back to the angle. -/
theorem mi_back (a : Int) (a1 : 0 ≤ a) (a2 : a < 360000000) : (angv (mi (sc a).1) (mi (sc a).2) - a + 1000) % 360000000 ≤ 2000 := by
  obtain ⟨hi, lo⟩ := mi_len a
  obtain ⟨c1, c2⟩ := mi_near (sc a).1
  obtain ⟨s1, s2⟩ := mi_near (sc a).2
  have hb := sc_bd a
  obtain ⟨x1, x2⟩ := nm_re hb
  obtain ⟨y1, y2⟩ := nm_im hb
  have r : nm (1073741824 * mi (sc a).1 - 1000000 * (sc a).1) (1073741824 * mi (sc a).2 - 1000000 * (sc a).2) 759250126 := nm_box c1 c2 s1 s2 (by decide) (by decide)
  have h0 : ¬ (mi (sc a).1 = 0 ∧ mi (sc a).2 = 0) := fun ⟨e1, e2⟩ => by rw [e1, e2] at lo; omega
  have cb : -1000001 ≤ mi (sc a).1 ∧ mi (sc a).1 ≤ 1000001 := by omega
  have sb : -1000001 ≤ mi (sc a).2 ∧ mi (sc a).2 ≤ 1000001 := by omega
  generalize mi (sc a).1 = c at *
  generalize mi (sc a).2 = s at *
  have e : angv c s = ang c s := by unfold angv; rw [aok_t h0 (by omega) (by omega) (by omega) (by omega)]; rfl
  rw [e]
  have ab : 0 ≤ ang c s ∧ ang c s < 360000000 := by unfold ang; omega
  obtain ⟨m, m1, m2, m3, m4⟩ : ∃ m : Int, 999999 ≤ m ∧ m ≤ 1000001 ∧ (2 * m - 1) * (2 * m - 1) ≤ 4 * (c * c + s * s) ∧ 4 * (c * c + s * s) ≤ (2 * m + 1) * (2 * m + 1) := by
    generalize c * c + s * s = q at *
    by_cases g1 : 4 * q ≤ 1999999 * 1999999
    · exact ⟨999999, by decide, by decide, by omega, by omega⟩
    · by_cases g2 : 4 * q ≤ 2000001 * 2000001
      · exact ⟨1000000, by decide, by decide, by omega, by omega⟩
      · exact ⟨1000001, by decide, by decide, by omega, by omega⟩
  have d := dir_plain c s m h0 (by omega) (by omega) (.inr m3) m4
  have hd := sc_bd (ang c s)
  -- the two pairs are near
  have near : nm ((sc (ang c s)).1 - (sc a).1) ((sc (ang c s)).2 - (sc a).2) 2907 := by
    generalize (sc (ang c s)).1 = u at *
    generalize (sc (ang c s)).2 = v at *
    generalize (sc a).1 = x at *
    generalize (sc a).2 = y at *
    have w : nm ((m - 1000000) * u) ((m - 1000000) * v) 1073741900 := by
      have hm : m - 1000000 = -1 ∨ m - 1000000 = 0 ∨ m - 1000000 = 1 := by omega
      rcases hm with hm | hm | hm
      · rw [hm]; exact nm_congr (nm_neg hd) (by omega) (by omega) rfl
      · rw [hm]; exact nm_mono (nm_congr nm_zero (by omega) (by omega) rfl) (by decide)
      · rw [hm]; exact nm_congr hd (by omega) (by omega) rfl
    have f := nm_sub (nm_sub r d) w
    have g : nm (1000000 * (u - x)) (1000000 * (v - y)) (1000000 * 2907) := by
      refine nm_mono (nm_congr f ?_ ?_ rfl) (by decide)
      · rw [Int.sub_mul]
        generalize m * u = mu
        omega
      · rw [Int.sub_mul]
        generalize m * v = mv
        omega
    exact nm_cancel (by decide) g
  generalize ang c s = b at *
  by_cases k1 : b - a ≤ 180000000
  · by_cases k2 : a - b ≤ 180000000
    · obtain ⟨n1, n2⟩ := near_angle a b (by omega) (by omega) (by omega) (by omega) k1 k2 near
      omega
    · rw [sc_mod b (b + 360000000) (by omega)] at near
      obtain ⟨n1, n2⟩ := near_angle a (b + 360000000) (by omega) (by omega) (by omega) (by omega) (by omega) (by omega) near
      omega
  · rw [sc_mod b (b - 360000000) (by omega)] at near
    obtain ⟨n1, n2⟩ := near_angle a (b - 360000000) (by omega) (by omega) (by omega) (by omega) (by omega) (by omega) near
    omega
end Go.Proofs.YtkfipjlknfinpaaDoor.Cm
