
/- Plain facts for the laws of layer 4. -/
import Derived.Test.YtlfkgnpbpmejkaaVmB
import Derived.Test.YtlfkgnpbpmejkaaPlainB
set_option linter.unusedVariables false
set_option linter.unusedSimpArgs false
namespace Go.Proofs.Ytlfkgnpbpmejkaa
open Go.RowKit

theorem btw_bd (v l h : Int) (lh : l ≤ h) : l ≤ l + v % (h - l + 1) ∧ l + v % (h - l + 1) ≤ h := by
  have := Int.emod_nonneg v (show h - l + 1 ≠ 0 by omega)
  have := Int.emod_lt_of_pos v (show 0 < h - l + 1 by omega)
  omega
theorem three {r : Int} (r0 : 0 ≤ r) (r1 : r < 3) : r = 0 ∨ r = 1 ∨ r = 2 := by omega
theorem pin_true {r : Int} (r0 : 0 ≤ r) (r1 : r < 3) : pin (17 + r) = true := by
  rcases three r0 r1 with rfl | rfl | rfl <;> rfl
theorem back_a {r : Int} (r0 : 0 ≤ r) (r1 : r < 3) (x y z : Int) :
    sx (17 + r) (fu (17 + r) x y z) (fw (17 + r) x y z) (fh (17 + r) x y z) = x ∧ sy (17 + r) (fu (17 + r) x y z) (fw (17 + r) x y z) (fh (17 + r) x y z) = y ∧ sz (17 + r) (fu (17 + r) x y z) (fw (17 + r) x y z) (fh (17 + r) x y z) = z := by
  rcases three r0 r1 with rfl | rfl | rfl <;> exact ⟨rfl, rfl, rfl⟩
theorem back_b {r : Int} (r0 : 0 ≤ r) (r1 : r < 3) (u v h : Int) :
    fu (17 + r) (sx (17 + r) u v h) (sy (17 + r) u v h) (sz (17 + r) u v h) = u ∧ fw (17 + r) (sx (17 + r) u v h) (sy (17 + r) u v h) (sz (17 + r) u v h) = v ∧ fh (17 + r) (sx (17 + r) u v h) (sy (17 + r) u v h) (sz (17 + r) u v h) = h := by
  rcases three r0 r1 with rfl | rfl | rfl <;> exact ⟨rfl, rfl, rfl⟩
theorem flat_bd {r : Int} (r0 : 0 ≤ r) (r1 : r < 3) {x y z L : Int} (x1 : -L ≤ x) (x2 : x ≤ L) (y1 : -L ≤ y) (y2 : y ≤ L) (z1 : -L ≤ z) (z2 : z ≤ L) :
    (-L ≤ fu (17 + r) x y z ∧ fu (17 + r) x y z ≤ L) ∧ (-L ≤ fw (17 + r) x y z ∧ fw (17 + r) x y z ≤ L) ∧ (-L ≤ fh (17 + r) x y z ∧ fh (17 + r) x y z ≤ L) := by
  rcases three r0 r1 with rfl | rfl | rfl
  · exact ⟨⟨x1, x2⟩, ⟨y1, y2⟩, z1, z2⟩
  · exact ⟨⟨z1, z2⟩, ⟨x1, x2⟩, y1, y2⟩
  · exact ⟨⟨y1, y2⟩, ⟨z1, z2⟩, x1, x2⟩
theorem flat_dot {r : Int} (r0 : 0 ≤ r) (r1 : r < 3) (x y z a b c : Int) :
    x * a + y * b + z * c = fu (17 + r) x y z * fu (17 + r) a b c + fw (17 + r) x y z * fw (17 + r) a b c + fh (17 + r) x y z * fh (17 + r) a b c := by
  rcases three r0 r1 with rfl | rfl | rfl
  · rfl
  · show _ = z * c + x * a + y * b; omega
  · show _ = y * b + z * c + x * a; omega

/-- Rounded up: the least number whose square is no less. -/
theorem up_spec (n : Int) (h0 : 0 ≤ n) (h1 : n ≤ 9223372036854775807) : ∃ c : Int, rtv n 1 1 = c ∧ rtok n 1 1 = true ∧ 0 ≤ c ∧ c ≤ 3037000500 ∧ n ≤ c * c ∧ ∀ k : Int, 0 ≤ k → n ≤ k * k → c ≤ k := by
  have s := Mth.rt_spec n h0
  have z := rr_one n h0
  have t := rt_small n h0 h1
  have t0 := Mth.rt_nonneg n
  obtain ⟨o, e⟩ := sqrt_plain n 1 h0 h1 (by omega) (by omega)
  have low : ∀ k : Int, 0 ≤ k → n ≤ k * k → Mth.rt n ≤ k := fun k k0 hk => by
    refine Mth.isq_le_of t0 k0 ?_
    have : (k + 1) * (k + 1) = k * k + k + k + 1 := by rw [Int.mul_add, Int.add_mul]; omega
    omega
  by_cases c : n = Mth.rt n * Mth.rt n
  · refine ⟨Mth.rt n, ?_, o, t0, by omega, by omega, low⟩
    rw [e, z, if_pos c]; rfl
  · refine ⟨Mth.rt n + 1, ?_, o, by omega, by omega, by omega, fun k k0 hk => ?_⟩
    · rw [e, z, if_neg c]
      split <;> rfl
    · have l := low k k0 hk
      rcases Int.lt_or_eq_of_le l with l | l
      · omega
      · exfalso; apply c; rw [← l] at hk; omega
theorem down_spec (n : Int) (h0 : 0 ≤ n) (h1 : n ≤ 9223372036854775807) : ∃ c : Int, rtv n 1 0 = c ∧ rtok n 1 0 = true ∧ 0 ≤ c ∧ c ≤ 3037000499 ∧ c * c ≤ n ∧ n < (c + 1) * (c + 1) := by
  have s := Mth.rt_spec n h0
  have z := rr_one n h0
  obtain ⟨o, e⟩ := sqrt_plain n 0 h0 h1 (by omega) (by omega)
  refine ⟨Mth.rt n, ?_, o, Mth.rt_nonneg n, rt_small n h0 h1, s.1, s.2⟩
  rw [e, z]
  split
  · rfl
  · split <;> rfl
theorem le_of_sq {a b : Int} (hb : 0 ≤ b) (h : a * a ≤ b * b) : a ≤ b := by
  rcases Int.lt_or_le b a with c | c
  · exfalso
    have m1 := Int.mul_le_mul_of_nonneg_left (show b ≤ a by omega) hb
    have m2 := Int.mul_lt_mul_of_pos_right c (show 0 < a by omega)
    omega
  · exact c
theorem sq_nonneg (a : Int) : 0 ≤ a * a := by
  rcases Int.le_total 0 a with c | c
  · exact Int.mul_nonneg c c
  · have := Int.mul_nonneg (show 0 ≤ -a by omega) (show 0 ≤ -a by omega)
    rw [Int.neg_mul_neg] at this; exact this
theorem cauchy (x y z a b c : Int) : (x * a + y * b + z * c) * (x * a + y * b + z * c) ≤ (x * x + y * y + z * z) * (a * a + b * b + c * c) := by
  have e1 := sq_nonneg (x * b - y * a)
  have e2 := sq_nonneg (x * c - z * a)
  have e3 := sq_nonneg (y * c - z * b)
  simp only [Int.mul_add, Int.add_mul, Int.sub_mul, Int.mul_sub, Int.mul_assoc, Int.mul_comm, Int.mul_left_comm] at *
  omega
theorem tri_sum {x y z a b c m n k : Int} (m0 : 0 ≤ m) (n0 : 0 ≤ n) (hm : x * x + y * y + z * z ≤ m * m) (hn : a * a + b * b + c * c ≤ n * n)
    (hk : k * k ≤ (x + a) * (x + a) + (y + b) * (y + b) + (z + c) * (z + c)) : k ≤ m + n := by
  have h0 : 0 ≤ x * x + y * y + z * z := by have := sq_nonneg x; have := sq_nonneg y; have := sq_nonneg z; omega
  have h1 : 0 ≤ a * a + b * b + c * c := by have := sq_nonneg a; have := sq_nonneg b; have := sq_nonneg c; omega
  have cs := cauchy x y z a b c
  have p := Int.mul_le_mul hm hn h1 (Int.mul_nonneg m0 m0)
  have d : x * a + y * b + z * c ≤ m * n := by
    refine le_of_sq (Int.mul_nonneg m0 n0) (Int.le_trans cs (Int.le_trans p ?_))
    have : m * m * (n * n) = m * n * (m * n) := by simp only [Int.mul_assoc, Int.mul_comm, Int.mul_left_comm]
    omega
  refine le_of_sq (by omega) (Int.le_trans hk ?_)
  simp only [Int.mul_add, Int.add_mul, Int.mul_comm a x, Int.mul_comm b y, Int.mul_comm c z, Int.mul_comm n m]
  omega
theorem mag_cases (x : Int) : (0 ≤ x ∧ max x (-x) = x) ∨ (x ≤ 0 ∧ max x (-x) = -x) := by omega
theorem tri_up {x y z p q r : Int} (hp : x ≤ p) (hp' : -x ≤ p) (hq : y ≤ q) (hq' : -y ≤ q) (hr : z ≤ r) (hr' : -z ≤ r) :
    x * x + y * y + z * z ≤ (p + q + r) * (p + q + r) := by
  have sq : ∀ x p : Int, x ≤ p → -x ≤ p → x * x ≤ p * p := fun x p h1 h2 => by
    rcases Int.le_total 0 x with c | c
    · exact Int.mul_le_mul h1 h1 c (by omega)
    · have := Int.mul_le_mul h2 h2 (show 0 ≤ -x by omega) (by omega)
      rw [Int.neg_mul_neg] at this; exact this
  have a1 := sq x p hp hp'
  have a2 := sq y q hq hq'
  have a3 := sq z r hr hr'
  have b1 := Int.mul_nonneg (show 0 ≤ p by omega) (show 0 ≤ q by omega)
  have b2 := Int.mul_nonneg (show 0 ≤ p by omega) (show 0 ≤ r by omega)
  have b3 := Int.mul_nonneg (show 0 ≤ q by omega) (show 0 ≤ r by omega)
  simp only [Int.mul_add, Int.add_mul, Int.mul_comm q p, Int.mul_comm r p, Int.mul_comm r q]
  omega
theorem tri_low {x y z m : Int} (m0 : 0 ≤ m) (h : x * x + y * y + z * z ≤ m * m) : (x ≤ m ∧ -x ≤ m) ∧ (y ≤ m ∧ -y ≤ m) ∧ (z ≤ m ∧ -z ≤ m) := by
  have := sq_nonneg x; have := sq_nonneg y; have := sq_nonneg z
  exact ⟨⟨le_of_sq m0 (by omega), le_of_sq m0 (by rw [Int.neg_mul_neg]; omega)⟩, ⟨le_of_sq m0 (by omega), le_of_sq m0 (by rw [Int.neg_mul_neg]; omega)⟩, le_of_sq m0 (by omega), le_of_sq m0 (by rw [Int.neg_mul_neg]; omega)⟩
theorem lagrange (u v s t : Int) : (u * t - v * s) * (u * t - v * s) + (u * s + v * t) * (u * s + v * t) = (u * u + v * v) * (s * s + t * t) := by
  simp only [Int.mul_add, Int.add_mul, Int.sub_mul, Int.mul_sub, Int.mul_assoc, Int.mul_comm, Int.mul_left_comm]
  omega
/-- The greater one, as the builtin reckons it. -/
def mx2 (a b : Int) : Int := if b > a then b else a
theorem mx2_le {a b m : Int} (ha : a ≤ m) (hb : b ≤ m) : mx2 a b ≤ m := by unfold mx2; split <;> omega
theorem run_max6 (P : Program) (ts : Array TypeId) (t : TypeId) {a b c d e f m : Int} (ha : a ≤ m) (hb : b ≤ m) (hc : c ≤ m) (hd : d ≤ m) (he : e ≤ m) (hf : f ≤ m) :
    ∃ M : Int, M ≤ m ∧ ∀ w, (Builtin.max_ ts t #[.int .i64 a, .int .i64 b, .int .i64 c, .int .i64 d, .int .i64 e, .int .i64 f]).run P w = .ok (.int .i64 M) w :=
  ⟨mx2 (mx2 (mx2 (mx2 (mx2 a b) c) d) e) f, mx2_le (mx2_le (mx2_le (mx2_le (mx2_le ha hb) hc) hd) he) hf, fun w => by simp [Builtin.max_, Builtin.max2, mx2]⟩
end Go.Proofs.Ytlfkgnpbpmejkaa
