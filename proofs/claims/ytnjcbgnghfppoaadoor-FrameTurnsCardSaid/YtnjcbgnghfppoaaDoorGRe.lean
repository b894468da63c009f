import Derived.Test.YtnjcbgnghfppoaaDoorGR
import Derived.Test.YtnjcbgnghfppoaaDoorGSc

/- Plain: a rotation keeps distances in space. -/
set_option linter.unusedVariables false
set_option linter.unusedSimpArgs false
namespace Go.Proofs.YtnjcbgnghfppoaaDoor
open Go.RowKit

namespace Cm
/-- The nearest roots n of D + H and m of R + H, where D is the square of a point of the plane and R that of the turned point: they differ by at most 2. -/
theorem len3_plain (x y c s x' y' H m n : Int) (H0 : 0 ≤ H) (m0 : 0 ≤ m) (n0 : 0 ≤ n) (nn : n ≤ 180000)
    (n1 : n = 0 ∨ (2 * n - 1) * (2 * n - 1) ≤ 4 * (x * x + y * y + H)) (n2 : 4 * (x * x + y * y + H) ≤ (2 * n + 1) * (2 * n + 1))
    (m1 : m = 0 ∨ (2 * m - 1) * (2 * m - 1) ≤ 4 * (x' * x' + y' * y' + H)) (m2 : 4 * (x' * x' + y' * y' + H) ≤ (2 * m + 1) * (2 * m + 1))
    (hv : nm c s 1073741900) (lo : 1073741747 * 1073741747 ≤ c * c + s * s)
    (h : nm (1073741824 * x' - (x * c - y * s)) (1073741824 * y' - (x * s + y * c)) 759250126) : m - n ≤ 2 ∧ n - m ≤ 2 := by
  have e4 : ∀ a b : Int, 2 * a * (2 * a) + 2 * b * (2 * b) = 4 * (a * a + b * b) := fun a b => by
    rw [show 2 * a = a + a by omega, show 2 * b = b + b by omega]; simp only [Int.mul_add, Int.add_mul]; omega
  have D0 : 0 ≤ x * x + y * y := by have := sq_nonneg x; have := sq_nonneg y; omega
  have R0 : 0 ≤ x' * x' + y' * y' := by have := sq_nonneg x'; have := sq_nonneg y'; omega
  have L0 : 0 ≤ c * c + s * s := by have := sq_nonneg c; have := sq_nonneg s; omega
  have p : nm (2 * x) (2 * y) (2 * n + 1) := ⟨by omega, by rw [e4]; omega⟩
  have h2 := nm_scale (show (0 : Int) ≤ 2 by decide) h
  have v := nm_mul p hv
  have sm := nm_add (nm_scale (show (0 : Int) ≤ 2 by decide) v) h2
  have d := nm_re (nm_mul (nm_scale (show (0 : Int) ≤ 2 by decide) h2) (nm_conj sm))
  have ev : (x * c - y * s) * (x * c - y * s) + (x * s + y * c) * (x * s + y * c) = (x * x + y * y) * (c * c + s * s) := by
    simp only [Int.mul_add, Int.add_mul, Int.sub_mul, Int.mul_sub, Int.mul_assoc, Int.mul_comm, Int.mul_left_comm]
    omega
  have eq : 2 * (2 * (1073741824 * x' - (x * c - y * s))) * (2 * (2 * x * c - 2 * y * s) + 2 * (1073741824 * x' - (x * c - y * s))) - 2 * (2 * (1073741824 * y' - (x * s + y * c))) * -(2 * (2 * x * s + 2 * y * c) + 2 * (1073741824 * y' - (x * s + y * c))) = 8 * (1152921504606846976 * (x' * x' + y' * y') - (x * x + y * y) * (c * c + s * s)) := by
    rw [← ev, show 2 * x * c - 2 * y * s = 2 * (x * c - y * s) by rw [Int.mul_assoc, Int.mul_assoc]; omega, show 2 * x * s + 2 * y * c = 2 * (x * s + y * c) by rw [Int.mul_assoc, Int.mul_assoc]; omega]
    generalize x * c - y * s = a
    generalize x * s + y * c = b
    have q1 : ∀ t u : Int, 2 * (2 * (1073741824 * t - u)) * (2 * (2 * u) + 2 * (1073741824 * t - u)) = 8 * (1152921504606846976 * (t * t) - u * u) := fun t u => by
      rw [show 2 * (2 * (1073741824 * t - u)) = 4294967296 * t - 4 * u by omega, show 2 * (2 * u) + 2 * (1073741824 * t - u) = 2147483648 * t + 2 * u by omega]
      simp only [Int.mul_add, Int.sub_mul, Int.mul_assoc, Int.mul_left_comm _ (2147483648 : Int), Int.mul_left_comm _ (2 : Int), Int.mul_comm u t]
      omega
    rw [Int.mul_neg, q1, q1]
    omega
  rw [eq] at d
  have up := Int.mul_le_mul_of_nonneg_left hv.2 D0
  have dn := Int.mul_le_mul_of_nonneg_left lo D0
  generalize (x * x + y * y) * (c * c + s * s) = V at *
  clear eq ev sm v h2 h p hv lo L0 e4
  generalize x * x + y * y = D at *
  generalize x' * x' + y' * y' = R at *
  have sqn : (2 * n + 1) * (2 * n + 1) ≤ 360001 * (2 * n + 1) := Int.mul_le_mul_of_nonneg_right (by omega) (by omega)
  have f1 : ∀ k : Int, (2 * k + 1) * (2 * k + 1) = 4 * (k * k) + 4 * k + 1 := fun k => by
    rw [show 2 * k = k + k by omega]; simp only [Int.add_mul, Int.mul_add]; omega
  have f2 : ∀ k : Int, (2 * k - 1) * (2 * k - 1) = 4 * (k * k) - 4 * k + 1 := fun k => by
    rw [show 2 * k = k + k by omega]; simp only [Int.add_mul, Int.mul_add, Int.sub_mul, Int.mul_sub]; omega
  have f3 : ∀ k : Int, (k + 3) * (k + 3) = k * k + 6 * k + 9 := fun k => by
    simp only [Int.add_mul, Int.mul_add]; omega
  refine ⟨?_, ?_⟩
  · by_cases c0 : m - n ≤ 2
    · exact c0
    have m1 := m1.resolve_left (by omega)
    have k := sq_mono (x := 2 * (n + 3) - 1) (y := 2 * m - 1) (by omega) (by omega)
    rw [show 2 * (n + 3) - 1 = 2 * (n + 2) + 1 by omega, f1, show n + 2 = n + 3 - 1 by omega] at k
    have e5 : (n + 3 - 1) * (n + 3 - 1) = n * n + 4 * n + 4 := by rw [show n + 3 - 1 = n + 2 by omega]; simp only [Int.add_mul, Int.mul_add]; omega
    rw [e5] at k
    rw [f1] at n2
    rw [f1] at sqn
    generalize (2 * m - 1) * (2 * m - 1) = M at *
    generalize n * n = N at *
    omega
  · by_cases c0 : n - m ≤ 2
    · exact c0
    have n1 := n1.resolve_left (by omega)
    have k := sq_mono (x := 2 * m + 1) (y := 2 * (n - 3) + 1) (by omega) (by omega)
    rw [f1 (n - 3)] at k
    have e5 : (n - 3) * (n - 3) = n * n - 6 * n + 9 := by simp only [Int.sub_mul, Int.mul_sub]; omega
    rw [e5] at k
    rw [f2] at n1
    rw [f1] at n2
    rw [f1] at sqn
    generalize (2 * m + 1) * (2 * m + 1) = M at *
    generalize n * n = N at *
    omega
end Cm
namespace Fm
theorem rotv0 (a : Int) : rotv 0 0 a = (0, 0) := by
  rw [(rotv_in 0 0 a (by decide) (by decide) (by decide) (by decide)).2]
  simp only [Int.zero_mul]
  decide
theorem Gd.mid {f : F} (h : Gd f) (ht : f.t = true) : mx f f.ex f.ey f.ez = f.ex + ox f ∧ my f f.ex f.ey f.ez = f.ey + oy f ∧ mz f f.ex f.ey f.ez = f.ez + oz f := by
  have hp := h.yes ht
  have hp3 : f.p = 17 ∨ f.p = 18 ∨ f.p = 19 := by omega
  have r1 : ru f f.ex f.ey f.ez f.a = fu f.p f.ex f.ey f.ez := by unfold ru; rw [Int.sub_self, Int.sub_self, rotv0]; show (0 : Int) + _ = _; omega
  have r2 : rw_ f f.ex f.ey f.ez f.a = fw f.p f.ex f.ey f.ez := by unfold rw_; rw [Int.sub_self, Int.sub_self, rotv0]; show (0 : Int) + _ = _; omega
  have q := f_s (x := f.ex) (y := f.ey) (z := f.ez) hp3
  unfold mx my mz tx ty tz
  rw [if_pos ht, if_pos ht, if_pos ht, r1, r2, q.1, q.2.1, q.2.2]
  exact ⟨rfl, rfl, rfl⟩
theorem Gd.spin {f : F} (h : Gd f) (ht : f.t = true) (x y z : Int) :
    mx f (f.ex + x) (f.ey + y) (f.ez + z) - (f.ex + ox f) = Go.Proofs.YtnjcbgnghfppoaaDoor.sx f.p (rotv (fu f.p x y z) (fw f.p x y z) f.a).1 (rotv (fu f.p x y z) (fw f.p x y z) f.a).2 (fh f.p x y z) ∧
    my f (f.ex + x) (f.ey + y) (f.ez + z) - (f.ey + oy f) = Go.Proofs.YtnjcbgnghfppoaaDoor.sy f.p (rotv (fu f.p x y z) (fw f.p x y z) f.a).1 (rotv (fu f.p x y z) (fw f.p x y z) f.a).2 (fh f.p x y z) ∧
    mz f (f.ex + x) (f.ey + y) (f.ez + z) - (f.ez + oz f) = Go.Proofs.YtnjcbgnghfppoaaDoor.sz f.p (rotv (fu f.p x y z) (fw f.p x y z) f.a).1 (rotv (fu f.p x y z) (fw f.p x y z) f.a).2 (fh f.p x y z) := by
  have hp := h.yes ht
  have hp3 : f.p = 17 ∨ f.p = 18 ∨ f.p = 19 := by omega
  have d1 : fu f.p (f.ex + x) (f.ey + y) (f.ez + z) - fu f.p f.ex f.ey f.ez = fu f.p x y z := by
    rcases hp3 with k | k | k <;> rw [k] <;> simp only [fu] <;> simp <;> omega
  have d2 : fw f.p (f.ex + x) (f.ey + y) (f.ez + z) - fw f.p f.ex f.ey f.ez = fw f.p x y z := by
    rcases hp3 with k | k | k <;> rw [k] <;> simp only [fw] <;> simp <;> omega
  unfold mx my mz tx ty tz
  rw [if_pos ht, if_pos ht, if_pos ht, ru_def, rw_def, d1, d2]
  generalize (rotv (fu f.p x y z) (fw f.p x y z) f.a).1 = u
  generalize (rotv (fu f.p x y z) (fw f.p x y z) f.a).2 = v
  rcases hp3 with k | k | k <;> rw [k] <;> simp only [fu, fw, fh, Go.Proofs.YtnjcbgnghfppoaaDoor.sx, Go.Proofs.YtnjcbgnghfppoaaDoor.sy, Go.Proofs.YtnjcbgnghfppoaaDoor.sz] <;> simp <;> omega
theorem Gd.len {f : F} (h : Gd f) (ht : f.t = true) {x y z A B C : Int} (hx : -100000 ≤ x ∧ x ≤ 100000) (hy : -100000 ≤ y ∧ y ≤ 100000) (hz : -100000 ≤ z ∧ z ≤ 100000)
    (hA : A = mx f (f.ex + x) (f.ey + y) (f.ez + z) - (f.ex + ox f)) (hB : B = my f (f.ex + x) (f.ey + y) (f.ez + z) - (f.ey + oy f)) (hC : C = mz f (f.ex + x) (f.ey + y) (f.ez + z) - (f.ez + oz f)) :
    (rtv (A * A + B * B + C * C) 1 2 - rtv (x * x + y * y + z * z) 1 2 ≤ 2 ∧ rtv (x * x + y * y + z * z) 1 2 - rtv (A * A + B * B + C * C) 1 2 ≤ 2) ∧
    (0 ≤ rtv (A * A + B * B + C * C) 1 2 ∧ rtv (A * A + B * B + C * C) 1 2 ≤ 100000000) ∧ (0 ≤ rtv (x * x + y * y + z * z) 1 2 ∧ rtv (x * x + y * y + z * z) 1 2 ≤ 100000000) := by
  have hp := h.yes ht
  have hp3 : f.p = 17 ∨ f.p = 18 ∨ f.p = 19 := by omega
  obtain ⟨s1, s2, s3⟩ := h.spin ht x y z
  rw [← hA] at s1
  rw [← hB] at s2
  rw [← hC] at s3
  clear hA hB hC
  have g := f_bd (p := f.p) (B := 100000) (by decide) hx hy hz
  have e1 : x * x + y * y + z * z = fu f.p x y z * fu f.p x y z + fw f.p x y z * fw f.p x y z + fh f.p x y z * fh f.p x y z := by
    rcases hp3 with k | k | k <;> rw [k] <;> simp only [fu, fw, fh] <;> simp <;> omega
  have e2 : A * A + B * B + C * C = (rotv (fu f.p x y z) (fw f.p x y z) f.a).1 * (rotv (fu f.p x y z) (fw f.p x y z) f.a).1 + (rotv (fu f.p x y z) (fw f.p x y z) f.a).2 * (rotv (fu f.p x y z) (fw f.p x y z) f.a).2 + fh f.p x y z * fh f.p x y z := by
    rw [s1, s2, s3]
    rcases hp3 with k | k | k <;> rw [k] <;> simp only [Go.Proofs.YtnjcbgnghfppoaaDoor.sx, Go.Proofs.YtnjcbgnghfppoaaDoor.sy, Go.Proofs.YtnjcbgnghfppoaaDoor.sz] <;> simp <;> omega
  rw [e1, e2]
  clear e1 e2 s1 s2 s3 hx hy hz
  generalize fu f.p x y z = u at *
  generalize fw f.p x y z = v at *
  generalize fh f.p x y z = k at *
  obtain ⟨⟨u1, u2⟩, ⟨v1, v2⟩, k1, k2⟩ := g
  have b := rotv_bd u v f.a (by omega) (by omega) (by omega) (by omega)
  have hn := rotv_near u v f.a (by omega) (by omega) (by omega) (by omega)
  have p1 := sq_bd u1 u2
  have p2 := sq_bd v1 v2
  have p5 := sq_bd k1 k2
  have p3 := sq_bd b.1 b.2.1
  have p4 := sq_bd b.2.2.1 b.2.2.2
  have lo := Cm.sc_lo f.a
  obtain ⟨_, m0, m1, m2, m3⟩ := root_near (u * u + v * v + k * k) (by omega) (by omega)
  obtain ⟨_, n0, n1, n2, n3⟩ := root_near ((rotv u v f.a).1 * (rotv u v f.a).1 + (rotv u v f.a).2 * (rotv u v f.a).2 + k * k) (by omega) (by omega)
  have mb : rtv (u * u + v * v + k * k) 1 2 ≤ 180000 := by
    by_cases c : rtv (u * u + v * v + k * k) 1 2 ≤ 180000
    · exact c
    · have := Cm.sq_mono (x := 360001) (y := 2 * rtv (u * u + v * v + k * k) 1 2 - 1) (by decide) (by omega)
      omega
  refine ⟨Cm.len3_plain u v _ _ _ _ (k * k) _ _ p5.1 n0 m0 mb m2 m3 n2 n3 (Cm.sc_bd f.a) (by omega) hn, ⟨n0, n1⟩, m0, m1⟩
end Fm
end Go.Proofs.YtnjcbgnghfppoaaDoor
