
/- The walk of wide.floorRoot: Newton's steps from above. -/
import Derived.Test.YtlfkgnpbpmejkaaWalkD
import Derived.Test.YtlfkgnpbpmejkaaLaid
set_option linter.unusedVariables false
set_option linter.unusedSimpArgs false
namespace Go.Proofs.Ytlfkgnpbpmejkaa
open Go.RowKit

theorem div64_any (hi lo y : Int) (h0 : 0 ≤ hi) (h1 : hi < y) (l0 : 0 ≤ lo) (l1 : lo < 18446744073709551616) (y1 : y < 18446744073709551616) (w : World) :
    Calls Try.prog 61 #[.int .u64 hi, .int .u64 lo, .int .u64 y] w fun e w' => e = .returned (.tuple #[.int .u64 (dq hi lo y), .int .u64 (dr hi lo y)]) ∧ ∃ n, w' = w.drewN n := by
  rcases Int.lt_or_le 0 hi with c | c
  · exact (div64_high hi lo y c h1 l0 l1 y1 w).mono fun e w' ⟨he, hw⟩ => ⟨he, 0, hw.symm⟩
  · obtain rfl : hi = 0 := by omega
    refine (div64_low lo y l0 l1 h1 y1 w).mono fun e w' ⟨he, hw⟩ => ⟨?_, hw⟩
    rw [he]; unfold dq dr; simp

theorem len64_any (x : Int) (h0 : 0 ≤ x) (h1 : x < 18446744073709551616) (w : World) :
    Calls Try.prog 69 #[.int .u64 x] w fun e w' => e = .returned (.int .i64 (Lib.bitLen x.toNat)) ∧ w = w' :=
  (Try.bits_Len64 x w h0 (by omega)).mono fun _ _ ⟨h1, h2⟩ => ⟨h1, h2.symm⟩

theorem len_lt (x : Int) (h0 : 0 < x) (h1 : x < 18446744073709551616) : x < 2 ^ (Lib.bitLen x.toNat) ∧ 1 ≤ Lib.bitLen x.toNat := by
  obtain ⟨n, rfl⟩ := Int.eq_ofNat_of_zero_le (Int.le_of_lt h0)
  rw [Int.toNat_natCast]
  obtain ⟨b1, b2, b3⟩ := Lib.bitLenAux_bounds 64 n (by omega) (by omega)
  have e : Lib.bitLenAux 64 n = Lib.bitLen n := rfl
  rw [e] at b1 b3
  refine ⟨?_, b1⟩
  rw [show ((2 : Int) ^ Lib.bitLen n) = ((2 ^ Lib.bitLen n : Nat) : Int) from (Int.natCast_pow 2 _).symm]
  omega

theorem two_pow_le {a b : Nat} (h : a ≤ b) : (2 : Int) ^ a ≤ 2 ^ b := by
  have := Nat.pow_le_pow_right (show 0 < 2 by decide) h
  rw [show ((2 : Int) ^ a) = ((2 ^ a : Nat) : Int) from (Int.natCast_pow 2 _).symm, show ((2 : Int) ^ b) = ((2 ^ b : Nat) : Int) from (Int.natCast_pow 2 _).symm]
  omega

def addS (x y : Int) : Int := (x + y) % 18446744073709551616
def addC (x y : Int) : Int := (x + y) / 18446744073709551616

theorem add64_any (x y : Int) (hx : 0 ≤ x) (hy : 0 ≤ y) (w : World) :
    (callFunc 52 #[.int .u64 x, .int .u64 y, .int .u64 0]).run Try.prog w = .ok (.value (.tuple #[.int .u64 (addS x y), .int .u64 (addC x y)])) w := Try.bits_Add64_0 x y hx hy w

theorem next_word (x y : Int) (hx : 0 ≤ x) (hy : 0 ≤ y) (h : x + y < 36893488147419103232) :
    bits .or .u64 (addC x y * 9223372036854775808) (addS x y / 2) = (x + y) / 2 := by
  unfold addC addS
  have z0 : 0 ≤ x + y := by omega
  generalize x + y = z at *
  obtain ⟨n, rfl⟩ := Int.eq_ofNat_of_zero_le z0
  have c : n / 18446744073709551616 = 0 ∨ n / 18446744073709551616 = 1 := by omega
  have t : n % 18446744073709551616 / 2 < 2 ^ 63 := by omega
  have e := Nat.two_pow_add_eq_or_of_lt t (n / 18446744073709551616)
  have o := bits_or_u64_nat (2 ^ 63 * (n / 18446744073709551616)) (n % 18446744073709551616 / 2) (by omega) (by omega)
  rw [← e] at o
  have k1 : ((2 ^ 63 * (n / 18446744073709551616) : Nat) : Int) = (n : Int) / 18446744073709551616 * 9223372036854775808 := by omega
  have k2 : ((n % 18446744073709551616 / 2 : Nat) : Int) = (n : Int) % 18446744073709551616 / 2 := by omega
  rw [k1, k2] at o
  rw [o]
  omega

/-- Newton's first step is not less than the root. -/
theorem start_root (n : Int) (l e : Nat) (h : n < 2 ^ l) (he : l ≤ e + e) : n < 2 ^ e * 2 ^ e := by
  have k : (2 : Int) ^ e * 2 ^ e = 2 ^ (e + e) := (Int.pow_add 2 e e).symm
  have m : (2 : Int) ^ l ≤ 2 ^ (e + e) := two_pow_le he
  omega

theorem pow_63 (e : Nat) (he : e ≤ 63) : 1 ≤ (2 : Int) ^ e ∧ (2 : Int) ^ e ≤ 9223372036854775808 := by
  have m : (2 : Int) ^ e ≤ 2 ^ 63 := two_pow_le he
  have p : (0 : Int) < 2 ^ e := Int.pow_pos (by decide)
  omega

theorem le_start (r P n : Int) (r0 : 0 ≤ r) (p0 : 0 ≤ P) (h1 : r * r ≤ n) (h2 : n < P * P) : r ≤ P := by
  refine Mth.isq_le_of r0 p0 ?_
  have e : (P + 1) * (P + 1) = P * P + 2 * P + 1 := by simp only [Int.add_mul, Int.mul_add]; omega
  omega

/-- What is known at the head of a round. -/
def RootK (n v : Int) : Prop := Mth.rt n ≤ v ∧ 0 < v ∧ v ≤ 9223372036854775808

set_option maxHeartbeats 2000000 in
theorem root_word (low : Int) (l0 : 0 < low) (l1 : low < 18446744073709551616) (w : World) :
    Calls Try.prog 62 #[.int .u64 0, .int .u64 low] w fun e w' => e = .returned (.int .u64 (Mth.rt low)) ∧ ∃ n, w' = w.drewN n := by
  obtain ⟨k1, k2⟩ := len_lt low l0 l1
  have k3 : Lib.bitLen low.toNat ≤ 64 := Lib.bitLen_le low.toNat 64 (by omega) (by omega)
  have lw : ∀ w, Calls Try.prog 69 #[.int .u64 low] w fun e w' => e = .returned (.int .i64 (Lib.bitLen low.toNat)) ∧ w = w' := len64_any low (by omega) l1
  have b1 : (low == 0) = false := beq_eq_false_iff_ne.2 (by omega)
  have k4 := start_root low (Lib.bitLen low.toNat) ((Lib.bitLen low.toNat + 1) / 2) k1 (by omega)
  obtain ⟨k5, k6⟩ := pow_63 ((Lib.bitLen low.toNat + 1) / 2) (by omega)
  generalize Lib.bitLen low.toNat = L at *
  have Lw := Lib.hid lw
  obtain ⟨P, eP⟩ : ∃ P, (2 : Int) ^ ((L + 1) / 2) = P := ⟨_, rfl⟩
  rw [eP] at k4 k5 k6
  have rs := Mth.rt_spec low (by omega)
  have r0 := Mth.rt_nonneg low
  have rp := Mth.rt_pos low (by omega)
  have r1 : Mth.rt low ≤ P := le_start _ _ _ r0 (by omega) rs.1 k4
  have r2 : Mth.rt low ≤ 9223372036854775807 := Mth.isq_le_of r0 (by omega) (by omega)
  have St := Lib.hid (show RootK low P from ⟨r1, by omega, k6⟩)
  have Rs := Lib.hid rs
  clear lw k1 k4 rs r1
  go_enter Try.func62, Try.ntmps62
  go_wp2_with (go_at_call 69; refine (Lw.out _).mono ?_; rintro e w' ⟨rfl, rfl⟩)
  simp only [eP]
  go_loopw [6] (fun x wr => ∃ v, x = .int .u64 v ∧ RootK low v ∧ ∃ n, wr = w.drewN n) (fun x _ => (intOf x).toNat)
  case atStart => exact ⟨P, rfl, St.out, 0, rfl⟩
  case round =>
    obtain ⟨v, rfl, ⟨hr, hv, hv'⟩, n, rfl⟩ := hrel
    obtain ⟨n1, n2⟩ := Mth.newton_word low v _ r0 hr hv Rs.out.2 (by omega)
    have q0 : 0 ≤ low / v := Int.ediv_nonneg (by omega) (by omega)
    have dv : ∀ w, Calls Try.prog 61 #[.int .u64 0, .int .u64 low, .int .u64 v] w fun e w' => e = .returned (.tuple #[.int .u64 (low / v), .int .u64 (low % v)]) ∧ ∃ n, w' = w.drewN n := fun w => div64_low low v (by omega) l1 hv (by omega) w
    have ge := Mth.newton_ge low v _ hv Rs.out.1
    have stop := Mth.newton_stop low v hv
    obtain ⟨q, eq⟩ : ∃ q, low / v = q := ⟨_, rfl⟩
    obtain ⟨r, er⟩ : ∃ r, low % v = r := ⟨_, rfl⟩
    rw [eq] at q0 n1 ge stop dv
    rw [er] at dv
    have Dv := Lib.hid dv
    have c0 : 0 ≤ addC v q := by unfold addC; omega
    have c1 : addC v q ≤ 1 := by unfold addC; omega
    have s0 : 0 ≤ addS v q := by unfold addS; omega
    have s1 : addS v q < 18446744073709551616 := by unfold addS; omega
    have nx := next_word v q (by omega) q0 (by omega)
    obtain ⟨N, eN⟩ : ∃ N, (v + q) / 2 = N := ⟨_, rfl⟩
    rw [eN] at nx ge stop
    have N1 : N < 18446744073709551616 := by omega
    have EN := Lib.hid eN
    have Stop := Lib.hid stop
    clear dv n1 n2 eq er eN stop
    by_cases c : v ≤ N
    · have fin : Mth.rt low = v := Mth.rt_uniq _ _ (by omega) (Stop.out c) (by
        have k := Mth.isq_le_of (x := v) (r := Mth.rt low) r0 (by omega) (by have := Int.mul_le_mul hr hr r0 (by omega); simp only [Int.add_mul, Int.mul_add]; omega)
        have := Int.mul_le_mul (show Mth.rt low + 1 ≤ v + 1 by omega) (show Mth.rt low + 1 ≤ v + 1 by omega) (by omega) (by omega)
        have := Rs.out.2
        omega)
      have Fin := Lib.hid fin
      clear fin
      go_wp2_with (first | (go_at_call 61; refine (Dv.out _).mono ?_; rintro e w' ⟨rfl, m, rfl⟩) | simp only [add64_any v q (by omega) q0])
      go_ret
      exact ⟨ret_u64 Fin.out.symm, _, rfl⟩
    · have c' : N < v := by omega
      clear c
      go_wp2_with (first | (go_at_call 61; refine (Dv.out _).mono ?_; rintro e w' ⟨rfl, m, rfl⟩) | simp only [add64_any v q (by omega) q0])
      go_roundw
      case rel => exact ⟨N, rfl, ⟨ge, by have := EN.out; omega, by omega⟩, _, rfl⟩
      case measure => simp [intOf]; omega

set_option maxHeartbeats 2000000 in
theorem root_words (high low : Int) (h0 : 0 < high) (h1 : high < 4611686018427387904) (l0 : 0 ≤ low) (l1 : low < 18446744073709551616) (w : World) :
    Calls Try.prog 62 #[.int .u64 high, .int .u64 low] w fun e w' => e = .returned (.int .u64 (Mth.rt (high * 18446744073709551616 + low))) ∧ ∃ n, w' = w.drewN n := by
  obtain ⟨k1, k2⟩ := len_lt high h0 (by omega)
  have k3 : Lib.bitLen high.toNat ≤ 62 := Lib.bitLen_le high.toNat 62 (by omega) (by omega)
  have lw : ∀ w, Calls Try.prog 69 #[.int .u64 high] w fun e w' => e = .returned (.int .i64 (Lib.bitLen high.toNat)) ∧ w = w' := len64_any high (by omega) (by omega)
  have lv : ∀ w, ∃ k : Int, Calls Try.prog 69 #[.int .u64 low] w fun e w' => e = .returned (.int .i64 k) ∧ w = w' := fun w => ⟨_, len64_any low l0 l1 w⟩
  have b1 : (high == 0) = false := beq_eq_false_iff_ne.2 (by omega)
  have b2 : (high != 0) = true := by rw [bne_iff_ne]; omega
  have kk : high * 18446744073709551616 + low < 2 ^ (64 + Lib.bitLen high.toNat) := by
    rw [Int.pow_add]
    omega
  have k4 := start_root (high * 18446744073709551616 + low) (64 + Lib.bitLen high.toNat) ((64 + Lib.bitLen high.toNat + 1) / 2) kk (by omega)
  obtain ⟨k5, k6⟩ := pow_63 ((64 + Lib.bitLen high.toNat + 1) / 2) (by omega)
  have lu : ∀ w, Calls Try.prog 69 #[.int .u64 low] w fun e w' => e = .returned (.int .i64 (Lib.bitLen low.toNat)) ∧ w = w' := len64_any low l0 l1
  have Lu := Lib.hid lu
  clear lu lv kk
  generalize Lib.bitLen high.toNat = L at *
  have Lw := Lib.hid lw
  obtain ⟨P, eP⟩ : ∃ P, (2 : Int) ^ ((64 + L + 1) / 2) = P := ⟨_, rfl⟩
  rw [eP] at k4 k5 k6
  have rs := Mth.rt_spec (high * 18446744073709551616 + low) (by omega)
  have r0 := Mth.rt_nonneg (high * 18446744073709551616 + low)
  have rp := Mth.rt_pos (high * 18446744073709551616 + low) (by omega)
  have r1 : Mth.rt (high * 18446744073709551616 + low) ≤ P := le_start _ _ _ r0 (by omega) rs.1 k4
  have r2 : Mth.rt (high * 18446744073709551616 + low) ≤ 9223372036854775807 := Mth.isq_le_of r0 (by omega) (by omega)
  have St := Lib.hid (show RootK (high * 18446744073709551616 + low) P from ⟨r1, by omega, k6⟩)
  have Rs := Lib.hid rs
  clear lw k1 k4 rs r1
  go_enter Try.func62, Try.ntmps62
  go_wp2_with (go_at_call 69; first | ((with_reducible refine (Lu.out _).mono ?_); rintro e w' ⟨rfl, rfl⟩) | ((with_reducible refine (Lw.out _).mono ?_); rintro e w' ⟨rfl, rfl⟩))
  simp only [eP]
  go_loopw [6] (fun x wr => ∃ v, x = .int .u64 v ∧ RootK (high * 18446744073709551616 + low) v ∧ ∃ n, wr = w.drewN n) (fun x _ => (intOf x).toNat)
  case atStart => exact ⟨P, rfl, St.out, 0, rfl⟩
  case round =>
    obtain ⟨v, rfl, ⟨hr, hv, hv'⟩, n, rfl⟩ := hrel
    obtain ⟨n1, n2⟩ := Mth.newton_word (high * 18446744073709551616 + low) v _ r0 hr hv Rs.out.2 (by omega)
    have q0 : 0 ≤ (high * 18446744073709551616 + low) / v := Int.ediv_nonneg (by omega) (by omega)
    have dv : ∀ w, Calls Try.prog 61 #[.int .u64 high, .int .u64 low, .int .u64 v] w fun e w' => e = .returned (.tuple #[.int .u64 ((high * 18446744073709551616 + low) / v), .int .u64 ((high * 18446744073709551616 + low) % v)]) ∧ ∃ n, w' = w.drewN n := fun w => div64_any high low v (by omega) (by omega) l0 l1 (by omega) w
    have ge := Mth.newton_ge (high * 18446744073709551616 + low) v _ hv Rs.out.1
    have stop := Mth.newton_stop (high * 18446744073709551616 + low) v hv
    obtain ⟨q, eq⟩ : ∃ q, (high * 18446744073709551616 + low) / v = q := ⟨_, rfl⟩
    obtain ⟨r, er⟩ : ∃ r, (high * 18446744073709551616 + low) % v = r := ⟨_, rfl⟩
    rw [eq] at q0 n1 ge stop dv
    rw [er] at dv
    have Dv := Lib.hid dv
    have c0 : 0 ≤ addC v q := by unfold addC; omega
    have c1 : addC v q ≤ 1 := by unfold addC; omega
    have s0 : 0 ≤ addS v q := by unfold addS; omega
    have s1 : addS v q < 18446744073709551616 := by unfold addS; omega
    have nx := next_word v q (by omega) q0 (by omega)
    obtain ⟨N, eN⟩ : ∃ N, (v + q) / 2 = N := ⟨_, rfl⟩
    rw [eN] at nx ge stop
    have N1 : N < 18446744073709551616 := by omega
    have EN := Lib.hid eN
    have Stop := Lib.hid stop
    clear dv n1 n2 eq er eN stop
    by_cases c : v ≤ N
    · have fin : Mth.rt (high * 18446744073709551616 + low) = v := Mth.rt_uniq _ _ (by omega) (Stop.out c) (by
        have k := Mth.isq_le_of (x := v) (r := Mth.rt (high * 18446744073709551616 + low)) r0 (by omega) (by have := Int.mul_le_mul hr hr r0 (by omega); simp only [Int.add_mul, Int.mul_add]; omega)
        have := Int.mul_le_mul (show Mth.rt (high * 18446744073709551616 + low) + 1 ≤ v + 1 by omega) (show Mth.rt (high * 18446744073709551616 + low) + 1 ≤ v + 1 by omega) (by omega) (by omega)
        have := Rs.out.2
        omega)
      have Fin := Lib.hid fin
      clear fin
      go_wp2_with (first | (go_at_call 61; refine (Dv.out _).mono ?_; rintro e w' ⟨rfl, m, rfl⟩) | simp only [add64_any v q (by omega) q0])
      go_ret
      exact ⟨ret_u64 Fin.out.symm, _, rfl⟩
    · have c' : N < v := by omega
      clear c
      go_wp2_with (first | (go_at_call 61; refine (Dv.out _).mono ?_; rintro e w' ⟨rfl, m, rfl⟩) | simp only [add64_any v q (by omega) q0])
      go_roundw
      case rel => exact ⟨N, rfl, ⟨ge, by have := EN.out; omega, by omega⟩, _, rfl⟩
      case measure => simp [intOf]; omega

end Go.Proofs.Ytlfkgnpbpmejkaa
