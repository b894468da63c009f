import Derived.Test.YtciglhecjkeogaaGreatDoorZTX0
set_option linter.unusedVariables false
set_option linter.unusedSimpArgs false
namespace Go.Proofs.YtciglhecjkeogaaGreatDoor
open Go.RowKit
theorem div64_any (hi lo y : Int) (h0 : 0 ≤ hi) (h1 : hi < y) (l0 : 0 ≤ lo) (l1 : lo < 18446744073709551616) (y1 : y < 18446744073709551616) (w : World) :
    Calls Tryz.prog 128 #[.int .u64 hi, .int .u64 lo, .int .u64 y] w fun e w' => e = .returned (.tuple #[.int .u64 (dq hi lo y), .int .u64 (dr hi lo y)]) ∧ ∃ n, w' = w.drewN n := by
  rcases Int.lt_or_le 0 hi with c | c
  · exact (div64_high hi lo y c h1 l0 l1 y1 w).mono fun e w' ⟨he, hw⟩ => ⟨he, 0, hw.symm⟩
  · obtain rfl : hi = 0 := by omega
    refine (div64_low lo y l0 l1 h1 y1 w).mono fun e w' ⟨he, hw⟩ => ⟨?_, hw⟩
    rw [he]; unfold dq dr; simp
theorem len64_any (x : Int) (h0 : 0 ≤ x) (h1 : x < 18446744073709551616) (w : World) :
    Calls Tryz.prog 139 #[.int .u64 x] w fun e w' => e = .returned (.int .i64 (Lib.bitLen x.toNat)) ∧ w = w' :=
  (Tryz.bits_Len64 x w h0 (by omega)).mono fun _ _ ⟨h1, h2⟩ => ⟨h1, h2.symm⟩
theorem len_lt (x : Int) (h0 : 0 < x) (h1 : x < 18446744073709551616) : x < 2 ^ (Lib.bitLen x.toNat) ∧ 1 ≤ Lib.bitLen x.toNat := by
  obtain ⟨n, rfl⟩ := Int.eq_ofNat_of_zero_le (Int.le_of_lt h0)
  rw [Int.toNat_natCast]
  obtain ⟨b1, b2, b3⟩ := Lib.bitLenAux_bounds 64 n (by omega) (by omega)
  have e : Lib.bitLenAux 64 n = Lib.bitLen n := rfl
  rw [e] at b1 b3
  refine ⟨?_, b1⟩
  rw [show ((2 : Int) ^ Lib.bitLen n) = ((2 ^ Lib.bitLen n : Nat) : Int) from (Int.natCast_pow 2 _).symm]
  omega
theorem two_pow_le {a b : Nat} (h : a ≤ b) : (2 : Int) ^ a ≤ 2 ^ b := by
  have := Nat.pow_le_pow_right (show 0 < 2 by decide) h
  rw [show ((2 : Int) ^ a) = ((2 ^ a : Nat) : Int) from (Int.natCast_pow 2 _).symm, show ((2 : Int) ^ b) = ((2 ^ b : Nat) : Int) from (Int.natCast_pow 2 _).symm]
  omega
def addS (x y : Int) : Int := (x + y) % 18446744073709551616
def addC (x y : Int) : Int := (x + y) / 18446744073709551616
theorem add64_any (x y : Int) (hx : 0 ≤ x) (hy : 0 ≤ y) (w : World) :
    (callFunc 140 #[.int .u64 x, .int .u64 y, .int .u64 0]).run Tryz.prog w = .ok (.value (.tuple #[.int .u64 (addS x y), .int .u64 (addC x y)])) w := Tryz.bits_Add64_0 x y hx hy w
theorem next_word (x y : Int) (hx : 0 ≤ x) (hy : 0 ≤ y) (h : x + y < 36893488147419103232) :
    bits .or .u64 (addC x y * 9223372036854775808) (addS x y / 2) = (x + y) / 2 := by
  unfold addC addS
  have z0 : 0 ≤ x + y := by omega
  generalize x + y = z at *
  obtain ⟨n, rfl⟩ := Int.eq_ofNat_of_zero_le z0
  have c : n / 18446744073709551616 = 0 ∨ n / 18446744073709551616 = 1 := by omega
  have t : n % 18446744073709551616 / 2 < 2 ^ 63 := by omega
  have e := Nat.two_pow_add_eq_or_of_lt t (n / 18446744073709551616)
  have o := bits_or_u64_nat (2 ^ 63 * (n / 18446744073709551616)) (n % 18446744073709551616 / 2) (by omega) (by omega)
  rw [← e] at o
  have k1 : ((2 ^ 63 * (n / 18446744073709551616) : Nat) : Int) = (n : Int) / 18446744073709551616 * 9223372036854775808 := by omega
  have k2 : ((n % 18446744073709551616 / 2 : Nat) : Int) = (n : Int) % 18446744073709551616 / 2 := by omega
  rw [k1, k2] at o
  rw [o]
  omega
theorem start_root (n : Int) (l e : Nat) (h : n < 2 ^ l) (he : l ≤ e + e) : n < 2 ^ e * 2 ^ e := by
  have k : (2 : Int) ^ e * 2 ^ e = 2 ^ (e + e) := (Int.pow_add 2 e e).symm
  have m : (2 : Int) ^ l ≤ 2 ^ (e + e) := two_pow_le he
  omega
theorem pow_63 (e : Nat) (he : e ≤ 63) : 1 ≤ (2 : Int) ^ e ∧ (2 : Int) ^ e ≤ 9223372036854775808 := by
  have m : (2 : Int) ^ e ≤ 2 ^ 63 := two_pow_le he
  have p : (0 : Int) < 2 ^ e := Int.pow_pos (by decide)
  omega
theorem le_start (r P n : Int) (r0 : 0 ≤ r) (p0 : 0 ≤ P) (h1 : r * r ≤ n) (h2 : n < P * P) : r ≤ P := by
  refine Mth.isq_le_of r0 p0 ?_
  have e : (P + 1) * (P + 1) = P * P + 2 * P + 1 := by simp only [Int.add_mul, Int.mul_add]; omega
  omega
def RootK (n v : Int) : Prop := Mth.rt n ≤ v ∧ 0 < v ∧ v ≤ 9223372036854775808
set_option maxHeartbeats 2000000 in
theorem root_word (low : Int) (l0 : 0 < low) (l1 : low < 18446744073709551616) (w : World) :
    Calls Tryz.prog 130 #[.int .u64 0, .int .u64 low] w fun e w' => e = .returned (.int .u64 (Mth.rt low)) ∧ ∃ n, w' = w.drewN n := by
  obtain ⟨k1, k2⟩ := len_lt low l0 l1
  have k3 : Lib.bitLen low.toNat ≤ 64 := Lib.bitLen_le low.toNat 64 (by omega) (by omega)
  have lw : ∀ w, Calls Tryz.prog 139 #[.int .u64 low] w fun e w' => e = .returned (.int .i64 (Lib.bitLen low.toNat)) ∧ w = w' := len64_any low (by omega) l1
  have b1 : (low == 0) = false := beq_eq_false_iff_ne.2 (by omega)
  have k4 := start_root low (Lib.bitLen low.toNat) ((Lib.bitLen low.toNat + 1) / 2) k1 (by omega)
  obtain ⟨k5, k6⟩ := pow_63 ((Lib.bitLen low.toNat + 1) / 2) (by omega)
  generalize Lib.bitLen low.toNat = L at *
  have Lw := Lib.hid lw
  obtain ⟨P, eP⟩ : ∃ P, (2 : Int) ^ ((L + 1) / 2) = P := ⟨_, rfl⟩
  rw [eP] at k4 k5 k6
  have rs := Mth.rt_spec low (by omega)
  have r0 := Mth.rt_nonneg low
  have rp := Mth.rt_pos low (by omega)
  have r1 : Mth.rt low ≤ P := le_start _ _ _ r0 (by omega) rs.1 k4
  have r2 : Mth.rt low ≤ 9223372036854775807 := Mth.isq_le_of r0 (by omega) (by omega)
  have St := Lib.hid (show RootK low P from ⟨r1, by omega, k6⟩)
  have Rs := Lib.hid rs
  clear lw k1 k4 rs r1
  go_enter Tryz.func130, Tryz.ntmps130
  go_wp2_with (go_at_call 139; refine (Lw.out _).mono ?_; rintro e w' ⟨rfl, rfl⟩)
  simp only [eP]
  go_loopw [6] (fun x wr => ∃ v, x = .int .u64 v ∧ RootK low v ∧ ∃ n, wr = w.drewN n) (fun x _ => (intOf x).toNat)
  case atStart => exact ⟨P, rfl, St.out, 0, rfl⟩
  case round =>
    obtain ⟨v, rfl, ⟨hr, hv, hv'⟩, n, rfl⟩ := hrel
    obtain ⟨n1, n2⟩ := Mth.newton_word low v _ r0 hr hv Rs.out.2 (by omega)
    have q0 : 0 ≤ low / v := Int.ediv_nonneg (by omega) (by omega)
    have dv : ∀ w, Calls Tryz.prog 128 #[.int .u64 0, .int .u64 low, .int .u64 v] w fun e w' => e = .returned (.tuple #[.int .u64 (low / v), .int .u64 (low % v)]) ∧ ∃ n, w' = w.drewN n := fun w => div64_low low v (by omega) l1 hv (by omega) w
    have ge := Mth.newton_ge low v _ hv Rs.out.1
    have stop := Mth.newton_stop low v hv
    obtain ⟨q, eq⟩ : ∃ q, low / v = q := ⟨_, rfl⟩
    obtain ⟨r, er⟩ : ∃ r, low % v = r := ⟨_, rfl⟩
    rw [eq] at q0 n1 ge stop dv
    rw [er] at dv
    have Dv := Lib.hid dv
    have c0 : 0 ≤ addC v q := by unfold addC; omega
    have c1 : addC v q ≤ 1 := by unfold addC; omega
    have s0 : 0 ≤ addS v q := by unfold addS; omega
    have s1 : addS v q < 18446744073709551616 := by unfold addS; omega
    have nx := next_word v q (by omega) q0 (by omega)
    obtain ⟨N, eN⟩ : ∃ N, (v + q) / 2 = N := ⟨_, rfl⟩
    rw [eN] at nx ge stop
    have N1 : N < 18446744073709551616 := by omega
    have EN := Lib.hid eN
    have Stop := Lib.hid stop
    clear dv n1 n2 eq er eN stop
    by_cases c : v ≤ N
    · have fin : Mth.rt low = v := Mth.rt_uniq _ _ (by omega) (Stop.out c) (by
        have k := Mth.isq_le_of (x := v) (r := Mth.rt low) r0 (by omega) (by have := Int.mul_le_mul hr hr r0 (by omega); simp only [Int.add_mul, Int.mul_add]; omega)
        have := Int.mul_le_mul (show Mth.rt low + 1 ≤ v + 1 by omega) (show Mth.rt low + 1 ≤ v + 1 by omega) (by omega) (by omega)
        have := Rs.out.2
        omega)
      have Fin := Lib.hid fin
      clear fin
      go_wp2_with (first | (go_at_call 128; refine (Dv.out _).mono ?_; rintro e w' ⟨rfl, m, rfl⟩) | simp only [add64_any v q (by omega) q0])
      go_ret
      exact ⟨ret_u64 Fin.out.symm, _, rfl⟩
    · have c' : N < v := by omega
      clear c
      go_wp2_with (first | (go_at_call 128; refine (Dv.out _).mono ?_; rintro e w' ⟨rfl, m, rfl⟩) | simp only [add64_any v q (by omega) q0])
      go_roundw
      case rel => exact ⟨N, rfl, ⟨ge, by have := EN.out; omega, by omega⟩, _, rfl⟩
      case measure => simp [intOf]; omega
set_option maxHeartbeats 2000000 in
theorem root_words (high low : Int) (h0 : 0 < high) (h1 : high < 4611686018427387904) (l0 : 0 ≤ low) (l1 : low < 18446744073709551616) (w : World) :
    Calls Tryz.prog 130 #[.int .u64 high, .int .u64 low] w fun e w' => e = .returned (.int .u64 (Mth.rt (high * 18446744073709551616 + low))) ∧ ∃ n, w' = w.drewN n := by
  obtain ⟨k1, k2⟩ := len_lt high h0 (by omega)
  have k3 : Lib.bitLen high.toNat ≤ 62 := Lib.bitLen_le high.toNat 62 (by omega) (by omega)
  have lw : ∀ w, Calls Tryz.prog 139 #[.int .u64 high] w fun e w' => e = .returned (.int .i64 (Lib.bitLen high.toNat)) ∧ w = w' := len64_any high (by omega) (by omega)
  have lv : ∀ w, ∃ k : Int, Calls Tryz.prog 139 #[.int .u64 low] w fun e w' => e = .returned (.int .i64 k) ∧ w = w' := fun w => ⟨_, len64_any low l0 l1 w⟩
  have b1 : (high == 0) = false := beq_eq_false_iff_ne.2 (by omega)
  have b2 : (high != 0) = true := by rw [bne_iff_ne]; omega
  have kk : high * 18446744073709551616 + low < 2 ^ (64 + Lib.bitLen high.toNat) := by
    rw [Int.pow_add]
    omega
  have k4 := start_root (high * 18446744073709551616 + low) (64 + Lib.bitLen high.toNat) ((64 + Lib.bitLen high.toNat + 1) / 2) kk (by omega)
  obtain ⟨k5, k6⟩ := pow_63 ((64 + Lib.bitLen high.toNat + 1) / 2) (by omega)
  have lu : ∀ w, Calls Tryz.prog 139 #[.int .u64 low] w fun e w' => e = .returned (.int .i64 (Lib.bitLen low.toNat)) ∧ w = w' := len64_any low l0 l1
  have Lu := Lib.hid lu
  clear lu lv kk
  generalize Lib.bitLen high.toNat = L at *
  have Lw := Lib.hid lw
  obtain ⟨P, eP⟩ : ∃ P, (2 : Int) ^ ((64 + L + 1) / 2) = P := ⟨_, rfl⟩
  rw [eP] at k4 k5 k6
  have rs := Mth.rt_spec (high * 18446744073709551616 + low) (by omega)
  have r0 := Mth.rt_nonneg (high * 18446744073709551616 + low)
  have rp := Mth.rt_pos (high * 18446744073709551616 + low) (by omega)
  have r1 : Mth.rt (high * 18446744073709551616 + low) ≤ P := le_start _ _ _ r0 (by omega) rs.1 k4
  have r2 : Mth.rt (high * 18446744073709551616 + low) ≤ 9223372036854775807 := Mth.isq_le_of r0 (by omega) (by omega)
  have St := Lib.hid (show RootK (high * 18446744073709551616 + low) P from ⟨r1, by omega, k6⟩)
  have Rs := Lib.hid rs
  clear lw k1 k4 rs r1
  go_enter Tryz.func130, Tryz.ntmps130
  go_wp2_with (go_at_call 139; first | ((with_reducible refine (Lu.out _).mono ?_); rintro e w' ⟨rfl, rfl⟩) | ((with_reducible refine (Lw.out _).mono ?_); rintro e w' ⟨rfl, rfl⟩))
  simp only [eP]
  go_loopw [6] (fun x wr => ∃ v, x = .int .u64 v ∧ RootK (high * 18446744073709551616 + low) v ∧ ∃ n, wr = w.drewN n) (fun x _ => (intOf x).toNat)
  case atStart => exact ⟨P, rfl, St.out, 0, rfl⟩
  case round =>
    obtain ⟨v, rfl, ⟨hr, hv, hv'⟩, n, rfl⟩ := hrel
    obtain ⟨n1, n2⟩ := Mth.newton_word (high * 18446744073709551616 + low) v _ r0 hr hv Rs.out.2 (by omega)
    have q0 : 0 ≤ (high * 18446744073709551616 + low) / v := Int.ediv_nonneg (by omega) (by omega)
    have dv : ∀ w, Calls Tryz.prog 128 #[.int .u64 high, .int .u64 low, .int .u64 v] w fun e w' => e = .returned (.tuple #[.int .u64 ((high * 18446744073709551616 + low) / v), .int .u64 ((high * 18446744073709551616 + low) % v)]) ∧ ∃ n, w' = w.drewN n := fun w => div64_any high low v (by omega) (by omega) l0 l1 (by omega) w
    have ge := Mth.newton_ge (high * 18446744073709551616 + low) v _ hv Rs.out.1
    have stop := Mth.newton_stop (high * 18446744073709551616 + low) v hv
    obtain ⟨q, eq⟩ : ∃ q, (high * 18446744073709551616 + low) / v = q := ⟨_, rfl⟩
    obtain ⟨r, er⟩ : ∃ r, (high * 18446744073709551616 + low) % v = r := ⟨_, rfl⟩
    rw [eq] at q0 n1 ge stop dv
    rw [er] at dv
    have Dv := Lib.hid dv
    have c0 : 0 ≤ addC v q := by unfold addC; omega
    have c1 : addC v q ≤ 1 := by unfold addC; omega
    have s0 : 0 ≤ addS v q := by unfold addS; omega
    have s1 : addS v q < 18446744073709551616 := by unfold addS; omega
    have nx := next_word v q (by omega) q0 (by omega)
    obtain ⟨N, eN⟩ : ∃ N, (v + q) / 2 = N := ⟨_, rfl⟩
    rw [eN] at nx ge stop
    have N1 : N < 18446744073709551616 := by omega
    have EN := Lib.hid eN
    have Stop := Lib.hid stop
    clear dv n1 n2 eq er eN stop
    by_cases c : v ≤ N
    · have fin : Mth.rt (high * 18446744073709551616 + low) = v := Mth.rt_uniq _ _ (by omega) (Stop.out c) (by
        have k := Mth.isq_le_of (x := v) (r := Mth.rt (high * 18446744073709551616 + low)) r0 (by omega) (by have := Int.mul_le_mul hr hr r0 (by omega); simp only [Int.add_mul, Int.mul_add]; omega)
        have := Int.mul_le_mul (show Mth.rt (high * 18446744073709551616 + low) + 1 ≤ v + 1 by omega) (show Mth.rt (high * 18446744073709551616 + low) + 1 ≤ v + 1 by omega) (by omega) (by omega)
        have := Rs.out.2
        omega)
      have Fin := Lib.hid fin
      clear fin
      go_wp2_with (first | (go_at_call 128; refine (Dv.out _).mono ?_; rintro e w' ⟨rfl, m, rfl⟩) | simp only [add64_any v q (by omega) q0])
      go_ret
      exact ⟨ret_u64 Fin.out.symm, _, rfl⟩
    · have c' : N < v := by omega
      clear c
      go_wp2_with (first | (go_at_call 128; refine (Dv.out _).mono ?_; rintro e w' ⟨rfl, m, rfl⟩) | simp only [add64_any v q (by omega) q0])
      go_roundw
      case rel => exact ⟨N, rfl, ⟨ge, by have := EN.out; omega, by omega⟩, _, rfl⟩
      case measure => simp [intOf]; omega
end Go.Proofs.YtciglhecjkeogaaGreatDoor
set_option linter.unusedVariables false
set_option linter.unusedSimpArgs false
namespace Go.Proofs.YtciglhecjkeogaaGreatDoor
open Go.RowKit
theorem round_any (q r m : Int) (neg : Bool) (h0 : 0 ≤ q) (h1 : q < 18446744073709551616) (r0 : 0 ≤ r) (r3 : r ≤ 3) (w : World) :
    Calls Tryz.prog 119 #[.int .u64 q, .int .i64 r, .bool neg, .int .i64 m] w fun e w' =>
      e = .returned (.tuple #[.int .i64 (Mth.rv m neg q r), .bool (Mth.rok m neg q r)]) ∧ w = w' := by
  by_cases c : m < 0 ∨ 2 < m
  · exact round_none q r m neg c w
  · exact round_some q r m neg h0 h1 r0 r3 (by omega) (by omega) w
theorem restQ_range (l d : Int) : 0 ≤ restQ l d ∧ restQ l d ≤ 3 := by unfold restQ; split <;> (try split) <;> (try split) <;> omega
theorem restR_range (q o l n : Int) : 0 ≤ restR q o l n ∧ restR q o l n ≤ 3 := by unfold restR; split <;> (try split) <;> (try split) <;> omega
def ng (a b c : Int) : Bool := (decide (a < 0) != decide (b < 0)) != decide (c < 0)
def mq (a b c : Int) : Int := Mth.mag a * Mth.mag b / Mth.mag c
def mr (a b c : Int) : Int := restQ (Mth.mag a * Mth.mag b % Mth.mag c) (Mth.mag c)
def mdv (a b c m : Int) : Int := if c = 0 then 0 else Mth.rv m (ng a b c) (mq a b c) (mr a b c)
def mdok (a b c m : Int) : Bool := if c = 0 then false else Mth.rok m (ng a b c) (mq a b c) (mr a b c)
theorem rok_big (m : Int) (neg : Bool) (q r : Int) (hq : 18446744073709551616 ≤ q) : Mth.rv m neg q r = 0 ∧ Mth.rok m neg q r = false := by
  refine rok_false m neg q r _ rfl ?_
  unfold Mth.rnd
  cases neg
  · right; simp only [Bool.false_eq_true, if_false]; split <;> omega
  · left; simp only [if_true]; split <;> omega
theorem muldiv_any (a b c m : Int) (a1 : -9223372036854775808 ≤ a) (a2 : a ≤ 9223372036854775807) (b1 : -9223372036854775808 ≤ b) (b2 : b ≤ 9223372036854775807)
    (c1 : -9223372036854775808 ≤ c) (c2 : c ≤ 9223372036854775807) (w : World) :
    Calls Tryz.prog 115 #[.int .i64 a, .int .i64 b, .int .i64 c, .int .i64 m] w fun e w' =>
      e = .returned (.tuple #[.int .i64 (mdv a b c m), .bool (mdok a b c m)]) ∧ ∃ n, w' = w.drewN n := by
  have ma := Mth.mag_le a a1 a2
  have mb := Mth.mag_le b b1 b2
  have mc := Mth.mag_le c c1 c2
  have na := Mth.mag_nonneg a
  have nb := Mth.mag_nonneg b
  have nc := Mth.mag_nonneg c
  have mm := mag_mul_le a b a1 a2 b1 b2
  have mn := Int.mul_nonneg na nb
  obtain ⟨e, l0, l1⟩ := mul_split (Mth.mag a) (Mth.mag b)
  obtain ⟨k0, k1⟩ := neg_word _ _ _ e l0 l1 mm mn
  obtain ⟨H, eH⟩ : ∃ H, mulH (Mth.mag a) (Mth.mag b) = H := ⟨_, rfl⟩
  obtain ⟨L, eL⟩ : ∃ L, mulL (Mth.mag a) (Mth.mag b) = L := ⟨_, rfl⟩
  rw [eH, eL] at e
  rw [eL] at l0 l1
  rw [eH] at k0 k1
  have He := Lib.hid e
  clear e mm mn
  by_cases cc : c = 0
  · have e1 : mdv a b c m = 0 := if_pos cc
    have e2 : mdok a b c m = false := if_pos cc
    rw [e1, e2]
    subst cc
    have m0 : Mth.mag 0 = 0 := rfl
    clear e1 e2
    go_enter Tryz.func115, Tryz.ntmps115
    go_wp2_with (first | (go_at_call 117; refine (size_any _ (by omega) (by omega) _).mono ?_; rintro e w' ⟨rfl, rfl⟩) | (go_at_call 116; refine (mul64_any _ _ (by omega) (by omega) (by omega) (by omega) _).mono ?_; rintro e w' ⟨rfl, rfl⟩))
    go_ret2
    exact ⟨rfl, 0, rfl⟩
  · have e1 : mdv a b c m = Mth.rv m (ng a b c) (mq a b c) (mr a b c) := if_neg cc
    have e2 : mdok a b c m = Mth.rok m (ng a b c) (mq a b c) (mr a b c) := if_neg cc
    rw [e1, e2]
    have pc : 0 < Mth.mag c := by unfold Mth.mag; split <;> omega
    clear e1 e2 cc
    by_cases ch : Mth.mag c ≤ H
    · have big : 18446744073709551616 ≤ mq a b c := by
        unfold mq
        rw [Int.le_ediv_iff_mul_le pc]
        have := He.out
        omega
      obtain ⟨e1, e2⟩ := rok_big m (ng a b c) (mq a b c) (mr a b c) big
      rw [e1, e2]
      clear e1 e2 big
      go_enter Tryz.func115, Tryz.ntmps115
      go_wp2_with (first | (go_at_call 117; refine (size_any _ (by omega) (by omega) _).mono ?_; rintro e w' ⟨rfl, rfl⟩) | (go_at_call 116; refine (mul64_any _ _ (by omega) (by omega) (by omega) (by omega) _).mono ?_; rintro e w' ⟨rfl, rfl⟩))
      go_ret2
      exact ⟨rfl, 0, rfl⟩
    · have q1 : dq H L (Mth.mag c) = mq a b c := by unfold dq mq; rw [← He.out]
      have r1 : dr H L (Mth.mag c) = Mth.mag a * Mth.mag b % Mth.mag c := by unfold dr; rw [← He.out]
      have r2 : restQ (dr H L (Mth.mag c)) (Mth.mag c) = mr a b c := by rw [r1]; rfl
      have q2 : 0 ≤ dq H L (Mth.mag c) := Int.ediv_nonneg (by omega) (by omega)
      have q3 : dq H L (Mth.mag c) < 18446744073709551616 := by
        unfold dq; rw [Int.ediv_lt_iff_lt_mul pc]; omega
      have r3 : 0 ≤ dr H L (Mth.mag c) := Int.emod_nonneg _ (by omega)
      have r4 : dr H L (Mth.mag c) < Mth.mag c := Int.emod_lt_of_pos _ pc
      obtain ⟨r5, r6⟩ := restQ_range (dr H L (Mth.mag c)) (Mth.mag c)
      rw [q1] at q2 q3
      rw [r2] at r5 r6
      have en : ((decide (a < 0) != decide (b < 0)) != decide (c < 0)) = ng a b c := rfl
      generalize mq a b c = Q at *
      generalize mr a b c = R at *
      generalize ng a b c = N at *
      obtain ⟨A, eA⟩ : ∃ A, decide (a < 0) = A := ⟨_, rfl⟩
      obtain ⟨B, eB⟩ : ∃ B, decide (b < 0) = B := ⟨_, rfl⟩
      obtain ⟨C, eC⟩ : ∃ C, decide (c < 0) = C := ⟨_, rfl⟩
      rw [eA, eB, eC] at en
      have en' : (!((!(A == B)) == C)) = N := by rw [← en]; cases A <;> cases B <;> cases C <;> rfl
      clear r1 en
      go_enter Tryz.func115, Tryz.ntmps115
      go_wp2_with (first | (go_at_call 117; refine (size_any _ (by omega) (by omega) _).mono ?_; rintro e w' ⟨rfl, rfl⟩) | (go_at_call 116; refine (mul64_any _ _ (by omega) (by omega) (by omega) (by omega) _).mono ?_; rintro e w' ⟨rfl, rfl⟩) | (go_at_call 128; refine (div64_any _ _ _ (by omega) (by omega) (by omega) (by omega) (by omega) _).mono ?_; rintro e w' ⟨rfl, n, rfl⟩) | (go_at_call 129; refine (restOf_any _ _ (by omega) (by omega) (by omega) _).mono ?_; rintro e w' ⟨rfl, rfl⟩) | (go_at_call 119; refine (round_any _ _ _ _ (by omega) (by omega) (by omega) (by omega) _).mono ?_; rintro e w' ⟨rfl, rfl⟩))
      go_ret2
      exact ⟨rfl, _, rfl⟩
def rq (N n : Int) : Int := Mth.rt (N / n)
def rr (N n : Int) : Int := restR (Mth.rt (N / n)) (N / n - Mth.rt (N / n) * Mth.rt (N / n)) (N % n) n
theorem root_any (high low : Int) (h0 : 0 ≤ high) (h1 : high < 4611686018427387904) (l0 : 0 ≤ low) (l1 : low < 18446744073709551616) (w : World) :
    Calls Tryz.prog 130 #[.int .u64 high, .int .u64 low] w fun e w' => e = .returned (.int .u64 (Mth.rt (high * 18446744073709551616 + low))) ∧ ∃ n, w' = w.drewN n := by
  rcases Int.lt_or_le 0 high with c | c
  · exact root_words high low c h1 l0 l1 w
  · obtain rfl : high = 0 := by omega
    rw [show (0 : Int) * 18446744073709551616 + low = low from by omega]
    rcases Int.lt_or_le 0 low with d | d
    · exact root_word low d l1 w
    · obtain rfl : low = 0 := by omega
      have e : Mth.rt 0 = 0 := rfl
      rw [e]
      go_enter Tryz.func130, Tryz.ntmps130
      go_wp2
      go_ret
      exact ⟨rfl, 0, rfl⟩
theorem rootOf_any (high low n : Int) (h0 : 0 ≤ high) (h1 : high < 4611686018427387904) (l0 : 0 ≤ low) (l1 : low < 18446744073709551616) (n0 : 0 < n) (n1 : n ≤ 4611686018427387904) (w : World) :
    Calls Tryz.prog 118 #[.int .u64 high, .int .u64 low, .int .u64 n] w fun e w' =>
      e = .returned (.tuple #[.int .u64 (rq (high * 18446744073709551616 + low) n), .int .i64 (rr (high * 18446744073709551616 + low) n)]) ∧ ∃ k, w' = w.drewN k := by
  have t0 : 0 ≤ high / n := Int.ediv_nonneg h0 (by omega)
  have t1 : high / n < 4611686018427387904 := by
    rw [Int.ediv_lt_iff_lt_mul n0]
    have := Int.mul_le_mul_of_nonneg_left (show 1 ≤ n by omega) (show (0 : Int) ≤ 4611686018427387904 by omega)
    omega
  have r0 : 0 ≤ high % n := Int.emod_nonneg _ (by omega)
  have r1 : high % n < n := Int.emod_lt_of_pos _ n0
  have d := Int.emod_add_mul_ediv high n
  have e1 : (high * 18446744073709551616 + low) = (high % n * 18446744073709551616 + low) + n * (high / n * 18446744073709551616) := by
    rw [← Int.mul_assoc]; omega
  have q1 : (high * 18446744073709551616 + low) / n = high / n * 18446744073709551616 + dq (high % n) low n := by
    unfold dq; rw [e1, Int.add_mul_ediv_left _ _ (by omega)]; omega
  have q2 : (high * 18446744073709551616 + low) % n = dr (high % n) low n := by
    unfold dr; rw [e1, Int.add_mul_emod_self_left]
  have b0 : 0 ≤ dq (high % n) low n := Int.ediv_nonneg (by omega) (by omega)
  have b1 : dq (high % n) low n < 18446744073709551616 := by unfold dq; rw [Int.ediv_lt_iff_lt_mul n0]; omega
  have c0 : 0 ≤ dr (high % n) low n := Int.emod_nonneg _ (by omega)
  have c1 : dr (high % n) low n < n := Int.emod_lt_of_pos _ n0
  unfold rq rr
  rw [q1, q2]
  obtain ⟨T, eT⟩ : ∃ T, high / n = T := ⟨_, rfl⟩
  obtain ⟨M, eM⟩ : ∃ M, high % n = M := ⟨_, rfl⟩
  rw [eT] at t0 t1 ⊢
  rw [eM] at r0 r1 b0 b1 c0 c1 ⊢
  obtain ⟨B, eB⟩ : ∃ B, dq M low n = B := ⟨_, rfl⟩
  obtain ⟨C, eC⟩ : ∃ C, dr M low n = C := ⟨_, rfl⟩
  rw [eB] at b0 b1 ⊢
  rw [eC] at c0 c1 ⊢
  obtain ⟨Q, eQ⟩ : ∃ Q, T * 18446744073709551616 + B = Q := ⟨_, rfl⟩
  rw [eQ]
  have s := Mth.rt_spec Q (by omega)
  have s0 := Mth.rt_nonneg Q
  have fr : ∀ w, Calls Tryz.prog 130 #[.int .u64 T, .int .u64 B] w fun e w' => e = .returned (.int .u64 (Mth.rt Q)) ∧ ∃ n, w' = w.drewN n := fun w => by
    have := root_any T B t0 t1 b0 b1 w
    rw [eQ] at this
    exact this
  have Fr := Lib.hid fr
  obtain ⟨r, er⟩ : ∃ r, Mth.rt Q = r := ⟨_, rfl⟩
  rw [er] at s s0 Fr ⊢
  have e2 : (r + 1) * (r + 1) = r * r + 2 * r + 1 := by simp only [Int.add_mul, Int.mul_add]; omega
  have r3 : r < 9223372036854775808 := by
    have := Mth.isq_le_of (r := r) (x := 9223372036854775807) s0 (by omega) (by omega)
    omega
  obtain ⟨O, eO⟩ : ∃ O, Q - r * r = O := ⟨_, rfl⟩
  rw [eO]
  have o0 : 0 ≤ O := by omega
  have ov : IntKind.u64.wrap (B - IntKind.u64.wrap (r * r)) = O := by
    simp only [IntKind.wrap_u64]; omega
  have nz : (n == 0) = false := beq_eq_false_iff_ne.2 (by omega)
  have dv : ∀ w, Calls Tryz.prog 128 #[.int .u64 M, .int .u64 low, .int .u64 n] w fun e w' => e = .returned (.tuple #[.int .u64 B, .int .u64 C]) ∧ ∃ n, w' = w.drewN n := fun w => by
    have := div64_any M low n r0 r1 l0 l1 (by omega) w
    rw [eB, eC] at this
    exact this
  have Dv := Lib.hid dv
  clear dv fr s e2 eO er eQ eB eC q1 q2 e1 d
  go_enter Tryz.func118, Tryz.ntmps118
  go_wp2
  go_quiet (fail)
  simp only [eT, eM]
  go_wp2_with (first | (go_at_call 128; refine (Dv.out _).mono ?_; rintro e w' ⟨rfl, k1, rfl⟩) | (go_at_call 130; refine (Fr.out _).mono ?_; rintro e w' ⟨rfl, k2, rfl⟩) | (go_at_call 131; refine (rootRest_any _ _ _ _ (by omega) (by omega) (by omega) (by omega) (by omega) _).mono ?_; rintro e w' ⟨rfl, rfl⟩))
  go_ret2
  exact ⟨rfl, _, rfl⟩
def rtv (a b m : Int) : Int := if a < 0 ∨ b < 0 then 0 else Mth.rv m false (rq (a * b) 1) (rr (a * b) 1)
def rtok (a b m : Int) : Bool := if a < 0 ∨ b < 0 then false else Mth.rok m false (rq (a * b) 1) (rr (a * b) 1)
theorem rq_range (N n : Int) (h0 : 0 ≤ N) (hN : N < 85070591730234615865843651857942052864) (n0 : 0 < n) : 0 ≤ rq N n ∧ rq N n < 18446744073709551616 := by
  refine ⟨Mth.rt_nonneg _, ?_⟩
  unfold rq
  have q0 : 0 ≤ N / n := Int.ediv_nonneg h0 (by omega)
  have s := Mth.rt_spec (N / n) q0
  have q1 : N / n ≤ N := by
    have d := Int.emod_add_mul_ediv N n
    have := Int.emod_nonneg N (show n ≠ 0 by omega)
    have := Int.mul_le_mul_of_nonneg_right (show 1 ≤ n by omega) q0
    omega
  have := Mth.isq_le_of (r := Mth.rt (N / n)) (x := 9223372036854775807) (Mth.rt_nonneg _) (by omega) (by omega)
  omega
theorem root_any2 (a b m : Int) (a1 : -9223372036854775808 ≤ a) (a2 : a ≤ 9223372036854775807) (b1 : -9223372036854775808 ≤ b) (b2 : b ≤ 9223372036854775807) (w : World) :
    Calls Tryz.prog 83 #[.int .i64 a, .int .i64 b, .int .i64 m] w fun e w' => e = .returned (.tuple #[.int .i64 (rtv a b m), .bool (rtok a b m)]) ∧ ∃ n, w' = w.drewN n := by
  by_cases ca : a < 0
  · have e1 : rtv a b m = 0 := if_pos (.inl ca)
    have e2 : rtok a b m = false := if_pos (.inl ca)
    have da : decide (a < 0) = true := decide_eq_true ca
    rw [e1, e2]
    clear e1 e2
    go_enter Tryz.func83, Tryz.ntmps83
    go_wp2
    go_ret2
    exact ⟨rfl, 0, rfl⟩
  · have da : decide (a < 0) = false := decide_eq_false ca
    by_cases cb : b < 0
    · have e1 : rtv a b m = 0 := if_pos (.inr cb)
      have e2 : rtok a b m = false := if_pos (.inr cb)
      have db : decide (b < 0) = true := decide_eq_true cb
      rw [e1, e2]
      clear e1 e2
      go_enter Tryz.func83, Tryz.ntmps83
      go_wp2
      go_ret2
      exact ⟨rfl, 0, rfl⟩
    · have db : decide (b < 0) = false := decide_eq_false cb
      have e1 : rtv a b m = Mth.rv m false (rq (a * b) 1) (rr (a * b) 1) := if_neg (by omega)
      have e2 : rtok a b m = Mth.rok m false (rq (a * b) 1) (rr (a * b) 1) := if_neg (by omega)
      rw [e1, e2]
      have ga : Mth.mag a = a := if_neg ca
      have gb : Mth.mag b = b := if_neg cb
      have p0 : 0 ≤ a * b := Int.mul_nonneg (by omega) (by omega)
      have p1 : a * b ≤ 9223372036854775807 * 9223372036854775807 := Int.mul_le_mul a2 b2 (by omega) (by omega)
      obtain ⟨e, l0, l1⟩ := mul_split a b
      have h0 : 0 ≤ mulH a b := by omega
      have h1 : mulH a b < 4611686018427387904 := by omega
      obtain ⟨q0, q1⟩ := rq_range (a * b) 1 p0 (by omega) (by omega)
      have rn : 0 ≤ rr (a * b) 1 ∧ rr (a * b) 1 ≤ 3 := restR_range _ _ _ _
      obtain ⟨r0, r1⟩ := rn
      have ro : ∀ w, Calls Tryz.prog 118 #[.int .u64 (mulH a b), .int .u64 (mulL a b), .int .u64 1] w fun e w' =>
          e = .returned (.tuple #[.int .u64 (rq (a * b) 1), .int .i64 (rr (a * b) 1)]) ∧ ∃ k, w' = w.drewN k := fun w => by
        have := rootOf_any (mulH a b) (mulL a b) 1 h0 h1 l0 l1 (by omega) (by omega) w
        rw [← e] at this
        exact this
      have Ro := Lib.hid ro
      clear e1 e2 ro e
      generalize rq (a * b) 1 = Q at *
      generalize rr (a * b) 1 = R at *
      go_enter Tryz.func83, Tryz.ntmps83
      go_wp2_with (first | (go_at_call 117; refine (size_any _ (by omega) (by omega) _).mono ?_; rintro e w' ⟨rfl, rfl⟩) | (go_at_call 116; refine (mul64_any _ _ (by omega) (by omega) (by omega) (by omega) _).mono ?_; rintro e w' ⟨rfl, rfl⟩) | (go_at_call 118; refine (Ro.out _).mono ?_; rintro e w' ⟨rfl, n, rfl⟩) | (go_at_call 119; refine (round_any _ _ _ _ (by omega) (by omega) (by omega) (by omega) _).mono ?_; rintro e w' ⟨rfl, rfl⟩))
      go_ret2
      exact ⟨rfl, _, rfl⟩
end Go.Proofs.YtciglhecjkeogaaGreatDoor
set_option linter.unusedVariables false
set_option linter.unusedSimpArgs false
namespace Go.Proofs.YtciglhecjkeogaaGreatDoor
open Go.RowKit
def Qw (w w' : World) : Prop := Below w.heap.size w w'
theorem Qw.refl (w : World) : Qw w w := Below.refl _ _
theorem Qw.trans {a b c : World} (h : Qw a b) (k : Qw b c) : Qw a c := Below.trans h (Below.mono k h.size)
theorem Qw.drewN (w : World) (n : Nat) : Qw w (w.drewN n) := ⟨rfl, rfl, rfl, Nat.le_refl _, fun _ _ => rfl⟩
theorem muldivW (a b c m : Int) (a1 : -9223372036854775808 ≤ a) (a2 : a ≤ 9223372036854775807) (b1 : -9223372036854775808 ≤ b) (b2 : b ≤ 9223372036854775807)
    (c1 : -9223372036854775808 ≤ c) (c2 : c ≤ 9223372036854775807) (w : World) :
    Calls Tryz.prog 115 #[.int .i64 a, .int .i64 b, .int .i64 c, .int .i64 m] w fun e w' => e = .returned (.tuple #[.int .i64 (mdv a b c m), .bool (mdok a b c m)]) ∧ Qw w w' :=
  (muldiv_any a b c m a1 a2 b1 b2 c1 c2 w).mono fun _ _ ⟨h, k, hk⟩ => ⟨h, hk ▸ Qw.drewN w k⟩
theorem rootW (a b m : Int) (a1 : -9223372036854775808 ≤ a) (a2 : a ≤ 9223372036854775807) (b1 : -9223372036854775808 ≤ b) (b2 : b ≤ 9223372036854775807) (w : World) :
    Calls Tryz.prog 83 #[.int .i64 a, .int .i64 b, .int .i64 m] w fun e w' => e = .returned (.tuple #[.int .i64 (rtv a b m), .bool (rtok a b m)]) ∧ Qw w w' :=
  (root_any2 a b m a1 a2 b1 b2 w).mono fun _ _ ⟨h, k, hk⟩ => ⟨h, hk ▸ Qw.drewN w k⟩
theorem tmod_of (v n : Int) (n1 : 1 ≤ n) : 0 ≤ v % n ∧ v % n < n ∧ (v.tmod n = v % n ∨ v < 0 ∧ v.tmod n = v % n - n) ∧ (0 ≤ v → v.tmod n = v % n) ∧ (v < 0 → v.tmod n ≤ 0) := by
  have m0 : 0 ≤ v % n := Int.emod_nonneg _ (by omega)
  have m1 : v % n < n := Int.emod_lt_of_pos _ (by omega)
  have e := Int.tmod_eq_emod (a := v) (b := n)
  refine ⟨m0, m1, ?_, ?_, ?_⟩
  · by_cases h : 0 ≤ v ∨ n ∣ v
    · left; rw [if_pos h] at e; omega
    · right; rw [if_neg h] at e; omega
  · intro h; rw [if_pos (.inl h)] at e; omega
  · intro h
    by_cases h2 : 0 ≤ v ∨ n ∣ v
    · rw [if_pos h2] at e
      have := Int.emod_eq_zero_of_dvd (h2.resolve_left (by omega))
      omega
    · rw [if_neg h2] at e; omega
theorem modW (v n : Int) (v1 : -9223372036854775808 ≤ v) (v2 : v ≤ 9223372036854775807) (n1 : 1 ≤ n) (n2 : n ≤ 9223372036854775807) (w : World) :
    Calls Tryz.prog 30 #[.int .i64 v, .int .i64 n] w fun e w' => e = .returned (.int .i64 (v % n)) ∧ w = w' := by
  have nz : (n == 0) = false := beq_eq_false_iff_ne.2 (by omega)
  have m0 : 0 ≤ v % n := Int.emod_nonneg _ (by omega)
  have m1 : v % n < n := Int.emod_lt_of_pos _ (by omega)
  go_enter Tryz.func30, Tryz.ntmps30
  go_wp2
  all_goals
    go_ret
    refine ⟨ret_i64 ?_, rfl⟩
  · rename_i h
    have := tmod_of v n n1
    unfold wrap64
    omega
  · rename_i h
    have := tmod_of v n n1
    omega
end Go.Proofs.YtciglhecjkeogaaGreatDoor

