
/- The walks of wide.MulDiv, rootOf, Root, Sqrt and Over. -/
import Derived.Test.YtlfkgnpbpmejkaaWalkB
import Derived.Test.YtlfkgnpbpmejkaaWalkE
import Derived.Test.YtlfkgnpbpmejkaaWalkF
set_option linter.unusedVariables false
set_option linter.unusedSimpArgs false
namespace Go.Proofs.Ytlfkgnpbpmejkaa
open Go.RowKit

theorem round_any (q r m : Int) (neg : Bool) (h0 : 0 ≤ q) (h1 : q < 18446744073709551616) (r0 : 0 ≤ r) (r3 : r ≤ 3) (w : World) :
    Calls Try.prog 56 #[.int .u64 q, .int .i64 r, .bool neg, .int .i64 m] w fun e w' =>
      e = .returned (.tuple #[.int .i64 (Mth.rv m neg q r), .bool (Mth.rok m neg q r)]) ∧ w = w' := by
  by_cases c : m < 0 ∨ 2 < m
  · exact round_none q r m neg c w
  · exact round_some q r m neg h0 h1 r0 r3 (by omega) (by omega) w

theorem restQ_range (l d : Int) : 0 ≤ restQ l d ∧ restQ l d ≤ 3 := by unfold restQ; split <;> (try split) <;> (try split) <;> omega
theorem restR_range (q o l n : Int) : 0 ≤ restR q o l n ∧ restR q o l n ≤ 3 := by unfold restR; split <;> (try split) <;> (try split) <;> omega

/-- The sign of a quotient. -/
def ng (a b c : Int) : Bool := (decide (a < 0) != decide (b < 0)) != decide (c < 0)
/-- The quotient's floor and its rest. -/
def mq (a b c : Int) : Int := Mth.mag a * Mth.mag b / Mth.mag c
def mr (a b c : Int) : Int := restQ (Mth.mag a * Mth.mag b % Mth.mag c) (Mth.mag c)
def mdv (a b c m : Int) : Int := if c = 0 then 0 else Mth.rv m (ng a b c) (mq a b c) (mr a b c)
def mdok (a b c m : Int) : Bool := if c = 0 then false else Mth.rok m (ng a b c) (mq a b c) (mr a b c)

theorem rok_big (m : Int) (neg : Bool) (q r : Int) (hq : 18446744073709551616 ≤ q) : Mth.rv m neg q r = 0 ∧ Mth.rok m neg q r = false := by
  refine rok_false m neg q r _ rfl ?_
  unfold Mth.rnd
  cases neg
  · right; simp only [Bool.false_eq_true, if_false]; split <;> omega
  · left; simp only [if_true]; split <;> omega

/-- The floor of the root of a quotient, and its rest. -/
def rq (N n : Int) : Int := Mth.rt (N / n)
def rr (N n : Int) : Int := restR (Mth.rt (N / n)) (N / n - Mth.rt (N / n) * Mth.rt (N / n)) (N % n) n

theorem root_any (high low : Int) (h0 : 0 ≤ high) (h1 : high < 4611686018427387904) (l0 : 0 ≤ low) (l1 : low < 18446744073709551616) (w : World) :
    Calls Try.prog 62 #[.int .u64 high, .int .u64 low] w fun e w' => e = .returned (.int .u64 (Mth.rt (high * 18446744073709551616 + low))) ∧ ∃ n, w' = w.drewN n := by
  rcases Int.lt_or_le 0 high with c | c
  · exact root_words high low c h1 l0 l1 w
  · obtain rfl : high = 0 := by omega
    rw [show (0 : Int) * 18446744073709551616 + low = low from by omega]
    rcases Int.lt_or_le 0 low with d | d
    · exact root_word low d l1 w
    · obtain rfl : low = 0 := by omega
      have e : Mth.rt 0 = 0 := rfl
      rw [e]
      go_enter Try.func62, Try.ntmps62
      go_wp2
      go_ret
      exact ⟨rfl, 0, rfl⟩

theorem ret_ui {a b c d : Int} (h : a = b) (g : c = d) : Ending.returned (.tuple #[.int .u64 a, .int .i64 c]) = .returned (.tuple #[.int .u64 b, .int .i64 d]) := by rw [h, g]

theorem rootOf_any (high low n : Int) (h0 : 0 ≤ high) (h1 : high < 4611686018427387904) (l0 : 0 ≤ low) (l1 : low < 18446744073709551616) (n0 : 0 < n) (n1 : n ≤ 4611686018427387904) (w : World) :
    Calls Try.prog 55 #[.int .u64 high, .int .u64 low, .int .u64 n] w fun e w' =>
      e = .returned (.tuple #[.int .u64 (rq (high * 18446744073709551616 + low) n), .int .i64 (rr (high * 18446744073709551616 + low) n)]) ∧ ∃ k, w' = w.drewN k := by
  have t0 : 0 ≤ high / n := Int.ediv_nonneg h0 (by omega)
  have t1 : high / n < 4611686018427387904 := by
    rw [Int.ediv_lt_iff_lt_mul n0]
    have := Int.mul_le_mul_of_nonneg_left (show 1 ≤ n by omega) (show (0 : Int) ≤ 4611686018427387904 by omega)
    omega
  have r0 : 0 ≤ high % n := Int.emod_nonneg _ (by omega)
  have r1 : high % n < n := Int.emod_lt_of_pos _ n0
  have d := Int.emod_add_mul_ediv high n
  have e1 : (high * 18446744073709551616 + low) = (high % n * 18446744073709551616 + low) + n * (high / n * 18446744073709551616) := by
    rw [← Int.mul_assoc]; omega
  have q1 : (high * 18446744073709551616 + low) / n = high / n * 18446744073709551616 + dq (high % n) low n := by
    unfold dq; rw [e1, Int.add_mul_ediv_left _ _ (by omega)]; omega
  have q2 : (high * 18446744073709551616 + low) % n = dr (high % n) low n := by
    unfold dr; rw [e1, Int.add_mul_emod_self_left]
  have b0 : 0 ≤ dq (high % n) low n := Int.ediv_nonneg (by omega) (by omega)
  have b1 : dq (high % n) low n < 18446744073709551616 := by unfold dq; rw [Int.ediv_lt_iff_lt_mul n0]; omega
  have c0 : 0 ≤ dr (high % n) low n := Int.emod_nonneg _ (by omega)
  have c1 : dr (high % n) low n < n := Int.emod_lt_of_pos _ n0
  unfold rq rr
  rw [q1, q2]
  obtain ⟨T, eT⟩ : ∃ T, high / n = T := ⟨_, rfl⟩
  obtain ⟨M, eM⟩ : ∃ M, high % n = M := ⟨_, rfl⟩
  rw [eT] at t0 t1 ⊢
  rw [eM] at r0 r1 b0 b1 c0 c1 ⊢
  obtain ⟨B, eB⟩ : ∃ B, dq M low n = B := ⟨_, rfl⟩
  obtain ⟨C, eC⟩ : ∃ C, dr M low n = C := ⟨_, rfl⟩
  rw [eB] at b0 b1 ⊢
  rw [eC] at c0 c1 ⊢
  obtain ⟨Q, eQ⟩ : ∃ Q, T * 18446744073709551616 + B = Q := ⟨_, rfl⟩
  rw [eQ]
  have s := Mth.rt_spec Q (by omega)
  have s0 := Mth.rt_nonneg Q
  have fr : ∀ w, Calls Try.prog 62 #[.int .u64 T, .int .u64 B] w fun e w' => e = .returned (.int .u64 (Mth.rt Q)) ∧ ∃ n, w' = w.drewN n := fun w => by
    have := root_any T B t0 t1 b0 b1 w
    rw [eQ] at this
    exact this
  have Fr := Lib.hid fr
  obtain ⟨r, er⟩ : ∃ r, Mth.rt Q = r := ⟨_, rfl⟩
  rw [er] at s s0 Fr ⊢
  have e2 : (r + 1) * (r + 1) = r * r + 2 * r + 1 := by simp only [Int.add_mul, Int.mul_add]; omega
  have r3 : r < 9223372036854775808 := by
    have := Mth.isq_le_of (r := r) (x := 9223372036854775807) s0 (by omega) (by omega)
    omega
  obtain ⟨O, eO⟩ : ∃ O, Q - r * r = O := ⟨_, rfl⟩
  rw [eO]
  have o0 : 0 ≤ O := by omega
  have ov : IntKind.u64.wrap (B - IntKind.u64.wrap (r * r)) = O := by
    simp only [IntKind.wrap_u64]; omega
  have nz : (n == 0) = false := beq_eq_false_iff_ne.2 (by omega)
  have dv : ∀ w, Calls Try.prog 61 #[.int .u64 M, .int .u64 low, .int .u64 n] w fun e w' => e = .returned (.tuple #[.int .u64 B, .int .u64 C]) ∧ ∃ n, w' = w.drewN n := fun w => by
    have := div64_any M low n r0 r1 l0 l1 (by omega) w
    rw [eB, eC] at this
    exact this
  have Dv := Lib.hid dv
  clear dv fr s e2 eO er eQ eB eC q1 q2 e1 d
  go_enter Try.func55, Try.ntmps55
  go_wp2
  go_quiet (fail)
  simp only [eT, eM]
  go_wp2_with (first | (go_at_call 61; refine (Dv.out _).mono ?_; rintro e w' ⟨rfl, k1, rfl⟩) | (go_at_call 62; refine (Fr.out _).mono ?_; rintro e w' ⟨rfl, k2, rfl⟩) | (go_at_call 63; refine (rootRest_any _ _ _ _ (by omega) (by omega) (by omega) (by omega) (by omega) _).mono ?_; rintro e w' ⟨rfl, rfl⟩))
  go_ret2
  exact ⟨rfl, _, rfl⟩

/-! ### Root, Sqrt, Over -/

def rtv (a b m : Int) : Int := if a < 0 ∨ b < 0 then 0 else Mth.rv m false (rq (a * b) 1) (rr (a * b) 1)
def rtok (a b m : Int) : Bool := if a < 0 ∨ b < 0 then false else Mth.rok m false (rq (a * b) 1) (rr (a * b) 1)

theorem rq_range (N n : Int) (h0 : 0 ≤ N) (hN : N < 85070591730234615865843651857942052864) (n0 : 0 < n) : 0 ≤ rq N n ∧ rq N n < 18446744073709551616 := by
  refine ⟨Mth.rt_nonneg _, ?_⟩
  unfold rq
  have q0 : 0 ≤ N / n := Int.ediv_nonneg h0 (by omega)
  have s := Mth.rt_spec (N / n) q0
  have q1 : N / n ≤ N := by
    have d := Int.emod_add_mul_ediv N n
    have := Int.emod_nonneg N (show n ≠ 0 by omega)
    have := Int.mul_le_mul_of_nonneg_right (show 1 ≤ n by omega) q0
    omega
  have := Mth.isq_le_of (r := Mth.rt (N / n)) (x := 9223372036854775807) (Mth.rt_nonneg _) (by omega) (by omega)
  omega

theorem root_any2 (a b m : Int) (a1 : -9223372036854775808 ≤ a) (a2 : a ≤ 9223372036854775807) (b1 : -9223372036854775808 ≤ b) (b2 : b ≤ 9223372036854775807) (w : World) :
    Calls Try.prog 48 #[.int .i64 a, .int .i64 b, .int .i64 m] w fun e w' => e = .returned (.tuple #[.int .i64 (rtv a b m), .bool (rtok a b m)]) ∧ ∃ n, w' = w.drewN n := by
  by_cases ca : a < 0
  · have e1 : rtv a b m = 0 := if_pos (.inl ca)
    have e2 : rtok a b m = false := if_pos (.inl ca)
    have da : decide (a < 0) = true := decide_eq_true ca
    rw [e1, e2]
    clear e1 e2
    go_enter Try.func48, Try.ntmps48
    go_wp2
    go_ret2
    exact ⟨rfl, 0, rfl⟩
  · have da : decide (a < 0) = false := decide_eq_false ca
    by_cases cb : b < 0
    · have e1 : rtv a b m = 0 := if_pos (.inr cb)
      have e2 : rtok a b m = false := if_pos (.inr cb)
      have db : decide (b < 0) = true := decide_eq_true cb
      rw [e1, e2]
      clear e1 e2
      go_enter Try.func48, Try.ntmps48
      go_wp2
      go_ret2
      exact ⟨rfl, 0, rfl⟩
    · have db : decide (b < 0) = false := decide_eq_false cb
      have e1 : rtv a b m = Mth.rv m false (rq (a * b) 1) (rr (a * b) 1) := if_neg (by omega)
      have e2 : rtok a b m = Mth.rok m false (rq (a * b) 1) (rr (a * b) 1) := if_neg (by omega)
      rw [e1, e2]
      have ga : Mth.mag a = a := if_neg ca
      have gb : Mth.mag b = b := if_neg cb
      have p0 : 0 ≤ a * b := Int.mul_nonneg (by omega) (by omega)
      have p1 : a * b ≤ 9223372036854775807 * 9223372036854775807 := Int.mul_le_mul a2 b2 (by omega) (by omega)
      obtain ⟨e, l0, l1⟩ := mul_split a b
      have h0 : 0 ≤ mulH a b := by omega
      have h1 : mulH a b < 4611686018427387904 := by omega
      obtain ⟨q0, q1⟩ := rq_range (a * b) 1 p0 (by omega) (by omega)
      have rn : 0 ≤ rr (a * b) 1 ∧ rr (a * b) 1 ≤ 3 := restR_range _ _ _ _
      obtain ⟨r0, r1⟩ := rn
      have ro : ∀ w, Calls Try.prog 55 #[.int .u64 (mulH a b), .int .u64 (mulL a b), .int .u64 1] w fun e w' =>
          e = .returned (.tuple #[.int .u64 (rq (a * b) 1), .int .i64 (rr (a * b) 1)]) ∧ ∃ k, w' = w.drewN k := fun w => by
        have := rootOf_any (mulH a b) (mulL a b) 1 h0 h1 l0 l1 (by omega) (by omega) w
        rw [← e] at this
        exact this
      have Ro := Lib.hid ro
      clear e1 e2 ro e
      generalize rq (a * b) 1 = Q at *
      generalize rr (a * b) 1 = R at *
      go_enter Try.func48, Try.ntmps48
      go_wp2_with (first | (go_at_call 51; refine (size_any _ (by omega) (by omega) _).mono ?_; rintro e w' ⟨rfl, rfl⟩) | (go_at_call 50; refine (mul64_any _ _ (by omega) (by omega) (by omega) (by omega) _).mono ?_; rintro e w' ⟨rfl, rfl⟩) | (go_at_call 55; refine (Ro.out _).mono ?_; rintro e w' ⟨rfl, n, rfl⟩) | (go_at_call 56; refine (round_any _ _ _ _ (by omega) (by omega) (by omega) (by omega) _).mono ?_; rintro e w' ⟨rfl, rfl⟩))
      go_ret2
      exact ⟨rfl, _, rfl⟩

theorem sqrt_any (n m : Int) (a1 : -9223372036854775808 ≤ n) (a2 : n ≤ 9223372036854775807) (w : World) :
    Calls Try.prog 42 #[.int .i64 n, .int .i64 m] w fun e w' => e = .returned (.tuple #[.int .i64 (rtv n 1 m), .bool (rtok n 1 m)]) ∧ ∃ k, w' = w.drewN k := by
  go_enter Try.func42, Try.ntmps42
  go_wp2_with (go_at_call 48; refine (root_any2 _ _ _ (by omega) (by omega) (by omega) (by omega) _).mono ?_; rintro e w' ⟨rfl, n, rfl⟩)
  go_ret2
  exact ⟨rfl, _, rfl⟩

end Go.Proofs.Ytlfkgnpbpmejkaa
