
/- The walks of wide.MulDiv, rootOf, Root, Sqrt and Over. -/
import Derived.Test.YtijakijjeoaikaaWalkB
import Derived.Test.YtijakijjeoaikaaWalkE
import Derived.Test.YtijakijjeoaikaaWalkF
set_option linter.unusedVariables false
set_option linter.unusedSimpArgs false
namespace Go.Proofs.Ytijakijjeoaikaa
open Go.RowKit

theorem round_any (q r m : Int) (neg : Bool) (h0 : 0 ≤ q) (h1 : q < 18446744073709551616) (r0 : 0 ≤ r) (r3 : r ≤ 3) (w : World) :
    Calls Try.prog 61 #[.int .u64 q, .int .i64 r, .bool neg, .int .i64 m] w fun e w' =>
      e = .returned (.tuple #[.int .i64 (Mth.rv m neg q r), .bool (Mth.rok m neg q r)]) ∧ w = w' := by
  by_cases c : m < 0 ∨ 2 < m
  · exact round_none q r m neg c w
  · exact round_some q r m neg h0 h1 r0 r3 (by omega) (by omega) w

theorem restQ_range (l d : Int) : 0 ≤ restQ l d ∧ restQ l d ≤ 3 := by unfold restQ; split <;> (try split) <;> (try split) <;> omega
theorem restR_range (q o l n : Int) : 0 ≤ restR q o l n ∧ restR q o l n ≤ 3 := by unfold restR; split <;> (try split) <;> (try split) <;> omega

/-- The sign of a quotient. -/
def ng (a b c : Int) : Bool := (decide (a < 0) != decide (b < 0)) != decide (c < 0)
/-- The quotient's floor and its rest. -/
def mq (a b c : Int) : Int := Mth.mag a * Mth.mag b / Mth.mag c
def mr (a b c : Int) : Int := restQ (Mth.mag a * Mth.mag b % Mth.mag c) (Mth.mag c)
def mdv (a b c m : Int) : Int := if c = 0 then 0 else Mth.rv m (ng a b c) (mq a b c) (mr a b c)
def mdok (a b c m : Int) : Bool := if c = 0 then false else Mth.rok m (ng a b c) (mq a b c) (mr a b c)

theorem rok_big (m : Int) (neg : Bool) (q r : Int) (hq : 18446744073709551616 ≤ q) : Mth.rv m neg q r = 0 ∧ Mth.rok m neg q r = false := by
  refine rok_false m neg q r _ rfl ?_
  unfold Mth.rnd
  cases neg
  · right; simp only [Bool.false_eq_true, if_false]; split <;> omega
  · left; simp only [if_true]; split <;> omega

theorem muldiv_any (a b c m : Int) (a1 : -9223372036854775808 ≤ a) (a2 : a ≤ 9223372036854775807) (b1 : -9223372036854775808 ≤ b) (b2 : b ≤ 9223372036854775807)
    (c1 : -9223372036854775808 ≤ c) (c2 : c ≤ 9223372036854775807) (w : World) :
    Calls Try.prog 47 #[.int .i64 a, .int .i64 b, .int .i64 c, .int .i64 m] w fun e w' =>
      e = .returned (.tuple #[.int .i64 (mdv a b c m), .bool (mdok a b c m)]) ∧ ∃ n, w' = w.drewN n := by
  have ma := Mth.mag_le a a1 a2
  have mb := Mth.mag_le b b1 b2
  have mc := Mth.mag_le c c1 c2
  have na := Mth.mag_nonneg a
  have nb := Mth.mag_nonneg b
  have nc := Mth.mag_nonneg c
  have mm := mag_mul_le a b a1 a2 b1 b2
  have mn := Int.mul_nonneg na nb
  obtain ⟨e, l0, l1⟩ := mul_split (Mth.mag a) (Mth.mag b)
  obtain ⟨k0, k1⟩ := neg_word _ _ _ e l0 l1 mm mn
  obtain ⟨H, eH⟩ : ∃ H, mulH (Mth.mag a) (Mth.mag b) = H := ⟨_, rfl⟩
  obtain ⟨L, eL⟩ : ∃ L, mulL (Mth.mag a) (Mth.mag b) = L := ⟨_, rfl⟩
  rw [eH, eL] at e
  rw [eL] at l0 l1
  rw [eH] at k0 k1
  have He := Lib.hid e
  clear e mm mn
  by_cases cc : c = 0
  · have e1 : mdv a b c m = 0 := if_pos cc
    have e2 : mdok a b c m = false := if_pos cc
    rw [e1, e2]
    subst cc
    have m0 : Mth.mag 0 = 0 := rfl
    clear e1 e2
    go_enter Try.func47, Try.ntmps47
    go_wp2_with (first | (go_at_call 58; refine (size_any _ (by omega) (by omega) _).mono ?_; rintro e w' ⟨rfl, rfl⟩) | (go_at_call 59; refine (mul64_any _ _ (by omega) (by omega) (by omega) (by omega) _).mono ?_; rintro e w' ⟨rfl, rfl⟩))
    go_ret2
    exact ⟨rfl, 0, rfl⟩
  · have e1 : mdv a b c m = Mth.rv m (ng a b c) (mq a b c) (mr a b c) := if_neg cc
    have e2 : mdok a b c m = Mth.rok m (ng a b c) (mq a b c) (mr a b c) := if_neg cc
    rw [e1, e2]
    have pc : 0 < Mth.mag c := by unfold Mth.mag; split <;> omega
    clear e1 e2 cc
    by_cases ch : Mth.mag c ≤ H
    · have big : 18446744073709551616 ≤ mq a b c := by
        unfold mq
        rw [Int.le_ediv_iff_mul_le pc]
        have := He.out
        omega
      obtain ⟨e1, e2⟩ := rok_big m (ng a b c) (mq a b c) (mr a b c) big
      rw [e1, e2]
      clear e1 e2 big
      go_enter Try.func47, Try.ntmps47
      go_wp2_with (first | (go_at_call 58; refine (size_any _ (by omega) (by omega) _).mono ?_; rintro e w' ⟨rfl, rfl⟩) | (go_at_call 59; refine (mul64_any _ _ (by omega) (by omega) (by omega) (by omega) _).mono ?_; rintro e w' ⟨rfl, rfl⟩))
      go_ret2
      exact ⟨rfl, 0, rfl⟩
    · have q1 : dq H L (Mth.mag c) = mq a b c := by unfold dq mq; rw [← He.out]
      have r1 : dr H L (Mth.mag c) = Mth.mag a * Mth.mag b % Mth.mag c := by unfold dr; rw [← He.out]
      have r2 : restQ (dr H L (Mth.mag c)) (Mth.mag c) = mr a b c := by rw [r1]; rfl
      have q2 : 0 ≤ dq H L (Mth.mag c) := Int.ediv_nonneg (by omega) (by omega)
      have q3 : dq H L (Mth.mag c) < 18446744073709551616 := by
        unfold dq; rw [Int.ediv_lt_iff_lt_mul pc]; omega
      have r3 : 0 ≤ dr H L (Mth.mag c) := Int.emod_nonneg _ (by omega)
      have r4 : dr H L (Mth.mag c) < Mth.mag c := Int.emod_lt_of_pos _ pc
      obtain ⟨r5, r6⟩ := restQ_range (dr H L (Mth.mag c)) (Mth.mag c)
      rw [q1] at q2 q3
      rw [r2] at r5 r6
      have en : ((decide (a < 0) != decide (b < 0)) != decide (c < 0)) = ng a b c := rfl
      generalize mq a b c = Q at *
      generalize mr a b c = R at *
      generalize ng a b c = N at *
      obtain ⟨A, eA⟩ : ∃ A, decide (a < 0) = A := ⟨_, rfl⟩
      obtain ⟨B, eB⟩ : ∃ B, decide (b < 0) = B := ⟨_, rfl⟩
      obtain ⟨C, eC⟩ : ∃ C, decide (c < 0) = C := ⟨_, rfl⟩
      rw [eA, eB, eC] at en
      have en' : (!((!(A == B)) == C)) = N := by rw [← en]; cases A <;> cases B <;> cases C <;> rfl
      clear r1 en
      go_enter Try.func47, Try.ntmps47
      go_wp2_with (first | (go_at_call 58; refine (size_any _ (by omega) (by omega) _).mono ?_; rintro e w' ⟨rfl, rfl⟩) | (go_at_call 59; refine (mul64_any _ _ (by omega) (by omega) (by omega) (by omega) _).mono ?_; rintro e w' ⟨rfl, rfl⟩) | (go_at_call 60; refine (div64_any _ _ _ (by omega) (by omega) (by omega) (by omega) (by omega) _).mono ?_; rintro e w' ⟨rfl, n, rfl⟩) | (go_at_call 62; refine (restOf_any _ _ (by omega) (by omega) (by omega) _).mono ?_; rintro e w' ⟨rfl, rfl⟩) | (go_at_call 61; refine (round_any _ _ _ _ (by omega) (by omega) (by omega) (by omega) _).mono ?_; rintro e w' ⟨rfl, rfl⟩))
      go_ret2
      exact ⟨rfl, _, rfl⟩

/-- The floor of the root of a quotient, and its rest. -/
def rq (N n : Int) : Int := Mth.rt (N / n)
def rr (N n : Int) : Int := restR (Mth.rt (N / n)) (N / n - Mth.rt (N / n) * Mth.rt (N / n)) (N % n) n

theorem ret_ui {a b c d : Int} (h : a = b) (g : c = d) : Ending.returned (.tuple #[.int .u64 a, .int .i64 c]) = .returned (.tuple #[.int .u64 b, .int .i64 d]) := by rw [h, g]

/-! ### Root, Sqrt, Over -/

def rtv (a b m : Int) : Int := if a < 0 ∨ b < 0 then 0 else Mth.rv m false (rq (a * b) 1) (rr (a * b) 1)
def rtok (a b m : Int) : Bool := if a < 0 ∨ b < 0 then false else Mth.rok m false (rq (a * b) 1) (rr (a * b) 1)

theorem rq_range (N n : Int) (h0 : 0 ≤ N) (hN : N < 85070591730234615865843651857942052864) (n0 : 0 < n) : 0 ≤ rq N n ∧ rq N n < 18446744073709551616 := by
  refine ⟨Mth.rt_nonneg _, ?_⟩
  unfold rq
  have q0 : 0 ≤ N / n := Int.ediv_nonneg h0 (by omega)
  have s := Mth.rt_spec (N / n) q0
  have q1 : N / n ≤ N := by
    have d := Int.emod_add_mul_ediv N n
    have := Int.emod_nonneg N (show n ≠ 0 by omega)
    have := Int.mul_le_mul_of_nonneg_right (show 1 ≤ n by omega) q0
    omega
  have := Mth.isq_le_of (r := Mth.rt (N / n)) (x := 9223372036854775807) (Mth.rt_nonneg _) (by omega) (by omega)
  omega

end Go.Proofs.Ytijakijjeoaikaa
