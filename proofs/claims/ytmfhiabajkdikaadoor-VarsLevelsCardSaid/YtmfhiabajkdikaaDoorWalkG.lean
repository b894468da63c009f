
/- The walks of wide.MulDiv, rootOf, Root, Sqrt and Over. -/
import Derived.Test.YtmfhiabajkdikaaDoorWalkB
import Derived.Test.YtmfhiabajkdikaaDoorWalkE
import Derived.Test.YtmfhiabajkdikaaDoorWalkF
set_option linter.unusedVariables false
set_option linter.unusedSimpArgs false
namespace Go.Proofs.YtmfhiabajkdikaaDoor
open Go.RowKit

theorem restQ_range (l d : Int) : 0 ≤ restQ l d ∧ restQ l d ≤ 3 := by unfold restQ; split <;> (try split) <;> (try split) <;> omega
theorem restR_range (q o l n : Int) : 0 ≤ restR q o l n ∧ restR q o l n ≤ 3 := by unfold restR; split <;> (try split) <;> (try split) <;> omega

/-- The sign of a quotient. -/
def ng (a b c : Int) : Bool := (decide (a < 0) != decide (b < 0)) != decide (c < 0)
/-- The quotient's floor and its rest. -/
def mq (a b c : Int) : Int := Mth.mag a * Mth.mag b / Mth.mag c
def mr (a b c : Int) : Int := restQ (Mth.mag a * Mth.mag b % Mth.mag c) (Mth.mag c)
def mdv (a b c m : Int) : Int := if c = 0 then 0 else Mth.rv m (ng a b c) (mq a b c) (mr a b c)
def mdok (a b c m : Int) : Bool := if c = 0 then false else Mth.rok m (ng a b c) (mq a b c) (mr a b c)

theorem rok_big (m : Int) (neg : Bool) (q r : Int) (hq : 18446744073709551616 ≤ q) : Mth.rv m neg q r = 0 ∧ Mth.rok m neg q r = false := by
  refine rok_false m neg q r _ rfl ?_
  unfold Mth.rnd
  cases neg
  · right; simp only [Bool.false_eq_true, if_false]; split <;> omega
  · left; simp only [if_true]; split <;> omega

/-- The floor of the root of a quotient, and its rest. -/
def rq (N n : Int) : Int := Mth.rt (N / n)
def rr (N n : Int) : Int := restR (Mth.rt (N / n)) (N / n - Mth.rt (N / n) * Mth.rt (N / n)) (N % n) n

theorem ret_ui {a b c d : Int} (h : a = b) (g : c = d) : Ending.returned (.tuple #[.int .u64 a, .int .i64 c]) = .returned (.tuple #[.int .u64 b, .int .i64 d]) := by rw [h, g]

/-! ### Root, Sqrt, Over -/

def rtv (a b m : Int) : Int := if a < 0 ∨ b < 0 then 0 else Mth.rv m false (rq (a * b) 1) (rr (a * b) 1)
def rtok (a b m : Int) : Bool := if a < 0 ∨ b < 0 then false else Mth.rok m false (rq (a * b) 1) (rr (a * b) 1)

theorem rq_range (N n : Int) (h0 : 0 ≤ N) (hN : N < 85070591730234615865843651857942052864) (n0 : 0 < n) : 0 ≤ rq N n ∧ rq N n < 18446744073709551616 := by
  refine ⟨Mth.rt_nonneg _, ?_⟩
  unfold rq
  have q0 : 0 ≤ N / n := Int.ediv_nonneg h0 (by omega)
  have s := Mth.rt_spec (N / n) q0
  have q1 : N / n ≤ N := by
    have d := Int.emod_add_mul_ediv N n
    have := Int.emod_nonneg N (show n ≠ 0 by omega)
    have := Int.mul_le_mul_of_nonneg_right (show 1 ≤ n by omega) q0
    omega
  have := Mth.isq_le_of (r := Mth.rt (N / n)) (x := 9223372036854775807) (Mth.rt_nonneg _) (by omega) (by omega)
  omega

end Go.Proofs.YtmfhiabajkdikaaDoor
