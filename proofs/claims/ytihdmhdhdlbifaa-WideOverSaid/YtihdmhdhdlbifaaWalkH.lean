/- The walk of wide.Over. -/
import Derived.Test.YtihdmhdhdlbifaaWalkG
set_option linter.unusedVariables false
set_option linter.unusedSimpArgs false
namespace Go.Proofs.Ytihdmhdhdlbifaa
open Go.RowKit

/-- The sign of a product. -/
def sg (a b : Int) : Bool := decide (a < 0) != decide (b < 0)
/-- The square of a product of sizes. -/
def psq (a b : Int) : Int := Mth.mag a * Mth.mag b * (Mth.mag a * Mth.mag b)
def OvBad (a b n : Int) : Prop := 2147483648 < Mth.mag a ∨ 2147483648 < Mth.mag b ∨ n < 1 ∨ 4611686018427387904 < n
instance (a b n : Int) : Decidable (OvBad a b n) := by unfold OvBad; infer_instance
def ovv (a b n m : Int) : Int := if OvBad a b n then 0 else Mth.rv m (sg a b) (rq (psq a b) n) (rr (psq a b) n)
def ovok (a b n m : Int) : Bool := if OvBad a b n then false else Mth.rok m (sg a b) (rq (psq a b) n) (rr (psq a b) n)

theorem over_any (a b n m : Int) (a1 : -9223372036854775808 ≤ a) (a2 : a ≤ 9223372036854775807) (b1 : -9223372036854775808 ≤ b) (b2 : b ≤ 9223372036854775807)
    (n1 : -9223372036854775808 ≤ n) (n2 : n ≤ 9223372036854775807) (w : World) :
    Calls Try.prog 27 #[.int .i64 a, .int .i64 b, .int .i64 n, .int .i64 m] w fun e w' =>
      e = .returned (.tuple #[.int .i64 (ovv a b n m), .bool (ovok a b n m)]) ∧ ∃ k, w' = w.drewN k := by
  have na := Mth.mag_nonneg a
  have nb := Mth.mag_nonneg b
  have ma := Mth.mag_le a a1 a2
  have mb := Mth.mag_le b b1 b2
  by_cases ca : 2147483648 < Mth.mag a
  · have e1 : ovv a b n m = 0 := if_pos (Or.inl ca)
    have e2 : ovok a b n m = false := if_pos (Or.inl ca)
    have da : decide (2147483648 < Mth.mag a) = true := decide_eq_true ca
    rw [e1, e2]
    clear e1 e2
    go_enter Try.func27, Try.ntmps27
    go_wp2_with (go_at_call 37; refine (size_any _ (by omega) (by omega) _).mono ?_; rintro e w' ⟨rfl, rfl⟩)
    go_ret2
    exact ⟨rfl, 0, rfl⟩
  have da : decide (2147483648 < Mth.mag a) = false := decide_eq_false ca
  by_cases cb : 2147483648 < Mth.mag b
  · have e1 : ovv a b n m = 0 := if_pos (Or.inr (Or.inl cb))
    have e2 : ovok a b n m = false := if_pos (Or.inr (Or.inl cb))
    have db : decide (2147483648 < Mth.mag b) = true := decide_eq_true cb
    rw [e1, e2]
    clear e1 e2
    go_enter Try.func27, Try.ntmps27
    go_wp2_with (go_at_call 37; refine (size_any _ (by omega) (by omega) _).mono ?_; rintro e w' ⟨rfl, rfl⟩)
    go_ret2
    exact ⟨rfl, 0, rfl⟩
  have db : decide (2147483648 < Mth.mag b) = false := decide_eq_false cb
  by_cases cn : n < 1
  · have e1 : ovv a b n m = 0 := if_pos (Or.inr (Or.inr (Or.inl cn)))
    have e2 : ovok a b n m = false := if_pos (Or.inr (Or.inr (Or.inl cn)))
    have dn : decide (n < 1) = true := decide_eq_true cn
    rw [e1, e2]
    clear e1 e2
    go_enter Try.func27, Try.ntmps27
    go_wp2_with (go_at_call 37; refine (size_any _ (by omega) (by omega) _).mono ?_; rintro e w' ⟨rfl, rfl⟩)
    go_ret2
    exact ⟨rfl, 0, rfl⟩
  have dn : decide (n < 1) = false := decide_eq_false cn
  by_cases cm : 4611686018427387904 < n
  · have e1 : ovv a b n m = 0 := if_pos (Or.inr (Or.inr (Or.inr cm)))
    have e2 : ovok a b n m = false := if_pos (Or.inr (Or.inr (Or.inr cm)))
    have dm : decide (4611686018427387904 < n) = true := decide_eq_true cm
    rw [e1, e2]
    clear e1 e2
    go_enter Try.func27, Try.ntmps27
    go_wp2_with (go_at_call 37; refine (size_any _ (by omega) (by omega) _).mono ?_; rintro e w' ⟨rfl, rfl⟩)
    go_ret2
    exact ⟨rfl, 0, rfl⟩
  have dm : decide (4611686018427387904 < n) = false := decide_eq_false cm
  have nbad : ¬ OvBad a b n := by unfold OvBad; omega
  have e1 : ovv a b n m = Mth.rv m (sg a b) (rq (psq a b) n) (rr (psq a b) n) := if_neg nbad
  have e2 : ovok a b n m = Mth.rok m (sg a b) (rq (psq a b) n) (rr (psq a b) n) := if_neg nbad
  rw [e1, e2]
  have gn : Mth.mag n = n := if_neg (by omega)
  have f0 : 0 ≤ Mth.mag a * Mth.mag b := Int.mul_nonneg na nb
  have f1 : Mth.mag a * Mth.mag b ≤ 4611686018427387904 := Int.mul_le_mul (show Mth.mag a ≤ 2147483648 by omega) (show Mth.mag b ≤ 2147483648 by omega) nb (by omega)
  have p0 : 0 ≤ psq a b := Int.mul_nonneg f0 f0
  have p1 : psq a b ≤ 4611686018427387904 * 4611686018427387904 := Int.mul_le_mul f1 f1 f0 (by omega)
  obtain ⟨F, eF⟩ : ∃ F, Mth.mag a * Mth.mag b = F := ⟨_, rfl⟩
  have eP : psq a b = F * F := by unfold psq; rw [eF]
  rw [eF] at f0 f1
  rw [eP] at p0 p1 ⊢
  obtain ⟨e, l0, l1⟩ := mul_split F F
  have h0 : 0 ≤ mulH F F := by omega
  have h1 : mulH F F < 4611686018427387904 := by omega
  obtain ⟨q0, q1⟩ := rq_range (F * F) n p0 (by omega) (by omega)
  have rn : 0 ≤ rr (F * F) n ∧ rr (F * F) n ≤ 3 := restR_range _ _ _ _
  obtain ⟨r0, r1⟩ := rn
  have ro : ∀ w, Calls Try.prog 48 #[.int .u64 (mulH F F), .int .u64 (mulL F F), .int .u64 n] w fun e w' =>
      e = .returned (.tuple #[.int .u64 (rq (F * F) n), .int .i64 (rr (F * F) n)]) ∧ ∃ k, w' = w.drewN k := fun w => by
    have := rootOf_any (mulH F F) (mulL F F) n h0 h1 l0 l1 (by omega) (by omega) w
    rw [← e] at this
    exact this
  have Ro := Lib.hid ro
  have es : (decide (a < 0) != decide (b < 0)) = sg a b := rfl
  clear e1 e2 ro e eP p0 p1 nbad
  generalize rq (F * F) n = Q at *
  generalize rr (F * F) n = R at *
  generalize sg a b = N at *
  obtain ⟨A, eA⟩ : ∃ A, decide (a < 0) = A := ⟨_, rfl⟩
  obtain ⟨B, eB⟩ : ∃ B, decide (b < 0) = B := ⟨_, rfl⟩
  rw [eA, eB] at es
  have es' : (!(A == B)) = N := by rw [← es]; cases A <;> cases B <;> rfl
  clear es
  go_enter Try.func27, Try.ntmps27
  go_wp2_with (first | (go_at_call 37; refine (size_any _ (by omega) (by omega) _).mono ?_; rintro e w' ⟨rfl, rfl⟩) | (go_at_call 38; refine (mul64_any _ _ (by omega) (by omega) (by omega) (by omega) _).mono ?_; rintro e w' ⟨rfl, rfl⟩) | (go_at_call 48; refine (Ro.out _).mono ?_; rintro e w' ⟨rfl, n, rfl⟩) | (go_at_call 40; refine (round_any _ _ _ _ (by omega) (by omega) (by omega) (by omega) _).mono ?_; rintro e w' ⟨rfl, rfl⟩))
  go_ret2
  exact ⟨rfl, _, rfl⟩

end Go.Proofs.Ytihdmhdhdlbifaa
