
/- The walks of root, Root and Sqrt of the specification of layer 1. -/
import Derived.Test.YtlfkgnpbpmejkaaRefG
set_option linter.unusedVariables false
set_option linter.unusedSimpArgs false
namespace Go.Proofs.Ytlfkgnpbpmejkaa
open Go.RowKit

theorem sq_le {a b : Int} (h0 : 0 ≤ a) (h : a ≤ b) : a * a ≤ b * b := Int.mul_le_mul h h h0 (by omega)

theorem rt_test (X q : Int) (hX : 0 ≤ X) (hq : 0 ≤ q) : cmpI (q * q) X ≤ 0 ↔ q ≤ Mth.rt X := by
  have s := Mth.rt_spec X hX
  have n := Mth.rt_nonneg X
  rw [cmpI_le]
  constructor
  · intro h; exact Mth.isq_le_of hq n (by omega)
  · intro h; have := sq_le hq h; omega

theorem rest_root (X : Int) (hX : 0 ≤ X) : RR (decide (cmpI (Mth.rt X * Mth.rt X) X = 0)) (if 0 < cmpI X (Mth.rt X * (Mth.rt X + 1)) then 1 else -1) (rr X 1) := by
  have n := Mth.rt_nonneg X
  have e : Mth.rt X * (Mth.rt X + 1) = Mth.rt X * Mth.rt X + Mth.rt X := by rw [Int.mul_add, Int.mul_one]
  rw [rr_one X hX, e]
  generalize Mth.rt X * Mth.rt X = S at *
  generalize Mth.rt X = r at *
  have c1 := cmpI_zero S X
  have c2 := cmpI_gt X (S + r)
  unfold RR
  by_cases z : X = S
  · left
    exact ⟨decide_eq_true (c1.2 z.symm), by rw [if_neg (fun h => by have := c2.1 h; omega)]; decide, if_pos z⟩
  · right
    refine ⟨decide_eq_false (fun h => z (c1.1 h).symm), ?_⟩
    rw [if_neg z]
    by_cases l : X ≤ S + r
    · left; exact ⟨by rw [if_neg (fun h => by have := c2.1 h; omega)]; decide, if_pos l⟩
    · right; right; exact ⟨by rw [if_pos (c2.2 (by omega))]; decide, if_neg l⟩

set_option maxHeartbeats 2000000 in
theorem refRootS (v : Value) (X : Int) (w : World) (hx : Num w v X) (hX : 0 ≤ X) (hX1 : X < 85070591730234615865843651857942052864) :
    Calls Try.prog 58 #[v] w fun e w' => ∃ ex hf, e = .returned (.tuple #[.int .u64 (Mth.rt X), .bool ex, .int .i64 hf]) ∧ RR ex hf (rr X 1) ∧ Qw w w' := by
  have rest := rest_root X hX
  have qt := fun q hq => rt_test X q hX hq
  have q0 := Mth.rt_nonneg X
  have q1 : Mth.rt X ≤ 9223372036854775807 := by
    have s := Mth.rt_spec X hX
    exact Mth.isq_le_of q0 (by omega) (by omega)
  obtain ⟨T, eT⟩ : ∃ T, Mth.rt X = T := ⟨_, rfl⟩
  rw [eT] at rest qt q0 q1 ⊢
  have Rest := Lib.hid rest; have Qt := Lib.hid qt
  clear rest qt eT
  have TT0 : 0 ≤ T * T := Int.mul_nonneg q0 q0
  have TT1 : T * T ≤ 9223372036854775807 * 9223372036854775807 := Int.mul_le_mul q1 q1 q0 (by omega)
  go_enter Try.func58, Try.ntmps58
  go_wp2_with fail
  go_loopw [5, 6] (fun qq ii wr => ∃ (q i : Int), qq = .int .u64 q ∧ ii = .int .i64 i ∧ -1 ≤ i ∧ i ≤ 62 ∧ BitK T (i + 1).toNat q ∧ Qw w wr) (fun _ ii _ => (intOf ii + 1).toNat)
  case atStart => exact ⟨0, 62, rfl, rfl, by decide, by decide, bit_start T 63 q0 (by omega), Qw.refl _⟩
  case round =>
    obtain ⟨q, i, rfl, rfl, i0, i1, hB, hq⟩ := hrel
    have hx3 := num_kept hx hq
    by_cases hi : i = -1
    · subst hi
      have eq : q = T := bit_end hB
      subst eq
      clear hB
      obtain ⟨K, eK⟩ : ∃ K, cmpI X (q * (q + 1)) = K := ⟨_, rfl⟩
      rw [eK] at Rest
      have EK := Lib.hid eK
      clear eK
      go_wp2_with fail
      refine (refLimbs q q0 (by omega) _).mono ?_
      rintro e w4 ⟨v4, rfl, h4, hq4⟩
      go_wp2_with fail
      refine (refLimbs (q + 1) (by omega) (by omega) _).mono ?_
      rintro e w5 ⟨v5, rfl, h5, hq5⟩
      go_wp2_with fail
      refine (mulN _ _ _ _ _ (num_kept h4 hq5) h5 (big_word (by omega)) (big_word (by omega))).mono ?_
      rintro e w6 ⟨v6, rfl, h6, hq6⟩
      have hqa := hq.trans ((hq4.trans hq5).trans hq6)
      go_wp2_with fail
      refine (refCmp _ _ _ _ _ (num_kept hx hqa) h6).mono ?_
      rintro e w7 ⟨rfl, hq7⟩
      rw [EK.out]
      have hqb := hqa.trans hq7
      clear hx3 hq h4 hq4 h5 hq5 h6 hq6 hqa hq7
      by_cases hk : 0 < K
      · have dk : decide (0 < K) = true := decide_eq_true hk
        have rest := Rest.out
        rw [if_pos hk] at rest
        have Rst := Lib.hid rest
        clear rest hk
        obtain ⟨J, eJ⟩ : ∃ J, cmpI (q * q) X = J := ⟨_, rfl⟩
        rw [eJ] at Rst
        have EJ := Lib.hid eJ
        clear eJ
        go_wp2_with fail
        refine (refLimbs q q0 (by omega) _).mono ?_
        rintro e w8 ⟨v8, rfl, h8, hq8⟩
        go_wp2_with fail
        refine (refLimbs q q0 (by omega) _).mono ?_
        rintro e w9 ⟨v9, rfl, h9, hq9⟩
        go_wp2_with fail
        refine (mulN _ _ _ _ _ (num_kept h8 hq9) h9 (big_word (by omega)) (big_word (by omega))).mono ?_
        rintro e w10 ⟨v10, rfl, h10, hq10⟩
        have hqc := hqb.trans ((hq8.trans hq9).trans hq10)
        go_wp2_with fail
        refine (refCmp _ _ _ _ _ h10 (num_kept hx hqc)).mono ?_
        rintro e w11 ⟨rfl, hq11⟩
        rw [EJ.out]
        have hqd := hqc.trans hq11
        clear h8 h9 h10 hq8 hq9 hq10 hq11 hqc hqb
        go_wp2_with fail
        go_ret3
        exact ⟨_, _, rfl, Rst.out, hqd⟩
      · have dk : decide (0 < K) = false := decide_eq_false hk
        have rest := Rest.out
        rw [if_neg hk] at rest
        have Rst := Lib.hid rest
        clear rest hk
        obtain ⟨J, eJ⟩ : ∃ J, cmpI (q * q) X = J := ⟨_, rfl⟩
        rw [eJ] at Rst
        have EJ := Lib.hid eJ
        clear eJ
        go_wp2_with fail
        refine (refLimbs q q0 (by omega) _).mono ?_
        rintro e w8 ⟨v8, rfl, h8, hq8⟩
        go_wp2_with fail
        refine (refLimbs q q0 (by omega) _).mono ?_
        rintro e w9 ⟨v9, rfl, h9, hq9⟩
        go_wp2_with fail
        refine (mulN _ _ _ _ _ (num_kept h8 hq9) h9 (big_word (by omega)) (big_word (by omega))).mono ?_
        rintro e w10 ⟨v10, rfl, h10, hq10⟩
        have hqc := hqb.trans ((hq8.trans hq9).trans hq10)
        go_wp2_with fail
        refine (refCmp _ _ _ _ _ h10 (num_kept hx hqc)).mono ?_
        rintro e w11 ⟨rfl, hq11⟩
        rw [EJ.out]
        have hqd := hqc.trans hq11
        clear h8 h9 h10 hq8 hq9 hq10 hq11 hqc hqb
        go_wp2_with fail
        go_ret3
        exact ⟨_, _, rfl, Rst.out, hqd⟩
    · obtain ⟨j, rfl⟩ := Int.eq_ofNat_of_zero_le (show 0 ≤ i by omega)
      have hB' : BitK T (j + 1) q := by rw [show ((j : Int) + 1).toNat = j + 1 from by omega] at hB; exact hB
      have jb : j < 63 := by omega
      have rm := bit_room hB' 63 jb (by omega)
      rw [show (2 : Int) ^ 63 = 9223372036854775808 from by decide] at rm
      have eO := bit_or hB' (by omega) (by omega)
      have yes := bit_yes hB'
      have no := bit_no hB'
      have q00 := hB'.1
      have p0 : (0 : Int) < 2 ^ j := Int.pow_pos (by decide)
      have p1 : 1 ≤ (2 : Int) ^ j := p0
      clear p0
      obtain ⟨P, eP⟩ : ∃ P, (2 : Int) ^ j = P := ⟨_, rfl⟩
      rw [eP] at eO rm yes no p1
      have p2 : P < 18446744073709551616 := by omega
      obtain ⟨N, eN⟩ : ∃ N, q + P = N := ⟨_, rfl⟩
      rw [eN] at eO rm yes no
      have N0 : 0 ≤ N := by omega
      have tst := Qt.out N N0
      have ND0 : 0 ≤ N * N := Int.mul_nonneg N0 N0
      have ND1 : N * N ≤ 9223372036854775807 * 9223372036854775807 := Int.mul_le_mul (by omega) (by omega) N0 (by omega)
      have Tst := Lib.hid tst; have Yes := Lib.hid yes; have No := Lib.hid no; have EN := Lib.hid eN
      clear tst yes no eN hB hB' hi
      obtain ⟨K, eK⟩ : ∃ K, cmpI (N * N) X = K := ⟨_, rfl⟩
      rw [eK] at Tst
      have EK := Lib.hid eK
      clear eK
      go_wp2_with fail
      refine (refLimbs N N0 (by omega) _).mono ?_
      rintro e w4 ⟨vq, rfl, hn4, hq4⟩
      go_wp2_with fail
      refine (mulN _ _ _ _ _ hn4 hn4 (big_word (by omega)) (big_word (by omega))).mono ?_
      rintro e w5 ⟨vy, rfl, hy5, hq5⟩
      have hx5 := num_kept hx3 (hq4.trans hq5)
      go_wp2_with fail
      refine (refCmp _ _ _ _ _ hy5 hx5).mono ?_
      rintro e w6 ⟨rfl, hq6⟩
      rw [EK.out]
      have hqr := hq.trans ((hq4.trans hq5).trans hq6)
      clear hx3 hn4 hy5 hx5 hq hq4 hq5 hq6
      by_cases hk : K ≤ 0
      · have dk : decide (K ≤ 0) = true := decide_eq_true hk
        have hB := Yes.out (Tst.out.1 hk)
        have HB := Lib.hid hB
        clear hB hk
        go_wp2_with fail
        go_roundw
        case rel => exact ⟨N, _, rfl, rfl, by omega, by omega, by rw [show ((j : Int) - 1 + 1).toNat = j from by omega]; exact HB.out, hqr⟩
        case measure => simp [intOf]
      · have dk : decide (K ≤ 0) = false := decide_eq_false hk
        have hB := No.out (by have := Tst.out; omega)
        have HB := Lib.hid hB
        clear hB hk
        go_wp2_with fail
        go_roundw
        case rel => exact ⟨q, _, rfl, rfl, by omega, by omega, by rw [show ((j : Int) - 1 + 1).toNat = j from by omega]; exact HB.out, hqr⟩
        case measure => simp [intOf]

set_option maxHeartbeats 1000000 in
theorem refRootW (a b m : Int) (a1 : -9223372036854775808 ≤ a) (a2 : a ≤ 9223372036854775807) (b1 : -9223372036854775808 ≤ b) (b2 : b ≤ 9223372036854775807) (w : World) :
    Calls Try.prog 49 #[.int .i64 a, .int .i64 b, .int .i64 m] w fun e w' => e = .returned (.tuple #[.int .i64 (rtv a b m), .bool (rtok a b m)]) ∧ Qw w w' := by
  by_cases ca : a < 0
  · have e1 : rtv a b m = 0 := if_pos (.inl ca)
    have e2 : rtok a b m = false := if_pos (.inl ca)
    have da : decide (a < 0) = true := decide_eq_true ca
    rw [e1, e2]
    clear e1 e2
    go_enter Try.func49, Try.ntmps49
    go_wp2_with fail
    go_ret2
    exact ⟨rfl, Qw.refl _⟩
  have da : decide (a < 0) = false := decide_eq_false ca
  by_cases cb : b < 0
  · have e1 : rtv a b m = 0 := if_pos (.inr cb)
    have e2 : rtok a b m = false := if_pos (.inr cb)
    have db : decide (b < 0) = true := decide_eq_true cb
    rw [e1, e2]
    clear e1 e2
    go_enter Try.func49, Try.ntmps49
    go_wp2_with fail
    go_ret2
    exact ⟨rfl, Qw.refl _⟩
  have db : decide (b < 0) = false := decide_eq_false cb
  by_cases hm : m < 0 ∨ 2 < m
  · rw [(rt_bad a b m hm).1, (rt_bad a b m hm).2]
    have ok : okm m = false := decide_eq_false (by omega)
    clear hm
    go_enter Try.func49, Try.ntmps49
    go_wp2_with (go_at_call 57; refine (refRight _ _).mono ?_; rintro e w' ⟨rfl, rfl⟩)
    go_ret2
    exact ⟨rfl, Qw.refl _⟩
  have ok : okm m = true := decide_eq_true (by omega)
  have e1 : rtv a b m = Mth.rv m false (rq (a * b) 1) (rr (a * b) 1) := if_neg (by omega)
  have e2 : rtok a b m = Mth.rok m false (rq (a * b) 1) (rr (a * b) 1) := if_neg (by omega)
  rw [e1, e2, rq_one]
  have ga : Mth.mag a = a := if_neg ca
  have gb : Mth.mag b = b := if_neg cb
  have p0 : 0 ≤ a * b := Int.mul_nonneg (by omega) (by omega)
  have p1 : a * b ≤ 9223372036854775807 * 9223372036854775807 := Int.mul_le_mul a2 b2 (by omega) (by omega)
  have prod := fun w => refProduct a b a1 a2 b1 b2 w
  rw [ga, gb] at prod
  have rq0 := Mth.rt_nonneg (a * b)
  have rq1 : Mth.rt (a * b) ≤ 9223372036854775807 := by
    have s := Mth.rt_spec (a * b) p0
    exact Mth.isq_le_of rq0 (by omega) (by omega)
  have rd := fun ex hf (h : RR ex hf (rr (a * b) 1)) w => refRounded false (Mth.rt (a * b)) ex hf m (rr (a * b) 1) rq0 (by omega) h (by omega) (by omega) w
  have rs := fun v w h => refRootS v (a * b) w h p0 (by omega)
  clear e1 e2 ga gb
  have Pr := Lib.hid prod; have Rd := Lib.hid rd; have Rs := Lib.hid rs
  clear prod rd rs hm
  generalize a * b = X at *
  go_enter Try.func49, Try.ntmps49
  go_wp2_with (go_at_call 57; refine (refRight _ _).mono ?_; rintro e w' ⟨rfl, rfl⟩)
  refine (Pr.out _).mono ?_
  rintro e w1 ⟨vx, rfl, hx1, hq1⟩
  go_wp2_with fail
  refine (Rs.out _ _ hx1).mono ?_
  rintro e w2 ⟨ex, hf, rfl, hrr, hq2⟩
  have Hr := Lib.hid hrr
  clear hrr
  go_wp2_with fail
  refine (Rd.out ex hf Hr.out _).mono ?_
  rintro e w3 ⟨rfl, rfl⟩
  go_wp2_with fail
  go_ret2
  exact ⟨rfl, hq1.trans hq2⟩

theorem refSqrtW (n m : Int) (a1 : -9223372036854775808 ≤ n) (a2 : n ≤ 9223372036854775807) (w : World) :
    Calls Try.prog 43 #[.int .i64 n, .int .i64 m] w fun e w' => e = .returned (.tuple #[.int .i64 (rtv n 1 m), .bool (rtok n 1 m)]) ∧ Qw w w' := by
  go_enter Try.func43, Try.ntmps43
  go_wp2_with fail
  refine (refRootW n 1 m a1 a2 (by omega) (by omega) _).mono ?_
  rintro e w1 ⟨rfl, hq1⟩
  go_wp2_with fail
  go_ret2
  exact ⟨rfl, hq1⟩

end Go.Proofs.Ytlfkgnpbpmejkaa
