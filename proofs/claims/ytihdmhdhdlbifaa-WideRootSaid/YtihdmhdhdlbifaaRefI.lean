/- The walk of Over of the specification of layer 1. -/
import Derived.Test.YtihdmhdhdlbifaaRefH
set_option linter.unusedVariables false
set_option linter.unusedSimpArgs false
namespace Go.Proofs.Ytihdmhdhdlbifaa
open Go.RowKit

theorem rq_test (N n q : Int) (hN : 0 ≤ N) (hn : 0 < n) (hq : 0 ≤ q) : cmpI (q * q * n) N ≤ 0 ↔ q ≤ rq N n := by
  have h0 := Int.ediv_nonneg hN (Int.le_of_lt hn)
  have t := rt_test (N / n) q h0 hq
  unfold rq
  rw [← t, cmpI_le, cmpI_le, Int.le_ediv_iff_mul_le hn]

theorem rest_over (N n : Int) (hN : 0 ≤ N) (hn : 0 < n) :
    RR (decide (cmpI (rq N n * rq N n * n) N = 0)) (cmpI (4 * N) ((2 * rq N n + 1) * (2 * rq N n + 1) * n)) (rr N n) := by
  have h0 := Int.ediv_nonneg hN (Int.le_of_lt hn)
  have s := Mth.rt_spec (N / n) h0
  have r0 := Mth.rt_nonneg (N / n)
  have d := Int.emod_add_mul_ediv N n
  have l0 := Int.emod_nonneg N (show n ≠ 0 by omega)
  have l1 := Int.emod_lt_of_pos N hn
  unfold rr
  change RR (decide (cmpI (Mth.rt (N / n) * Mth.rt (N / n) * n) N = 0)) (cmpI (4 * N) ((2 * Mth.rt (N / n) + 1) * (2 * Mth.rt (N / n) + 1) * n)) _
  generalize N / n = Q at *
  generalize N % n = l at *
  generalize Mth.rt Q = q at *
  have e1 : (2 * q + 1) * (2 * q + 1) * n = 4 * (q * q * n) + 4 * (q * n) + n := by
    have : (2 * q + 1) * (2 * q + 1) = 4 * (q * q) + 4 * q + 1 := by
      simp only [Int.add_mul, Int.mul_add, Int.mul_one, Int.one_mul]
      have : 2 * q * (2 * q) = 4 * (q * q) := by rw [Int.mul_assoc, Int.mul_left_comm q 2 q]; omega
      omega
    rw [this, Int.add_mul, Int.add_mul, Int.mul_assoc 4, Int.mul_assoc 4]; omega
  obtain ⟨O, eO⟩ : ∃ O, Q - q * q = O := ⟨_, rfl⟩
  have eQ : n * Q = q * q * n + O * n := by
    rw [← eO, Int.sub_mul, Int.mul_comm n Q]; omega
  rw [e1, eO]
  have o0 : 0 ≤ O := by omega
  have c1 := cmpI_zero (q * q * n) N
  have c2 := cmpI_lt (4 * N) (4 * (q * q * n) + 4 * (q * n) + n)
  have c3 := cmpI_zero (4 * N) (4 * (q * q * n) + 4 * (q * n) + n)
  have c4 := cmpI_gt (4 * N) (4 * (q * q * n) + 4 * (q * n) + n)
  -- O against q, times n
  have lt : O < q → O * n + n ≤ q * n := fun h => by
    have := Int.mul_le_mul_of_nonneg_right (show O + 1 ≤ q by omega) (Int.le_of_lt hn)
    rw [Int.add_mul, Int.one_mul] at this; exact this
  have gt : q < O → q * n + n ≤ O * n := fun h => by
    have := Int.mul_le_mul_of_nonneg_right (show q + 1 ≤ O by omega) (Int.le_of_lt hn)
    rw [Int.add_mul, Int.one_mul] at this; exact this
  have eqn : O = q → O * n = q * n := fun h => by rw [h]
  have on0 : 0 ≤ O * n := Int.mul_nonneg o0 (Int.le_of_lt hn)
  have qn0 : 0 ≤ q * n := Int.mul_nonneg r0 (Int.le_of_lt hn)
  have oz : O = 0 → O * n = 0 := fun h => by rw [h]; exact Int.zero_mul _
  have onz : O ≠ 0 → n ≤ O * n := fun h => by
    have := Int.mul_le_mul_of_nonneg_right (show 1 ≤ O by omega) (Int.le_of_lt hn)
    rw [Int.one_mul] at this; exact this
  generalize q * q * n = A at *
  generalize q * n = B at *
  generalize O * n = C at *
  unfold RR restR
  by_cases z : O = 0 ∧ l = 0
  · left
    have := oz z.1
    exact ⟨decide_eq_true (c1.2 (by omega)), c2.2 (by omega), if_pos z⟩
  · right
    rw [if_neg z]
    refine ⟨decide_eq_false (fun h => z ?_), ?_⟩
    · have := c1.1 h
      by_cases o : O = 0
      · have := oz o; exact ⟨o, by omega⟩
      · have := onz o; omega
    · by_cases b : O < q ∨ O = q ∧ 4 * l < n
      · left
        refine ⟨c2.2 ?_, if_pos b⟩
        rcases b with b | ⟨b, b2⟩
        · have := lt b; omega
        · have := eqn b; omega
      · rw [if_neg b]
        by_cases h : O = q ∧ 4 * l = n
        · right; left
          have := eqn h.1
          exact ⟨c3.2 (by omega), if_pos h⟩
        · right; right
          refine ⟨c4.2 ?_, if_neg h⟩
          by_cases g : O = q
          · have := eqn g; omega
          · have := gt (by omega); omega

theorem over_sign (m a b n : Int) : Mth.rnd m (decide (a * b < 0)) (rq (psq a b) n) (rr (psq a b) n) = Mth.rnd m (sg a b) (rq (psq a b) n) (rr (psq a b) n) := by
  by_cases z : a * b = 0
  · have e : psq a b = 0 := by unfold psq; rw [mag_mul, z]; rfl
    have q : rq 0 n = 0 := by unfold rq; rw [Int.zero_ediv]; rfl
    have r : rr 0 n = 0 := by unfold rr; rw [Int.zero_ediv, Int.zero_emod]; rfl
    rw [e, q, r, rnd_exact, rnd_exact]; simp
  · have e : decide (a * b < 0) = sg a b := by
      unfold sg
      have ha : a ≠ 0 := fun h => z (by rw [h]; simp)
      have hb : b ≠ 0 := fun h => z (by rw [h]; simp)
      rcases Int.lt_or_le a 0 with pa | pa <;> rcases Int.lt_or_le b 0 with pb | pb
      · have := Int.mul_pos_of_neg_of_neg pa pb
        rw [decide_eq_true pa, decide_eq_true pb, decide_eq_false (by omega)]; rfl
      · have := Int.mul_neg_of_neg_of_pos pa (show 0 < b by omega)
        rw [decide_eq_true pa, decide_eq_false (show ¬ b < 0 by omega), decide_eq_true (by omega)]; rfl
      · have := Int.mul_neg_of_pos_of_neg (show 0 < a by omega) pb
        rw [decide_eq_false (show ¬ a < 0 by omega), decide_eq_true pb, decide_eq_true (by omega)]; rfl
      · have := Int.mul_pos (show 0 < a by omega) (show 0 < b by omega)
        rw [decide_eq_false (show ¬ a < 0 by omega), decide_eq_false (show ¬ b < 0 by omega), decide_eq_false (by omega)]; rfl
    rw [e]

theorem over_rok (m a b n : Int) : Mth.rok m (decide (a * b < 0)) (rq (psq a b) n) (rr (psq a b) n) = Mth.rok m (sg a b) (rq (psq a b) n) (rr (psq a b) n) := by
  unfold Mth.rok; rw [over_sign]
theorem over_rv (m a b n : Int) : Mth.rv m (decide (a * b < 0)) (rq (psq a b) n) (rr (psq a b) n) = Mth.rv m (sg a b) (rq (psq a b) n) (rr (psq a b) n) := by
  unfold Mth.rv; rw [over_rok, over_sign]

set_option maxHeartbeats 4000000 in
theorem refOverW (a b n m : Int) (a1 : -9223372036854775808 ≤ a) (a2 : a ≤ 9223372036854775807) (b1 : -9223372036854775808 ≤ b) (b2 : b ≤ 9223372036854775807)
    (n1 : -9223372036854775808 ≤ n) (n2 : n ≤ 9223372036854775807) (w : World) :
    Calls Try.prog 28 #[.int .i64 a, .int .i64 b, .int .i64 n, .int .i64 m] w fun e w' => e = .returned (.tuple #[.int .i64 (ovv a b n m), .bool (ovok a b n m)]) ∧ Qw w w' := by
  have na := Mth.mag_nonneg a
  have nb := Mth.mag_nonneg b
  have ma := Mth.mag_le a a1 a2
  have mb := Mth.mag_le b b1 b2
  have lma := fun w => refMag a a1 a2 w
  have lmb := fun w => refMag b b1 b2 w
  have Lma := Lib.hid lma; have Lmb := Lib.hid lmb
  clear lma lmb
  by_cases ca : 2147483648 < Mth.mag a
  · have e1 : ovv a b n m = 0 := if_pos (Or.inl ca)
    have e2 : ovok a b n m = false := if_pos (Or.inl ca)
    have d1 : decide (2147483648 < Mth.mag a) = true := decide_eq_true ca
    rw [e1, e2]
    clear e1 e2
    go_enter Try.func28, Try.ntmps28
    go_wp2_with (go_at_call 44; first | ((with_reducible refine (Lma.out _).mono ?_); rintro e w' ⟨rfl, rfl⟩) | ((with_reducible refine (Lmb.out _).mono ?_); rintro e w' ⟨rfl, rfl⟩))
    go_ret2
    exact ⟨rfl, Qw.refl _⟩
  have da : decide (2147483648 < Mth.mag a) = false := decide_eq_false ca
  by_cases cb : 2147483648 < Mth.mag b
  · have e1 : ovv a b n m = 0 := if_pos (Or.inr (Or.inl cb))
    have e2 : ovok a b n m = false := if_pos (Or.inr (Or.inl cb))
    have d1 : decide (2147483648 < Mth.mag b) = true := decide_eq_true cb
    rw [e1, e2]
    clear e1 e2
    go_enter Try.func28, Try.ntmps28
    go_wp2_with (go_at_call 44; first | ((with_reducible refine (Lma.out _).mono ?_); rintro e w' ⟨rfl, rfl⟩) | ((with_reducible refine (Lmb.out _).mono ?_); rintro e w' ⟨rfl, rfl⟩))
    go_ret2
    exact ⟨rfl, Qw.refl _⟩
  have db : decide (2147483648 < Mth.mag b) = false := decide_eq_false cb
  by_cases cn : n < 1
  · have e1 : ovv a b n m = 0 := if_pos (Or.inr (Or.inr (Or.inl cn)))
    have e2 : ovok a b n m = false := if_pos (Or.inr (Or.inr (Or.inl cn)))
    have d1 : decide (n < 1) = true := decide_eq_true cn
    rw [e1, e2]
    clear e1 e2
    go_enter Try.func28, Try.ntmps28
    go_wp2_with (go_at_call 44; first | ((with_reducible refine (Lma.out _).mono ?_); rintro e w' ⟨rfl, rfl⟩) | ((with_reducible refine (Lmb.out _).mono ?_); rintro e w' ⟨rfl, rfl⟩))
    go_ret2
    exact ⟨rfl, Qw.refl _⟩
  have dn : decide (n < 1) = false := decide_eq_false cn
  by_cases cm : 4611686018427387904 < n
  · have e1 : ovv a b n m = 0 := if_pos (Or.inr (Or.inr (Or.inr cm)))
    have e2 : ovok a b n m = false := if_pos (Or.inr (Or.inr (Or.inr cm)))
    have d1 : decide (4611686018427387904 < n) = true := decide_eq_true cm
    rw [e1, e2]
    clear e1 e2
    go_enter Try.func28, Try.ntmps28
    go_wp2_with (go_at_call 44; first | ((with_reducible refine (Lma.out _).mono ?_); rintro e w' ⟨rfl, rfl⟩) | ((with_reducible refine (Lmb.out _).mono ?_); rintro e w' ⟨rfl, rfl⟩))
    go_ret2
    exact ⟨rfl, Qw.refl _⟩
  have dm : decide (4611686018427387904 < n) = false := decide_eq_false cm
  by_cases hm : m < 0 ∨ 2 < m
  · rw [(ov_bad a b n m hm).1, (ov_bad a b n m hm).2]
    have ok : okm m = false := decide_eq_false (by omega)
    clear hm
    go_enter Try.func28, Try.ntmps28
    go_wp2_with (first | (go_at_call 42; refine (refRight _ _).mono ?_; rintro e w' ⟨rfl, rfl⟩) | (go_at_call 44; first | ((with_reducible refine (Lma.out _).mono ?_); rintro e w' ⟨rfl, rfl⟩) | ((with_reducible refine (Lmb.out _).mono ?_); rintro e w' ⟨rfl, rfl⟩)))
    go_ret2
    exact ⟨rfl, Qw.refl _⟩
  have ok : okm m = true := decide_eq_true (by omega)
  have nbad : ¬ OvBad a b n := by unfold OvBad; omega
  have e1 : ovv a b n m = Mth.rv m (decide (a * b < 0)) (rq (psq a b) n) (rr (psq a b) n) := by rw [over_rv]; exact if_neg nbad
  have e2 : ovok a b n m = Mth.rok m (decide (a * b < 0)) (rq (psq a b) n) (rr (psq a b) n) := by rw [over_rok]; exact if_neg nbad
  rw [e1, e2]
  have sg' := sgn_lt a b
  have f0 : 0 ≤ Mth.mag a * Mth.mag b := Int.mul_nonneg na nb
  have f1 : Mth.mag a * Mth.mag b ≤ 4611686018427387904 := Int.mul_le_mul (show Mth.mag a ≤ 2147483648 by omega) (show Mth.mag b ≤ 2147483648 by omega) nb (by omega)
  have p0 : 0 ≤ psq a b := Int.mul_nonneg f0 f0
  have p1 : psq a b ≤ 4611686018427387904 * 4611686018427387904 := Int.mul_le_mul f1 f1 f0 (by omega)
  have prod := fun w => refProduct a b a1 a2 b1 b2 w
  obtain ⟨F, eF⟩ : ∃ F, Mth.mag a * Mth.mag b = F := ⟨_, rfl⟩
  have eP : psq a b = F * F := by unfold psq; rw [eF]
  rw [eF] at f0 f1 prod
  rw [eP] at p0 p1 ⊢
  have qt := fun q hq => rq_test (F * F) n q p0 (by omega) hq
  have rest := rest_over (F * F) n p0 (by omega)
  have q0 : 0 ≤ rq (F * F) n := Mth.rt_nonneg _
  have q1 : rq (F * F) n ≤ 4611686018427387904 := by
    have h0 := Int.ediv_nonneg p0 (show 0 ≤ n by omega)
    have h1 : F * F / n ≤ F * F := by
      have d := Int.emod_add_mul_ediv (F * F) n
      have := Int.emod_nonneg (F * F) (show n ≠ 0 by omega)
      have := Int.mul_le_mul_of_nonneg_right (show 1 ≤ n by omega) h0
      omega
    have s := Mth.rt_spec (F * F / n) h0
    exact Mth.isq_le_of (r := Mth.rt (F * F / n)) (Mth.rt_nonneg _) (by omega) (by omega)
  obtain ⟨T, eT⟩ : ∃ T, rq (F * F) n = T := ⟨_, rfl⟩
  rw [eT] at qt rest q0 q1 ⊢
  obtain ⟨H, eH⟩ : ∃ H, rr (F * F) n = H := ⟨_, rfl⟩
  rw [eH] at rest ⊢
  have rd := fun ex hf (h : RR ex hf H) w => refRounded (decide (a * b < 0)) T ex hf m H q0 (by omega) h (by omega) (by omega) w
  generalize decide (a * b < 0) = sn at *
  have Pr := Lib.hid prod; have Rd := Lib.hid rd; have Qt := Lib.hid qt; have Rest := Lib.hid rest
  clear prod rd qt rest eT eH eP eF e1 e2 nbad hm
  obtain ⟨X, eX⟩ : ∃ X, F * F = X := ⟨_, rfl⟩
  rw [eX] at p0 p1 Qt Rest
  have EX := Lib.hid eX
  clear eX
  have TT0 : 0 ≤ T * T := Int.mul_nonneg q0 q0
  have TT1 : T * T ≤ 4611686018427387904 * 4611686018427387904 := Int.mul_le_mul q1 q1 q0 (by omega)
  have TN1 : T * T * n ≤ 4611686018427387904 * 4611686018427387904 * 4611686018427387904 := Int.mul_le_mul TT1 (show n ≤ 4611686018427387904 by omega) (by omega) (by omega)
  have UU1 : (2 * T + 1) * (2 * T + 1) ≤ 9223372036854775809 * 9223372036854775809 := Int.mul_le_mul (by omega) (by omega) (by omega) (by omega)
  go_enter Try.func28, Try.ntmps28
  go_wp2_with (first | (go_at_call 42; refine (refRight _ _).mono ?_; rintro e w' ⟨rfl, rfl⟩) | (go_at_call 44; first | ((with_reducible refine (Lma.out _).mono ?_); rintro e w' ⟨rfl, rfl⟩) | ((with_reducible refine (Lmb.out _).mono ?_); rintro e w' ⟨rfl, rfl⟩)))
  refine (Pr.out _).mono ?_
  rintro e w1 ⟨vf, rfl, hf1, hq1⟩
  go_wp2_with fail
  refine (mulN _ _ _ _ _ hf1 hf1 (big_word (by omega)) (big_word (by omega))).mono ?_
  rintro e w2 ⟨vx, rfl, hx2, hq2⟩
  rw [EX.out] at hx2
  go_wp2_with fail
  refine (refLimbs n (by omega) (by omega) _).mono ?_
  rintro e w3 ⟨vd, rfl, hd3, hq3⟩
  have hx3 := num_kept hx2 hq3
  have hqb := (hq1.trans hq2).trans hq3
  clear hf1 hx2 hq1 hq2 hq3
  go_wp2_with fail
  go_loopw [13, 14] (fun qq ii wr => ∃ (q i : Int), qq = .int .u64 q ∧ ii = .int .i64 i ∧ -1 ≤ i ∧ i ≤ 62 ∧ BitK T (i + 1).toNat q ∧ Qw w3 wr) (fun _ ii _ => (intOf ii + 1).toNat)
  case atStart => exact ⟨0, 62, rfl, rfl, by decide, by decide, bit_start T 63 q0 (by omega), Qw.refl _⟩
  case round =>
    obtain ⟨q, i, rfl, rfl, i0, i1, hB, hq⟩ := hrel
    have hx4 := num_kept hx3 hq
    have hd4 := num_kept hd3 hq
    by_cases hi : i = -1
    · subst hi
      have eq : q = T := bit_end hB
      subst eq
      clear hB
      have nn : 0 < n := by omega
      have qn1 : q * q * n ≤ Big := by unfold Big; omega
      have x41 : 4 * X ≤ Big := by unfold Big; omega
      have rest := Rest.out
      obtain ⟨J, eJ⟩ : ∃ J, cmpI (q * q * n) X = J := ⟨_, rfl⟩
      obtain ⟨K, eK⟩ : ∃ K, cmpI (4 * X) ((2 * q + 1) * (2 * q + 1) * n) = K := ⟨_, rfl⟩
      rw [eJ, eK] at rest
      have fin := fun w => Rd.out _ _ rest w
      have Fin := Lib.hid fin; have EJ := Lib.hid eJ; have EK := Lib.hid eK
      clear rest fin eJ eK
      go_wp2_with fail
      refine (refLimbs q q0 (by omega) _).mono ?_
      rintro e w5 ⟨vl, rfl, hl5, hq5⟩
      go_wp2_with fail
      refine (refLimbs (2 * q + 1) (by omega) (by omega) _).mono ?_
      rintro e w6 ⟨vk, rfl, hk6, hq6⟩
      go_wp2_with fail
      refine (refLimbs 4 (by decide) (by decide) _).mono ?_
      rintro e w7 ⟨v7, rfl, h7, hq7⟩
      go_wp2_with fail
      refine (mulN _ _ _ _ _ h7 (num_kept hx4 ((hq5.trans hq6).trans hq7)) (big_word (by omega)) (big_two (by omega))).mono ?_
      rintro e w8 ⟨v8, rfl, h8, hq8⟩
      go_wp2_with fail
      refine (mulN _ _ _ _ _ (num_kept hk6 (hq7.trans hq8)) (num_kept hk6 (hq7.trans hq8)) (big_word (by omega)) (big_word (by omega))).mono ?_
      rintro e w9 ⟨v9, rfl, h9, hq9⟩
      have hqc := ((hq5.trans hq6).trans hq7).trans (hq8.trans hq9)
      go_wp2_with fail
      refine (mulN _ _ _ _ _ h9 (num_kept hd4 hqc) (big_two (by omega)) (big_word (by omega))).mono ?_
      rintro e w10 ⟨v10, rfl, h10, hq10⟩
      go_wp2_with fail
      refine (refCmp _ _ _ _ _ (num_kept h8 (hq9.trans hq10)) h10).mono ?_
      rintro e w11 ⟨rfl, hq11⟩
      rw [EK.out]
      have hqd := hqc.trans (hq10.trans hq11)
      have hl11 := num_kept hl5 ((((hq6.trans hq7).trans hq8).trans hq9).trans (hq10.trans hq11))
      have hx11 := num_kept hx4 hqd
      have hd11 := num_kept hd4 hqd
      have hqe := (hqb.trans hq).trans hqd
      clear hl5 hk6 h7 h8 h9 h10 hx4 hd4 hq5 hq6 hq7 hq8 hq9 hq10 hq11 hqc hqd hq hqb
      go_wp2_with (go_at_call 34; refine (refSign _ _ _).mono ?_; rintro e w' ⟨rfl, rfl⟩)
      refine (mulN _ _ _ _ _ hl11 hl11 (big_word (by omega)) (big_word (by omega))).mono ?_
      rintro e w12 ⟨v12, rfl, h12, hq12⟩
      go_wp2_with fail
      refine (mulN _ _ _ _ _ h12 (num_kept hd11 hq12) (big_two (by omega)) (big_word (by omega))).mono ?_
      rintro e w13 ⟨v13, rfl, h13, hq13⟩
      go_wp2_with fail
      refine (refCmp _ _ _ _ _ h13 (num_kept hx11 (hq12.trans hq13))).mono ?_
      rintro e w14 ⟨rfl, hq14⟩
      rw [EJ.out]
      have hqf := hqe.trans ((hq12.trans hq13).trans hq14)
      clear hl11 hx11 hd11 h12 h13 hq12 hq13 hq14 hqe
      go_wp2_with fail
      refine (Fin.out _).mono ?_
      rintro e w15 ⟨rfl, rfl⟩
      go_wp2_with fail
      go_ret2
      exact ⟨rfl, hqf⟩
    · obtain ⟨j, rfl⟩ := Int.eq_ofNat_of_zero_le (show 0 ≤ i by omega)
      have hB' : BitK T (j + 1) q := by rw [show ((j : Int) + 1).toNat = j + 1 from by omega] at hB; exact hB
      have jb : j < 63 := by omega
      have rm := bit_room hB' 63 jb (by omega)
      rw [show (2 : Int) ^ 63 = 9223372036854775808 from by decide] at rm
      have eO := bit_or hB' (by omega) (by omega)
      have yes := bit_yes hB'
      have no := bit_no hB'
      have q00 := hB'.1
      have p0 : (0 : Int) < 2 ^ j := Int.pow_pos (by decide)
      have p1' : 1 ≤ (2 : Int) ^ j := p0
      clear p0
      obtain ⟨P, eP⟩ : ∃ P, (2 : Int) ^ j = P := ⟨_, rfl⟩
      rw [eP] at eO rm yes no p1'
      have p2 : P < 18446744073709551616 := by omega
      obtain ⟨N, eN⟩ : ∃ N, q + P = N := ⟨_, rfl⟩
      rw [eN] at eO rm yes no
      have N0 : 0 ≤ N := by omega
      have tst := Qt.out N N0
      have ND0 : 0 ≤ N * N := Int.mul_nonneg N0 N0
      have ND1 : N * N ≤ 9223372036854775807 * 9223372036854775807 := Int.mul_le_mul (by omega) (by omega) N0 (by omega)
      have Tst := Lib.hid tst; have Yes := Lib.hid yes; have No := Lib.hid no; have EN := Lib.hid eN
      clear tst yes no eN hB hB' hi
      obtain ⟨K, eK⟩ : ∃ K, cmpI (N * N * n) X = K := ⟨_, rfl⟩
      rw [eK] at Tst
      have EK := Lib.hid eK
      clear eK
      go_wp2_with fail
      refine (refLimbs N N0 (by omega) _).mono ?_
      rintro e w4 ⟨vq, rfl, hn4, hq4⟩
      go_wp2_with fail
      refine (mulN _ _ _ _ _ hn4 hn4 (big_word (by omega)) (big_word (by omega))).mono ?_
      rintro e w5 ⟨vy, rfl, hy5, hq5⟩
      go_wp2_with fail
      refine (mulN _ _ _ _ _ hy5 (num_kept hd4 (hq4.trans hq5)) (big_two (by omega)) (big_word (by omega))).mono ?_
      rintro e w6 ⟨vz, rfl, hz6, hq6⟩
      have hx6 := num_kept hx4 ((hq4.trans hq5).trans hq6)
      go_wp2_with fail
      refine (refCmp _ _ _ _ _ hz6 hx6).mono ?_
      rintro e w7 ⟨rfl, hq7⟩
      rw [EK.out]
      have hqr := hq.trans (((hq4.trans hq5).trans hq6).trans hq7)
      clear hx4 hd4 hn4 hy5 hz6 hx6 hq hq4 hq5 hq6 hq7
      by_cases hk : K ≤ 0
      · have dk : decide (K ≤ 0) = true := decide_eq_true hk
        have hB := Yes.out (Tst.out.1 hk)
        have HB := Lib.hid hB
        clear hB hk
        go_wp2_with fail
        go_roundw
        case rel => exact ⟨N, _, rfl, rfl, by omega, by omega, by rw [show ((j : Int) - 1 + 1).toNat = j from by omega]; exact HB.out, hqr⟩
        case measure => simp [intOf]
      · have dk : decide (K ≤ 0) = false := decide_eq_false hk
        have hB := No.out (by have := Tst.out; omega)
        have HB := Lib.hid hB
        clear hB hk
        go_wp2_with fail
        go_roundw
        case rel => exact ⟨q, _, rfl, rfl, by omega, by omega, by rw [show ((j : Int) - 1 + 1).toNat = j from by omega]; exact HB.out, hqr⟩
        case measure => simp [intOf]

end Go.Proofs.Ytihdmhdhdlbifaa
