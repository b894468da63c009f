
/- The specification of package eval: what is made of one or two values. -/
import Derived.Test.YtkfipjlknfinpaaGreatDoorEvA
import Derived.Test.YtkfipjlknfinpaaGreatDoorEvQ
import Derived.Test.YtkfipjlknfinpaaGreatDoorFxB
import Derived.Test.YtkfipjlknfinpaaGreatDoorCR
import Derived.Test.YtkfipjlknfinpaaGreatDoorL1b
set_option linter.unusedVariables false
set_option linter.unusedSimpArgs false
namespace Go.Proofs.YtkfipjlknfinpaaGreatDoor
open Go.RowKit

theorem erTruth (n : Int) (w : World) : Calls Tryz.prog 90 #[.int .i64 n] w fun e w' => e = .returned (.bool (n != 0)) ∧ w = w' := by
  go_enter Tryz.func90, Tryz.ntmps90
  go_wp2_with fail
  go_ret
  exact ⟨rfl, rfl⟩
theorem erFlag (b : Bool) (w : World) :
    Calls Tryz.prog 89 #[.bool b] w fun e w' => e = .returned (.tuple #[.int .i64 (Ev.flg b).1, .int .i64 (Ev.flg b).2]) ∧ w = w' := by
  cases b
  · go_enter Tryz.func89, Tryz.ntmps89
    go_wp2_with fail
    go_ret2
    exact ⟨rfl, rfl⟩
  · go_enter Tryz.func89, Tryz.ntmps89
    go_wp2_with fail
    go_ret2
    exact ⟨rfl, rfl⟩

theorem big_max (x y : Int) : Ev.big x y = (decide (1099511627776 < max x (-x)) || decide (1099511627776 < max y (-y))) := by
  unfold Ev.big
  by_cases h1 : 1099511627776 < max x (-x)
  · rw [decide_eq_true h1]
    simp; omega
  · rw [decide_eq_false h1]
    by_cases h2 : 1099511627776 < max y (-y)
    · rw [decide_eq_true h2]
      simp; omega
    · rw [decide_eq_false h2]
      simp; omega

theorem big_no {p q : Bool} (h : (p || q) = false) : p = false ∧ q = false := by cases p <;> cases q <;> simp_all
set_option maxRecDepth 100000 in
set_option maxHeartbeats 4000000 in
theorem erAtan (a b : Int) (ha : Ev.Bd a) (hb : Ev.Bd b) (w : World) :
    Calls Tryz.prog 57 #[.int .i64 a, .int .i64 b] w fun e w' => e = .returned (.tuple #[.int .i64 (Ev.dirv a b).1, .int .i64 (Ev.dirv a b).2]) ∧ Qw w w' := by
  have q0 : Hid (Qw w w) := Lib.hid (Qw.refl w)
  by_cases hz : a = 0 ∧ b = 0
  · obtain ⟨rfl, rfl⟩ := hz
    rw [show Ev.dirv 0 0 = (0, 4) from rfl]
    go_enter Tryz.func57, Tryz.ntmps57
    go_wp2_with fail
    go_ret2
    exact ⟨rfl, q0.out⟩
  · rw [show Ev.dirv a b = (Cm.angv (Ev.hal 10 a b).2 (Ev.hal 10 a b).1, 0) from if_neg hz]
    have ba := Ev.hb_ten ha
    have bb := Ev.hb_ten hb
    have hz1 : ((a == 0) = false) ∨ ((a == 0) = true ∧ (b == 0) = false) := by
      rcases Int.decEq a 0 with h | h
      · exact .inl (beq_eq_false_iff_ne.2 h)
      · exact .inr ⟨beq_iff_eq.2 h, beq_eq_false_iff_ne.2 (fun g => hz ⟨h, g⟩)⟩
    obtain ⟨r1, r2, hr⟩ : ∃ r1 r2, Ev.hal 10 a b = (r1, r2) := ⟨_, _, rfl⟩
    rw [hr]
    have CA := Lib.hid (fun w' => cr_angle r2 r1 w')
    clear hz ha hb
    generalize Cm.angv r2 r1 = ag at *
    rcases hz1 with h0 | ⟨h0, h0'⟩
    all_goals
      go_enter Tryz.func57, Tryz.ntmps57
      go_wp2_with fail
      go_loopg [0, 1] 10 (fun g av bv wr => ∃ (k : Nat) (x y : Int), k ≤ 10 ∧ g = k ∧ av = .int .i64 x ∧ bv = .int .i64 y ∧ Ev.Hb k x ∧ Ev.Hb k y ∧ Ev.hal k x y = (r1, r2) ∧ Qw w wr)
      case atStart => exact ⟨10, a, b, Nat.le_refl _, rfl, rfl, rfl, ba, bb, hr, Qw.refl w⟩
      case round =>
        obtain ⟨k, x, y, hk, hgk, rfl, rfl, hx, hy, he, hQ⟩ := hrel
        have q0 := Lib.hid hQ
        obtain ⟨x1, x2⟩ := hb_le hx hk
        obtain ⟨y1, y2⟩ := hb_le hy hk
        have nx : IntKind.i64.wrap (-x) = -x := IntWalk.i64_in _ (by omega)
        have ny : IntKind.i64.wrap (-y) = -y := IntWalk.i64_in _ (by omega)
        have hM := big_max x y
        cases hbig : Ev.big x y with
        | false =>
          rw [hbig] at hM
          have hM1 := (big_no hM.symm).1
          have hM2 := (big_no hM.symm).2
          have e := Ev.hal_no (k := k) hbig
          rw [he] at e
          obtain ⟨rfl, rfl⟩ := Prod.mk.inj e
          clear hQ hbig he e hx hy ba bb hr hM
          go_wp2_with (go_at_call 88; (with_reducible refine (CA.out _).mono ?_); rintro e w' ⟨rfl, q⟩; replace q0 : Hid (Qw w w') := Lib.hid (Qw.trans (by repeat (first | exact q0.out | exact Qw.refl _ | refine Qw.al ?_ _ | refine Qw.dr ?_ | refine Qw.dn ?_ _ | refine Qw.sc ?_ (by first | (simp; done) | omega | (have := q0.out.size; first | omega | (simp; omega))) _)) q); clear q)
          go_ret2
          exact ⟨rfl, q0.out⟩
        | true =>
          rw [hbig] at hM
          have hMM : decide (1099511627776 < max x (-x)) = true ∨ (decide (1099511627776 < max x (-x)) = false ∧ decide (1099511627776 < max y (-y)) = true) := by
            cases h : decide (1099511627776 < max x (-x))
            · exact .inr ⟨rfl, by rw [h] at hM; simpa using hM.symm⟩
            · exact .inl rfl
          cases k with
          | zero => rw [Ev.hb_zero hx hy] at hbig; cases hbig
          | succ k =>
            have e := Ev.hal_yes (k := k) hbig
            rw [he] at e
            have bx := Ev.hb_half hx
            have by' := Ev.hb_half hy
            have s1 : x / 2 ^ 1 = x / 2 := int_div2 x
            have s2 : y / 2 ^ 1 = y / 2 := int_div2 y
            clear hQ hbig he hx hy ba bb hr hM
            rcases hMM with hM1 | ⟨hM1, hM2⟩
            all_goals
              go_wp2_with fail
              go_roundg k
              case measure => omega
              case rel => exact ⟨k, x / 2, y / 2, by omega, rfl, by go_num, by go_num, bx, by', e.symm, q0.out⟩
-- MADE
theorem erC17 (a b : Int) (w : World) : Calls Tryz.prog 58 #[.int .i64 17, .int .i64 a, .int .i64 b] w fun e w' => e = .returned (.tuple #[.int .i64 (Ev.flg (a == b)).1, .int .i64 (Ev.flg (a == b)).2]) ∧ w = w' := by
  go_enter Tryz.func58, Tryz.ntmps58
  go_wp2_with (go_at_call 89; (refine (erFlag _ _).mono ?_); rintro e w' ⟨rfl, rfl⟩)
  go_ret2
  exact ⟨rfl, rfl⟩
theorem erC18 (a b : Int) (w : World) : Calls Tryz.prog 58 #[.int .i64 18, .int .i64 a, .int .i64 b] w fun e w' => e = .returned (.tuple #[.int .i64 (Ev.flg (a != b)).1, .int .i64 (Ev.flg (a != b)).2]) ∧ w = w' := by
  go_enter Tryz.func58, Tryz.ntmps58
  go_wp2_with (go_at_call 89; (refine (erFlag _ _).mono ?_); rintro e w' ⟨rfl, rfl⟩)
  go_ret2
  exact ⟨rfl, rfl⟩
theorem erC19 (a b : Int) (w : World) : Calls Tryz.prog 58 #[.int .i64 19, .int .i64 a, .int .i64 b] w fun e w' => e = .returned (.tuple #[.int .i64 (Ev.flg (decide (b < a))).1, .int .i64 (Ev.flg (decide (b < a))).2]) ∧ w = w' := by
  go_enter Tryz.func58, Tryz.ntmps58
  go_wp2_with (go_at_call 89; (refine (erFlag _ _).mono ?_); rintro e w' ⟨rfl, rfl⟩)
  go_ret2
  exact ⟨rfl, rfl⟩
theorem erC20 (a b : Int) (w : World) : Calls Tryz.prog 58 #[.int .i64 20, .int .i64 a, .int .i64 b] w fun e w' => e = .returned (.tuple #[.int .i64 (Ev.flg (decide (b ≤ a))).1, .int .i64 (Ev.flg (decide (b ≤ a))).2]) ∧ w = w' := by
  go_enter Tryz.func58, Tryz.ntmps58
  go_wp2_with (go_at_call 89; (refine (erFlag _ _).mono ?_); rintro e w' ⟨rfl, rfl⟩)
  go_ret2
  exact ⟨rfl, rfl⟩
theorem erC21 (a b : Int) (w : World) : Calls Tryz.prog 58 #[.int .i64 21, .int .i64 a, .int .i64 b] w fun e w' => e = .returned (.tuple #[.int .i64 (Ev.flg (decide (a < b))).1, .int .i64 (Ev.flg (decide (a < b))).2]) ∧ w = w' := by
  go_enter Tryz.func58, Tryz.ntmps58
  go_wp2_with (go_at_call 89; (refine (erFlag _ _).mono ?_); rintro e w' ⟨rfl, rfl⟩)
  go_ret2
  exact ⟨rfl, rfl⟩
theorem erC22 (a b : Int) (w : World) : Calls Tryz.prog 58 #[.int .i64 22, .int .i64 a, .int .i64 b] w fun e w' => e = .returned (.tuple #[.int .i64 (Ev.flg (decide (a ≤ b))).1, .int .i64 (Ev.flg (decide (a ≤ b))).2]) ∧ w = w' := by
  go_enter Tryz.func58, Tryz.ntmps58
  go_wp2_with (go_at_call 89; (refine (erFlag _ _).mono ?_); rintro e w' ⟨rfl, rfl⟩)
  go_ret2
  exact ⟨rfl, rfl⟩
theorem erC23 (a b : Int) (w : World) : Calls Tryz.prog 58 #[.int .i64 23, .int .i64 a, .int .i64 b] w fun e w' => e = .returned (.tuple #[.int .i64 (Ev.flg ((a != 0) && (b != 0))).1, .int .i64 (Ev.flg ((a != 0) && (b != 0))).2]) ∧ w = w' := by
  have T1 := Lib.hid (fun w => erTruth a w)
  have T2 := Lib.hid (fun w => erTruth b w)
  generalize (a != 0) = p at *
  generalize (b != 0) = q at *
  cases p <;> cases q
  all_goals
    go_enter Tryz.func58, Tryz.ntmps58
    go_wp2_with (first | (go_at_call 90; (with_reducible first | refine (T1.out _).mono ?_ | refine (T2.out _).mono ?_); rintro e w' ⟨rfl, rfl⟩) | (go_at_call 89; (refine (erFlag _ _).mono ?_); rintro e w' ⟨rfl, rfl⟩))
    go_ret2
    exact ⟨rfl, rfl⟩
theorem erC24 (a b : Int) (w : World) : Calls Tryz.prog 58 #[.int .i64 24, .int .i64 a, .int .i64 b] w fun e w' => e = .returned (.tuple #[.int .i64 (Ev.flg ((a != 0) || (b != 0))).1, .int .i64 (Ev.flg ((a != 0) || (b != 0))).2]) ∧ w = w' := by
  have T1 := Lib.hid (fun w => erTruth a w)
  have T2 := Lib.hid (fun w => erTruth b w)
  generalize (a != 0) = p at *
  generalize (b != 0) = q at *
  cases p <;> cases q
  all_goals
    go_enter Tryz.func58, Tryz.ntmps58
    go_wp2_with (first | (go_at_call 90; (with_reducible first | refine (T1.out _).mono ?_ | refine (T2.out _).mono ?_); rintro e w' ⟨rfl, rfl⟩) | (go_at_call 89; (refine (erFlag _ _).mono ?_); rintro e w' ⟨rfl, rfl⟩))
    go_ret2
    exact ⟨rfl, rfl⟩
theorem erC25 (a b : Int) (w : World) : Calls Tryz.prog 58 #[.int .i64 25, .int .i64 a, .int .i64 b] w fun e w' => e = .returned (.tuple #[.int .i64 (Ev.flg ((a != 0) != (b != 0))).1, .int .i64 (Ev.flg ((a != 0) != (b != 0))).2]) ∧ w = w' := by
  have T1 := Lib.hid (fun w => erTruth a w)
  have T2 := Lib.hid (fun w => erTruth b w)
  generalize (a != 0) = p at *
  generalize (b != 0) = q at *
  cases p <;> cases q
  all_goals
    go_enter Tryz.func58, Tryz.ntmps58
    go_wp2_with (first | (go_at_call 90; (with_reducible first | refine (T1.out _).mono ?_ | refine (T2.out _).mono ?_); rintro e w' ⟨rfl, rfl⟩) | (go_at_call 89; (refine (erFlag _ _).mono ?_); rintro e w' ⟨rfl, rfl⟩))
    go_ret2
    exact ⟨rfl, rfl⟩
set_option maxRecDepth 100000 in
set_option maxHeartbeats 4000000 in
theorem erS2 (a : Int) (ha : Ev.Bd a) (w : World) : Calls Tryz.prog 59 #[.int .i64 2, .int .i64 a] w fun e w' => e = .returned (.tuple #[.int .i64 (-a), .int .i64 0]) ∧ Qw w w' := by
  obtain ⟨a1, a2⟩ := ha
  have SC := Lib.hid (fun w => cr_sincos a (by omega) (by omega) w)
  have q0 : Hid (Qw w w) := Lib.hid (Qw.refl w)
  have nA : IntKind.i64.wrap (-a) = -a := IntWalk.i64_in _ (by omega)
  generalize (Cm.sc a).1 = cc at *
  generalize (Cm.sc a).2 = ss at *
  go_enter Tryz.func59, Tryz.ntmps59
  go_wp2_with (first | (go_at_call 91; ((with_reducible refine (SC.out _).mono ?_); rintro e w' ⟨rfl, q⟩; replace q0 : Hid (Qw w w') := Lib.hid (Qw.trans (by repeat (first | exact q0.out | exact Qw.refl _ | refine Qw.al ?_ _ | refine Qw.dr ?_ | refine Qw.dn ?_ _ | refine Qw.sc ?_ (by first | (simp; done) | omega | (have := q0.out.size; first | omega | (simp; omega))) _)) q); clear q)) | fail)
  go_ret2
  exact ⟨rfl, q0.out⟩
set_option maxRecDepth 100000 in
set_option maxHeartbeats 4000000 in
theorem erS13 (a : Int) (ha : Ev.Bd a) (w : World) : Calls Tryz.prog 59 #[.int .i64 13, .int .i64 a] w fun e w' => e = .returned (.tuple #[.int .i64 (max a (-a)), .int .i64 0]) ∧ Qw w w' := by
  obtain ⟨a1, a2⟩ := ha
  have SC := Lib.hid (fun w => cr_sincos a (by omega) (by omega) w)
  have q0 : Hid (Qw w w) := Lib.hid (Qw.refl w)
  have nA : IntKind.i64.wrap (-a) = -a := IntWalk.i64_in _ (by omega)
  generalize (Cm.sc a).1 = cc at *
  generalize (Cm.sc a).2 = ss at *
  go_enter Tryz.func59, Tryz.ntmps59
  go_wp2_with (first | (go_at_call 91; ((with_reducible refine (SC.out _).mono ?_); rintro e w' ⟨rfl, q⟩; replace q0 : Hid (Qw w w') := Lib.hid (Qw.trans (by repeat (first | exact q0.out | exact Qw.refl _ | refine Qw.al ?_ _ | refine Qw.dr ?_ | refine Qw.dn ?_ _ | refine Qw.sc ?_ (by first | (simp; done) | omega | (have := q0.out.size; first | omega | (simp; omega))) _)) q); clear q)) | fail)
  go_ret2
  exact ⟨rfl, q0.out⟩
set_option maxRecDepth 100000 in
set_option maxHeartbeats 4000000 in
theorem erS8 (a : Int) (ha : Ev.Bd a) (w : World) : Calls Tryz.prog 59 #[.int .i64 8, .int .i64 a] w fun e w' => e = .returned (.tuple #[.int .i64 (Ev.quo (Cm.sc a).2 1073741824).1, .int .i64 (Ev.quo (Cm.sc a).2 1073741824).2]) ∧ Qw w w' := by
  obtain ⟨a1, a2⟩ := ha
  have SC := Lib.hid (fun w => cr_sincos a (by omega) (by omega) w)
  have q0 : Hid (Qw w w) := Lib.hid (Qw.refl w)
  obtain ⟨⟨s1, s2⟩, s3, s4⟩ := sc_intR a
  have c := fun w => refMulDivW (Cm.sc a).2 1000000 1073741824 2 (by omega) (by omega) (by decide) (by decide) (by decide) (by decide) w
  obtain ⟨e1, e2⟩ := quo_30 (Cm.sc a).2 (by omega) (by omega)
  rw [e1] at c
  rw [e2]
  have C := Lib.hid c
  clear c e1 e2
  generalize (2 * ((Cm.sc a).2 * 1000000) + 1073741824) / 2147483648 = vv at *
  generalize mdok (Cm.sc a).2 1000000 1073741824 2 = kk at *
  generalize (Cm.sc a).1 = cc at *
  generalize (Cm.sc a).2 = ss at *
  go_enter Tryz.func59, Tryz.ntmps59
  go_wp2_with (first | (go_at_call 91; ((with_reducible refine (SC.out _).mono ?_); rintro e w' ⟨rfl, q⟩; replace q0 : Hid (Qw w w') := Lib.hid (Qw.trans (by repeat (first | exact q0.out | exact Qw.refl _ | refine Qw.al ?_ _ | refine Qw.dr ?_ | refine Qw.dn ?_ _ | refine Qw.sc ?_ (by first | (simp; done) | omega | (have := q0.out.size; first | omega | (simp; omega))) _)) q); clear q)) | (go_at_call 87; ((with_reducible refine (C.out _).mono ?_); rintro e w' ⟨rfl, q⟩; replace q0 : Hid (Qw w w') := Lib.hid (Qw.trans (by repeat (first | exact q0.out | exact Qw.refl _ | refine Qw.al ?_ _ | refine Qw.dr ?_ | refine Qw.dn ?_ _ | refine Qw.sc ?_ (by first | (simp; done) | omega | (have := q0.out.size; first | omega | (simp; omega))) _)) q); clear q)))
  go_ret2
  exact ⟨rfl, q0.out⟩
set_option maxRecDepth 100000 in
set_option maxHeartbeats 4000000 in
theorem erS9 (a : Int) (ha : Ev.Bd a) (w : World) : Calls Tryz.prog 59 #[.int .i64 9, .int .i64 a] w fun e w' => e = .returned (.tuple #[.int .i64 (Ev.quo (Cm.sc a).1 1073741824).1, .int .i64 (Ev.quo (Cm.sc a).1 1073741824).2]) ∧ Qw w w' := by
  obtain ⟨a1, a2⟩ := ha
  have SC := Lib.hid (fun w => cr_sincos a (by omega) (by omega) w)
  have q0 : Hid (Qw w w) := Lib.hid (Qw.refl w)
  obtain ⟨⟨s1, s2⟩, s3, s4⟩ := sc_intR a
  have c := fun w => refMulDivW (Cm.sc a).1 1000000 1073741824 2 (by omega) (by omega) (by decide) (by decide) (by decide) (by decide) w
  obtain ⟨e1, e2⟩ := quo_30 (Cm.sc a).1 (by omega) (by omega)
  rw [e1] at c
  rw [e2]
  have C := Lib.hid c
  clear c e1 e2
  generalize (2 * ((Cm.sc a).1 * 1000000) + 1073741824) / 2147483648 = vv at *
  generalize mdok (Cm.sc a).1 1000000 1073741824 2 = kk at *
  generalize (Cm.sc a).1 = cc at *
  generalize (Cm.sc a).2 = ss at *
  go_enter Tryz.func59, Tryz.ntmps59
  go_wp2_with (first | (go_at_call 91; ((with_reducible refine (SC.out _).mono ?_); rintro e w' ⟨rfl, q⟩; replace q0 : Hid (Qw w w') := Lib.hid (Qw.trans (by repeat (first | exact q0.out | exact Qw.refl _ | refine Qw.al ?_ _ | refine Qw.dr ?_ | refine Qw.dn ?_ _ | refine Qw.sc ?_ (by first | (simp; done) | omega | (have := q0.out.size; first | omega | (simp; omega))) _)) q); clear q)) | (go_at_call 87; ((with_reducible refine (C.out _).mono ?_); rintro e w' ⟨rfl, q⟩; replace q0 : Hid (Qw w w') := Lib.hid (Qw.trans (by repeat (first | exact q0.out | exact Qw.refl _ | refine Qw.al ?_ _ | refine Qw.dr ?_ | refine Qw.dn ?_ _ | refine Qw.sc ?_ (by first | (simp; done) | omega | (have := q0.out.size; first | omega | (simp; omega))) _)) q); clear q)))
  go_ret2
  exact ⟨rfl, q0.out⟩
set_option maxRecDepth 100000 in
set_option maxHeartbeats 4000000 in
theorem erS12 (a : Int) (ha : Ev.Bd a) (w : World) : Calls Tryz.prog 59 #[.int .i64 12, .int .i64 a] w fun e w' => e = .returned (.tuple #[.int .i64 (sqv a), .int .i64 (sqe a)]) ∧ Qw w w' := by
  obtain ⟨a1, a2⟩ := ha
  have SC := Lib.hid (fun w => cr_sincos a (by omega) (by omega) w)
  have q0 : Hid (Qw w w) := Lib.hid (Qw.refl w)
  have C := Lib.hid (fun (w : World) => rxSqrt a w)
  generalize (sqv a) = vv at *
  generalize (sqe a) = ee at *
  generalize (Cm.sc a).1 = cc at *
  generalize (Cm.sc a).2 = ss at *
  go_enter Tryz.func59, Tryz.ntmps59
  go_wp2_with (first | (go_at_call 91; ((with_reducible refine (SC.out _).mono ?_); rintro e w' ⟨rfl, q⟩; replace q0 : Hid (Qw w w') := Lib.hid (Qw.trans (by repeat (first | exact q0.out | exact Qw.refl _ | refine Qw.al ?_ _ | refine Qw.dr ?_ | refine Qw.dn ?_ _ | refine Qw.sc ?_ (by first | (simp; done) | omega | (have := q0.out.size; first | omega | (simp; omega))) _)) q); clear q)) | (go_at_call 92; ((with_reducible refine (C.out _).mono ?_); rintro e w' ⟨rfl, q⟩; replace q0 : Hid (Qw w w') := Lib.hid (Qw.trans (by repeat (first | exact q0.out | exact Qw.refl _ | refine Qw.al ?_ _ | refine Qw.dr ?_ | refine Qw.dn ?_ _ | refine Qw.sc ?_ (by first | (simp; done) | omega | (have := q0.out.size; first | omega | (simp; omega))) _)) q); clear q)))
  go_ret2
  exact ⟨rfl, q0.out⟩
set_option maxRecDepth 100000 in
set_option maxHeartbeats 4000000 in
theorem erS14 (a : Int) (ha : Ev.Bd a) (w : World) : Calls Tryz.prog 59 #[.int .i64 14, .int .i64 a] w fun e w' => e = .returned (.tuple #[.int .i64 (roundv a), .int .i64 (arge a)]) ∧ Qw w w' := by
  obtain ⟨a1, a2⟩ := ha
  have SC := Lib.hid (fun w => cr_sincos a (by omega) (by omega) w)
  have q0 : Hid (Qw w w) := Lib.hid (Qw.refl w)
  have C := Lib.hid (fun (w : World) => rxRound a w)
  generalize (roundv a) = vv at *
  generalize (arge a) = ee at *
  generalize (Cm.sc a).1 = cc at *
  generalize (Cm.sc a).2 = ss at *
  go_enter Tryz.func59, Tryz.ntmps59
  go_wp2_with (first | (go_at_call 91; ((with_reducible refine (SC.out _).mono ?_); rintro e w' ⟨rfl, q⟩; replace q0 : Hid (Qw w w') := Lib.hid (Qw.trans (by repeat (first | exact q0.out | exact Qw.refl _ | refine Qw.al ?_ _ | refine Qw.dr ?_ | refine Qw.dn ?_ _ | refine Qw.sc ?_ (by first | (simp; done) | omega | (have := q0.out.size; first | omega | (simp; omega))) _)) q); clear q)) | (go_at_call 93; ((with_reducible refine (C.out _).mono ?_); rintro e w' ⟨rfl, rfl⟩)))
  go_ret2
  exact ⟨rfl, q0.out⟩
set_option maxRecDepth 100000 in
set_option maxHeartbeats 4000000 in
theorem erS15 (a : Int) (ha : Ev.Bd a) (w : World) : Calls Tryz.prog 59 #[.int .i64 15, .int .i64 a] w fun e w' => e = .returned (.tuple #[.int .i64 (fixv a), .int .i64 (arge a)]) ∧ Qw w w' := by
  obtain ⟨a1, a2⟩ := ha
  have SC := Lib.hid (fun w => cr_sincos a (by omega) (by omega) w)
  have q0 : Hid (Qw w w) := Lib.hid (Qw.refl w)
  have C := Lib.hid (fun (w : World) => rxFix a w)
  generalize (fixv a) = vv at *
  generalize (arge a) = ee at *
  generalize (Cm.sc a).1 = cc at *
  generalize (Cm.sc a).2 = ss at *
  go_enter Tryz.func59, Tryz.ntmps59
  go_wp2_with (first | (go_at_call 91; ((with_reducible refine (SC.out _).mono ?_); rintro e w' ⟨rfl, q⟩; replace q0 : Hid (Qw w w') := Lib.hid (Qw.trans (by repeat (first | exact q0.out | exact Qw.refl _ | refine Qw.al ?_ _ | refine Qw.dr ?_ | refine Qw.dn ?_ _ | refine Qw.sc ?_ (by first | (simp; done) | omega | (have := q0.out.size; first | omega | (simp; omega))) _)) q); clear q)) | (go_at_call 94; ((with_reducible refine (C.out _).mono ?_); rintro e w' ⟨rfl, rfl⟩)))
  go_ret2
  exact ⟨rfl, q0.out⟩
set_option maxRecDepth 100000 in
set_option maxHeartbeats 4000000 in
theorem erS16 (a : Int) (ha : Ev.Bd a) (w : World) : Calls Tryz.prog 59 #[.int .i64 16, .int .i64 a] w fun e w' => e = .returned (.tuple #[.int .i64 (fupv a), .int .i64 (arge a)]) ∧ Qw w w' := by
  obtain ⟨a1, a2⟩ := ha
  have SC := Lib.hid (fun w => cr_sincos a (by omega) (by omega) w)
  have q0 : Hid (Qw w w) := Lib.hid (Qw.refl w)
  have C := Lib.hid (fun (w : World) => rxFup a w)
  generalize (fupv a) = vv at *
  generalize (arge a) = ee at *
  generalize (Cm.sc a).1 = cc at *
  generalize (Cm.sc a).2 = ss at *
  go_enter Tryz.func59, Tryz.ntmps59
  go_wp2_with (first | (go_at_call 91; ((with_reducible refine (SC.out _).mono ?_); rintro e w' ⟨rfl, q⟩; replace q0 : Hid (Qw w w') := Lib.hid (Qw.trans (by repeat (first | exact q0.out | exact Qw.refl _ | refine Qw.al ?_ _ | refine Qw.dr ?_ | refine Qw.dn ?_ _ | refine Qw.sc ?_ (by first | (simp; done) | omega | (have := q0.out.size; first | omega | (simp; omega))) _)) q); clear q)) | (go_at_call 95; ((with_reducible refine (C.out _).mono ?_); rintro e w' ⟨rfl, rfl⟩)))
  go_ret2
  exact ⟨rfl, q0.out⟩
set_option maxRecDepth 100000 in
set_option maxHeartbeats 4000000 in
theorem erS10 (a : Int) (ha : Ev.Bd a) (w : World) : Calls Tryz.prog 59 #[.int .i64 10, .int .i64 a] w fun e w' => e = .returned (.tuple #[.int .i64 (Ev.tanv a).1, .int .i64 (Ev.tanv a).2]) ∧ Qw w w' := by
  obtain ⟨a1, a2⟩ := ha
  have SC := Lib.hid (fun w => cr_sincos a (by omega) (by omega) w)
  obtain ⟨⟨s1, s2⟩, s3, s4⟩ := sc_intR a
  unfold Ev.tanv
  generalize (Cm.sc a).1 = cc at *
  generalize (Cm.sc a).2 = ss at *
  have q0 : Hid (Qw w w) := Lib.hid (Qw.refl w)
  by_cases hc : cc = 0
  · subst hc
    rw [if_pos rfl]
    go_enter Tryz.func59, Tryz.ntmps59
    go_wp2_with (go_at_call 91; ((with_reducible refine (SC.out _).mono ?_); rintro e w' ⟨rfl, q⟩; replace q0 : Hid (Qw w w') := Lib.hid (Qw.trans (by repeat (first | exact q0.out | exact Qw.refl _ | refine Qw.al ?_ _ | refine Qw.dr ?_ | refine Qw.dn ?_ _ | refine Qw.sc ?_ (by first | (simp; done) | omega | (have := q0.out.size; first | omega | (simp; omega))) _)) q); clear q))
    go_ret2
    exact ⟨rfl, q0.out⟩
  · rw [if_neg hc]
    have hcb : (cc == 0) = false := beq_eq_false_iff_ne.2 hc
    have c := fun w => refMulDivW ss 1000000 cc 2 (by omega) (by omega) (by decide) (by decide) (by omega) (by omega) w
    unfold Ev.quo
    generalize mdv ss 1000000 cc 2 = n at *
    generalize mdok ss 1000000 cc 2 = ok at *
    have C := Lib.hid c
    clear c
    cases ok
    · rw [show tv n false = 0 from rfl, show te n false = 3 from rfl]
      go_enter Tryz.func59, Tryz.ntmps59
      go_wp2_with (first | (go_at_call 91; ((with_reducible refine (SC.out _).mono ?_); rintro e w' ⟨rfl, q⟩; replace q0 : Hid (Qw w w') := Lib.hid (Qw.trans (by repeat (first | exact q0.out | exact Qw.refl _ | refine Qw.al ?_ _ | refine Qw.dr ?_ | refine Qw.dn ?_ _ | refine Qw.sc ?_ (by first | (simp; done) | omega | (have := q0.out.size; first | omega | (simp; omega))) _)) q); clear q)) | (go_at_call 87; ((with_reducible refine (C.out _).mono ?_); rintro e w' ⟨rfl, q⟩; replace q0 : Hid (Qw w w') := Lib.hid (Qw.trans (by repeat (first | exact q0.out | exact Qw.refl _ | refine Qw.al ?_ _ | refine Qw.dr ?_ | refine Qw.dn ?_ _ | refine Qw.sc ?_ (by first | (simp; done) | omega | (have := q0.out.size; first | omega | (simp; omega))) _)) q); clear q)))
      go_ret2
      exact ⟨rfl, q0.out⟩
    · cases h : vld n
      · have e1 : tv n true = 0 := by unfold tv; rw [h]; rfl
        have e2 : te n true = 3 := by unfold te; rw [h]; rfl
        rw [e1, e2]
        clear e1 e2
        go_enter Tryz.func59, Tryz.ntmps59
        go_wp2_with (first | (go_at_call 91; ((with_reducible refine (SC.out _).mono ?_); rintro e w' ⟨rfl, q⟩; replace q0 : Hid (Qw w w') := Lib.hid (Qw.trans (by repeat (first | exact q0.out | exact Qw.refl _ | refine Qw.al ?_ _ | refine Qw.dr ?_ | refine Qw.dn ?_ _ | refine Qw.sc ?_ (by first | (simp; done) | omega | (have := q0.out.size; first | omega | (simp; omega))) _)) q); clear q)) | (go_at_call 87; ((with_reducible refine (C.out _).mono ?_); rintro e w' ⟨rfl, q⟩; replace q0 : Hid (Qw w w') := Lib.hid (Qw.trans (by repeat (first | exact q0.out | exact Qw.refl _ | refine Qw.al ?_ _ | refine Qw.dr ?_ | refine Qw.dn ?_ _ | refine Qw.sc ?_ (by first | (simp; done) | omega | (have := q0.out.size; first | omega | (simp; omega))) _)) q); clear q)) | (go_at_call 39; refine (rxValid _ _).mono ?_; rintro e w' ⟨rfl, rfl⟩))
        go_ret2
        exact ⟨rfl, q0.out⟩
      · have e1 : tv n true = n := by unfold tv; rw [h]; rfl
        have e2 : te n true = 0 := by unfold te; rw [h]; rfl
        rw [e1, e2]
        clear e1 e2
        go_enter Tryz.func59, Tryz.ntmps59
        go_wp2_with (first | (go_at_call 91; ((with_reducible refine (SC.out _).mono ?_); rintro e w' ⟨rfl, q⟩; replace q0 : Hid (Qw w w') := Lib.hid (Qw.trans (by repeat (first | exact q0.out | exact Qw.refl _ | refine Qw.al ?_ _ | refine Qw.dr ?_ | refine Qw.dn ?_ _ | refine Qw.sc ?_ (by first | (simp; done) | omega | (have := q0.out.size; first | omega | (simp; omega))) _)) q); clear q)) | (go_at_call 87; ((with_reducible refine (C.out _).mono ?_); rintro e w' ⟨rfl, q⟩; replace q0 : Hid (Qw w w') := Lib.hid (Qw.trans (by repeat (first | exact q0.out | exact Qw.refl _ | refine Qw.al ?_ _ | refine Qw.dr ?_ | refine Qw.dn ?_ _ | refine Qw.sc ?_ (by first | (simp; done) | omega | (have := q0.out.size; first | omega | (simp; omega))) _)) q); clear q)) | (go_at_call 39; refine (rxValid _ _).mono ?_; rintro e w' ⟨rfl, rfl⟩))
        go_ret2
        exact ⟨rfl, q0.out⟩
end Go.Proofs.YtkfipjlknfinpaaGreatDoor
