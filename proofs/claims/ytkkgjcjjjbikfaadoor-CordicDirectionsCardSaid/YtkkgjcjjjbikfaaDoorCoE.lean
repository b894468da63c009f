
/- The walk of cordic.Angle. -/
import Derived.Test.YtkkgjcjjjbikfaaDoorCoD
import Derived.Test.YtkkgjcjjjbikfaaDoorCmG
set_option linter.unusedVariables false
set_option linter.unusedSimpArgs false
namespace Go.Proofs.YtkkgjcjjjbikfaaDoor
open Go.RowKit

theorem ret_nb {a b : Int} {c d : Bool} (h : a = b) (g : c = d) : Ending.returned (.tuple #[.int .i64 a, .bool c]) = .returned (.tuple #[.int .i64 b, .bool d]) := by rw [h, g]

theorem run_field_z (a b c : Int) (w : World) : (Instr.field 38 (.agg #[.int .i64 a, .int .i64 b, .int .i64 c]) 2).run Tryd.prog w = .ok (.int .i64 c) w := by kernel_rfl

theorem an_no {x y : Int} (h : (x = 0 ∧ y = 0) ∨ x < -1099511627776 ∨ 1099511627776 < x ∨ y < -1099511627776 ∨ 1099511627776 < y) : Cm.angv x y = 0 ∧ Cm.aok x y = false := by
  have e := Cm.aok_f h
  exact ⟨by unfold Cm.angv; rw [e]; rfl, e⟩

set_option maxRecDepth 100000 in
set_option maxHeartbeats 1000000 in
theorem co_angle (x y : Int) (w : World) (ht : Tc w) :
    Calls Tryd.prog 21 #[.int .i64 x, .int .i64 y] w fun e w' => e = .returned (.tuple #[.int .i64 (Cm.angv x y), .bool (Cm.aok x y)]) ∧ Qw w w' := by
  have b1 := fun w => co_beyond x 1099511627776 (by decide) (by decide) w
  have b2 := fun w => co_beyond y 1099511627776 (by decide) (by decide) w
  have HT := Lib.hid ht
  have q0 := Qw.refl w
  clear ht
  by_cases h0 : x = 0 ∧ y = 0
  · obtain ⟨e1, e2⟩ := an_no (.inl h0)
    rw [e1, e2]
    obtain ⟨rfl, rfl⟩ := h0
    clear e1 e2 b1 b2
    go_enter Tryd.func21, Tryd.ntmps21
    go_wp2
    go_ret2
    exact ⟨rfl, q0⟩
  · have gd : ((x == 0) = false) ∨ ((x == 0) = true ∧ (y == 0) = false) := by
      by_cases c : x = 0
      · right; exact ⟨by rw [beq_iff_eq]; exact c, beq_eq_false_iff_ne.2 (fun e => h0 ⟨c, e⟩)⟩
      · left; exact beq_eq_false_iff_ne.2 c
    cases hx : bey x 1099511627776
    · cases hy : bey y 1099511627776
      · have xb : -1099511627776 ≤ x ∧ x ≤ 1099511627776 := by unfold bey at hx; simp at hx; omega
        have yb : -1099511627776 ≤ y ∧ y ≤ 1099511627776 := by unfold bey at hy; simp at hy; omega
        have ao := Cm.aok_t h0 xb.1 xb.2 yb.1 yb.2
        have av : Cm.angv x y = ((Cm.qn x y : Int) * 90000000 + Cm.rr x y) % 360000000 := by unfold Cm.angv; rw [ao]; rfl
        have nl := Cm.qn_le x y
        have inq := Cm.qn_in x y h0
        have bef := fun j hj => Cm.qn_before x y j hj
        have bb := fun j => Cm.bk_bd x y 1099511627776 xb.1 xb.2 yb.1 yb.2 j
        have er : Cm.rr x y = if (Cm.bk (Cm.qn x y) (x, y)).2 = 0 then 0 else rd (Cm.rz x y) 1000 := rfl
        have ez : Cm.rz x y = (Cm.vs ((Cm.bk (Cm.qn x y) (x, y)).1 * 1048576) ((Cm.bk (Cm.qn x y) (x, y)).2 * 1048576) 26).2.2 := rfl
        rw [av, ao]
        rw [hx] at b1
        rw [hy] at b2
        have B1 := Lib.hid b1
        have B2 := Lib.hid b2
        clear b1 b2 hx hy av ao h0 xb yb
        generalize Cm.rr x y = RR at *
        generalize Cm.rz x y = RZ at *
        generalize Cm.qn x y = n at *
        have INQ := Lib.hid inq
        have BEF := Lib.hid bef
        have BB := Lib.hid bb
        have ER := Lib.hid er
        have EZ := Lib.hid ez
        clear inq bef bb er ez
        rcases gd with g1 | ⟨g1, g2⟩
        all_goals
          go_enter Tryd.func21, Tryd.ntmps21
          go_wp2_with (first | (go_at_call 30; ((with_reducible refine (B1.out _).mono ?_); rintro e w' ⟨rfl, rfl⟩)) | (go_at_call 30; ((with_reducible refine (B2.out _).mono ?_); rintro e w' ⟨rfl, rfl⟩)))
          go_loop [0, 1, 6] (fun a b q => ∃ j : Nat, j ≤ n ∧ q = .int .i64 j ∧ a = .int .i64 (Cm.bk j (x, y)).1 ∧ b = .int .i64 (Cm.bk j (x, y)).2) (fun _ _ q => n - (intOf q).toNat)
          case atStart => exact ⟨0, by omega, rfl, rfl, rfl⟩
          case round =>
            obtain ⟨j, hj, rfl, rfl, rfl⟩ := hrel
            obtain ⟨x1, x2, y1, y2⟩ := BB.out j
            by_cases c : j < n
            · have s1 : (Cm.bk (j + 1) (x, y)).1 = (Cm.bk j (x, y)).2 := rfl
              have s2 : (Cm.bk (j + 1) (x, y)).2 = -(Cm.bk j (x, y)).1 := rfl
              have S1 := Lib.hid s1
              have S2 := Lib.hid s2
              have no := Cm.inQ_no (BEF.out j c)
              clear s1 s2
              generalize (Cm.bk j (x, y)).1 = X at *
              generalize (Cm.bk j (x, y)).2 = Y at *
              by_cases d : Y < -X
              · go_wp2
                go_round
                case rel => exact ⟨j + 1, by omega, by go_num, by rw [S1.out], by rw [S2.out]⟩
                case measure => simp [intOf]; omega
              · have d' : decide (Y < -X) = false := decide_eq_false d
                have d2 : decide (X ≤ Y) = true := decide_eq_true (by omega)
                go_wp2
                go_round
                case rel => exact ⟨j + 1, by omega, by go_num, by rw [S1.out], by rw [S2.out]⟩
                case measure => simp [intOf]; omega
            · obtain rfl : j = n := by omega
              obtain ⟨i1, i2⟩ := Cm.inQ_bd INQ.out
              generalize (Cm.bk j (x, y)).1 = X at *
              generalize (Cm.bk j (x, y)).2 = Y at *
              have d' : decide (Y < -X) = false := decide_eq_false (by omega)
              have d2 : decide (X ≤ Y) = false := decide_eq_false (by omega)
              by_cases hv : Y = 0
              · have r0 : RR = 0 := by rw [ER.out, if_pos hv]
                have hv' : (Y != 0) = false := by rw [hv]; rfl
                clear hv
                subst r0
                have c3 := fun w => co_rem ((j : Int) * 90000000) 360000000 (by omega) (by omega) (by decide) (by decide) w
                have C3 := Lib.hid c3
                clear c3
                go_wp2_with (go_at_call 26; ((with_reducible refine (C3.out _).mono ?_); rintro e w' ⟨rfl, rfl⟩))
                go_ret2
                exact ⟨ret_nb (by omega) rfl, q0⟩
              · have r0 : RR = rd RZ 1000 := by rw [ER.out, if_neg hv]
                have hv' : (Y != 0) = true := by rw [bne_iff_ne]; exact hv
                have zb := Cm.vs_bd (X * 1048576) (Y * 1048576) (by omega) (by omega) (by omega) (by omega) 26 (by decide)
                have c3 := fun w ht => co_toAxis (X * 1048576) (Y * 1048576) (by omega) (by omega) (by omega) (by omega) w ht
                rw [← EZ.out] at c3 zb
                have zb1 := zb.2.2.2.2.1
                have zb2 := zb.2.2.2.2.2
                have c4 := fun w => co_near RZ 1000 (by omega) (by omega) (by decide) (by decide) w
                rw [← r0] at c4
                have rb : -100000001 ≤ RR ∧ RR ≤ 100000001 := by unfold rd at r0; omega
                obtain ⟨rb1, rb2⟩ := rb
                have c5 := fun w => co_rem ((j : Int) * 90000000 + RR) 360000000 (by omega) (by omega) (by decide) (by decide) w
                have C3 := Lib.hid c3
                have C4 := Lib.hid c4
                have C5 := Lib.hid c5
                have kf := fun w a b c => run_field_z a b c w
                clear c3 c4 c5 hv r0 zb
                generalize (Cm.vs (X * 1048576) (Y * 1048576) 26).1 = V1 at *
                generalize (Cm.vs (X * 1048576) (Y * 1048576) 26).2.1 = V2 at *
                go_wp2_with (first | (go_at_call 34; ((with_reducible refine (C3.out _ HT.out).mono ?_); rintro e w' ⟨rfl, h⟩; replace q0 := Qw.trans q0 h; clear h)) | (go_at_call 31; ((with_reducible refine (C4.out _).mono ?_); rintro e w' ⟨rfl, rfl⟩)) | (go_at_call 26; ((with_reducible refine (C5.out _).mono ?_); rintro e w' ⟨rfl, rfl⟩)))
                go_ret2
                exact ⟨rfl, q0⟩
      · have far : y < -1099511627776 ∨ 1099511627776 < y := by unfold bey at hy; simpa using hy
        obtain ⟨e1, e2⟩ := an_no (x := x) (y := y) (by omega)
        rw [e1, e2]
        rw [hx] at b1
        rw [hy] at b2
        have B1 := Lib.hid b1
        have B2 := Lib.hid b2
        clear b1 b2 hx hy e1 e2 far h0
        rcases gd with g1 | ⟨g1, g2⟩
        all_goals
          go_enter Tryd.func21, Tryd.ntmps21
          go_wp2_with (first | (go_at_call 30; ((with_reducible refine (B1.out _).mono ?_); rintro e w' ⟨rfl, rfl⟩)) | (go_at_call 30; ((with_reducible refine (B2.out _).mono ?_); rintro e w' ⟨rfl, rfl⟩)))
          go_ret2
          exact ⟨rfl, q0⟩
    · have far : x < -1099511627776 ∨ 1099511627776 < x := by unfold bey at hx; simpa using hx
      obtain ⟨e1, e2⟩ := an_no (x := x) (y := y) (by omega)
      rw [e1, e2]
      rw [hx] at b1
      have B1 := Lib.hid b1
      clear b1 b2 hx e1 e2 far h0
      rcases gd with g1 | ⟨g1, g2⟩
      all_goals
        go_enter Tryd.func21, Tryd.ntmps21
        go_wp2_with (go_at_call 30; ((with_reducible refine (B1.out _).mono ?_); rintro e w' ⟨rfl, rfl⟩))
        go_ret2
        exact ⟨rfl, q0⟩

end Go.Proofs.YtkkgjcjjjbikfaaDoor
