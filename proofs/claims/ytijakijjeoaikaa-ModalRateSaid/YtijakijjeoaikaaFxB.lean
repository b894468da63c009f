
/- The walks of the specification of layer 2 on numbers: Valid to Length. -/
import Derived.Test.YtijakijjeoaikaaFxA
import Derived.Test.YtijakijjeoaikaaRefH
set_option linter.unusedVariables false
set_option linter.unusedSimpArgs false
namespace Go.Proofs.Ytijakijjeoaikaa
open Go.RowKit

theorem rxValid (n : Int) (w : World) : Calls Try.prog 43 #[.int .i64 n] w fun e w' => e = .returned (.bool (vld n)) ∧ w = w' := by
  by_cases h1 : n < -1000000000000000
  · rw [vld_f (.inl h1)]
    go_enter Try.func43, Try.ntmps43
    go_wp2
    go_ret
    exact ⟨ret_bl (by first | rfl | (simp; omega)), rfl⟩
  · by_cases h2 : 1000000000000000 < n
    · rw [vld_f (.inr h2)]
      go_enter Try.func43, Try.ntmps43
      go_wp2
      go_ret
      exact ⟨ret_bl (by first | rfl | (simp; omega)), rfl⟩
    · rw [vld_t (by omega) (by omega)]
      go_enter Try.func43, Try.ntmps43
      go_wp2
      go_ret
      exact ⟨ret_bl (by first | rfl | (simp; omega)), rfl⟩

theorem rxWhole (a : Int) (w : World) : Calls Try.prog 41 #[.int .i64 a] w fun e w' => e = .returned (.tuple #[.int .i64 (wholev a), .bool (whole a)]) ∧ w = w' := by
  cases h : vld a
  · have e : whole a = false := by unfold whole; rw [h]; rfl
    rw [show wholev a = 0 from if_neg (by rw [e]; decide), e]
    clear e
    go_enter Try.func41, Try.ntmps41
    go_wp2_with (go_at_call 43; refine (rxValid _ _).mono ?_; rintro e w' ⟨rfl, rfl⟩)
    go_ret2
    exact ⟨rfl, rfl⟩
  · obtain ⟨a1, a2⟩ := vld_bd h
    have t := tmod_of a 1000000 (by omega)
    by_cases c : a % 1000000 = 0
    · have e : whole a = true := by unfold whole; rw [h, decide_eq_true c]; rfl
      have d : a.tdiv 1000000 = a / 1000000 := by
        obtain ⟨k, hk⟩ : ∃ k, a = 1000000 * k := ⟨a / 1000000, by omega⟩
        rw [hk, Int.mul_tdiv_cancel_left _ (by decide), Int.mul_ediv_cancel_left _ (by decide)]
      rw [show wholev a = a / 1000000 from if_pos e, e]
      have z : a.tmod 1000000 = 0 := Int.tmod_eq_zero_of_dvd (Int.dvd_of_emod_eq_zero c)
      clear e t
      by_cases s : 0 ≤ a
      · clear z d
        go_enter Try.func41, Try.ntmps41
        go_wp2_with (go_at_call 43; refine (rxValid _ _).mono ?_; rintro e w' ⟨rfl, rfl⟩)
        go_ret2
        exact ⟨rfl, rfl⟩
      · clear c
        have D := Lib.hid d
        clear d
        go_enter Try.func41, Try.ntmps41
        go_wp2_with (go_at_call 43; refine (rxValid _ _).mono ?_; rintro e w' ⟨rfl, rfl⟩)
        go_ret2
        exact ⟨ret_ib (by have := D.out; omega) rfl, rfl⟩
    · have e : whole a = false := by unfold whole; rw [h, decide_eq_false c]; rfl
      rw [show wholev a = 0 from if_neg (by rw [e]; decide), e]
      have z : (a.tmod 1000000 == 0) = false := beq_eq_false_iff_ne.2 (by omega)
      have z' : (a % 1000000 == 0) = false := beq_eq_false_iff_ne.2 c
      clear e t
      by_cases s : 0 ≤ a
      · clear z
        go_enter Try.func41, Try.ntmps41
        go_wp2_with (go_at_call 43; refine (rxValid _ _).mono ?_; rintro e w' ⟨rfl, rfl⟩)
        go_ret2
        exact ⟨rfl, rfl⟩
      · clear z'
        go_enter Try.func41, Try.ntmps41
        go_wp2_with (go_at_call 43; refine (rxValid _ _).mono ?_; rintro e w' ⟨rfl, rfl⟩)
        go_ret2
        exact ⟨rfl, rfl⟩

theorem rxLength (a u : Int) (w : World) : Calls Try.prog 54 #[.int .i64 a, .int .i64 u] w fun e w' => e = .returned (.tuple #[.int .i64 (lenv a u), .int .i64 (lene a u)]) ∧ Qw w w' := by
  have q0 := Qw.refl w
  cases h : vld a
  · have e : lene a u = 1 := if_neg (by rw [h]; simp)
    rw [show lenv a u = 0 from if_neg (by omega), e]
    clear e
    go_enter Try.func54, Try.ntmps54
    go_wp2_with (go_at_call 43; refine (rxValid _ _).mono ?_; rintro e w' ⟨rfl, rfl⟩)
    go_ret2
    exact ⟨rfl, q0⟩
  · obtain ⟨a1, a2⟩ := vld_bd h
    by_cases hu : u = 20 ∨ u = 21
    · have e : lene a u = if -1048576 ≤ ln a u ∧ ln a u ≤ 1048576 then 0 else 3 := if_pos ⟨h, hu⟩
      have e2 : lenv a u = if -1048576 ≤ ln a u ∧ ln a u ≤ 1048576 then ln a u else 0 := by unfold lenv; rw [e]; split <;> simp
      rw [e, e2]
      clear e e2
      have k1 : mdok a 1 1000 2 = true ∧ mdv a 1 1000 2 = ln a 21 := by
        have e : qv 2 (a * 1) 1000 = ln a 21 ∧ -9223372036854775808 ≤ ln a 21 ∧ ln a 21 ≤ 9223372036854775807 := by
          rw [qv_2]; unfold ln; rw [if_neg (by decide)]; omega
        have := md_qv a 1 1000 2 (by omega) (by omega) (by omega) (by rw [e.1]; exact e.2.1) (by rw [e.1]; exact e.2.2)
        rw [e.1] at this
        exact this
      have k2 : mdok a 254 10000 2 = true ∧ mdv a 254 10000 2 = ln a 20 := by
        have e : qv 2 (a * 254) 10000 = ln a 20 ∧ -9223372036854775808 ≤ ln a 20 ∧ ln a 20 ≤ 9223372036854775807 := by
          rw [qv_2]; unfold ln; rw [if_pos rfl]; omega
        have := md_qv a 254 10000 2 (by omega) (by omega) (by omega) (by rw [e.1]; exact e.2.1) (by rw [e.1]; exact e.2.2)
        rw [e.1] at this
        exact this
      have c1 := fun w => refMulDivW a 1 1000 2 (by omega) (by omega) (by omega) (by omega) (by omega) (by omega) w
      have c2 := fun w => refMulDivW a 254 10000 2 (by omega) (by omega) (by omega) (by omega) (by omega) (by omega) w
      rw [k1.1, k1.2] at c1
      rw [k2.1, k2.2] at c2
      have C1 := Lib.hid c1
      have C2 := Lib.hid c2
      clear k1 k2 c1 c2
      rcases hu with rfl | rfl
      · generalize ln a 20 = x at *
        by_cases c1 : x < -1048576
        · rw [if_neg (by omega), if_neg (by omega)]
          go_enter Try.func54, Try.ntmps54
          go_wp2_with (first | (go_at_call 43; refine (rxValid _ _).mono ?_; rintro e w' ⟨rfl, rfl⟩) | (go_at_call 48; ((with_reducible refine (C1.out _).mono ?_); rintro e w' ⟨rfl, h⟩; replace q0 := Qw.trans q0 h; clear h)) | (go_at_call 48; ((with_reducible refine (C2.out _).mono ?_); rintro e w' ⟨rfl, h⟩; replace q0 := Qw.trans q0 h; clear h)))
          go_ret2
          exact ⟨rfl, q0⟩
        · by_cases c2 : 1048576 < x
          · rw [if_neg (by omega), if_neg (by omega)]
            go_enter Try.func54, Try.ntmps54
            go_wp2_with (first | (go_at_call 43; refine (rxValid _ _).mono ?_; rintro e w' ⟨rfl, rfl⟩) | (go_at_call 48; ((with_reducible refine (C1.out _).mono ?_); rintro e w' ⟨rfl, h⟩; replace q0 := Qw.trans q0 h; clear h)) | (go_at_call 48; ((with_reducible refine (C2.out _).mono ?_); rintro e w' ⟨rfl, h⟩; replace q0 := Qw.trans q0 h; clear h)))
            go_ret2
            exact ⟨rfl, q0⟩
          · rw [if_pos (by omega), if_pos (by omega)]
            go_enter Try.func54, Try.ntmps54
            go_wp2_with (first | (go_at_call 43; refine (rxValid _ _).mono ?_; rintro e w' ⟨rfl, rfl⟩) | (go_at_call 48; ((with_reducible refine (C1.out _).mono ?_); rintro e w' ⟨rfl, h⟩; replace q0 := Qw.trans q0 h; clear h)) | (go_at_call 48; ((with_reducible refine (C2.out _).mono ?_); rintro e w' ⟨rfl, h⟩; replace q0 := Qw.trans q0 h; clear h)))
            go_ret2
            exact ⟨rfl, q0⟩
      · generalize ln a 21 = x at *
        by_cases c1 : x < -1048576
        · rw [if_neg (by omega), if_neg (by omega)]
          go_enter Try.func54, Try.ntmps54
          go_wp2_with (first | (go_at_call 43; refine (rxValid _ _).mono ?_; rintro e w' ⟨rfl, rfl⟩) | (go_at_call 48; ((with_reducible refine (C1.out _).mono ?_); rintro e w' ⟨rfl, h⟩; replace q0 := Qw.trans q0 h; clear h)) | (go_at_call 48; ((with_reducible refine (C2.out _).mono ?_); rintro e w' ⟨rfl, h⟩; replace q0 := Qw.trans q0 h; clear h)))
          go_ret2
          exact ⟨rfl, q0⟩
        · by_cases c2 : 1048576 < x
          · rw [if_neg (by omega), if_neg (by omega)]
            go_enter Try.func54, Try.ntmps54
            go_wp2_with (first | (go_at_call 43; refine (rxValid _ _).mono ?_; rintro e w' ⟨rfl, rfl⟩) | (go_at_call 48; ((with_reducible refine (C1.out _).mono ?_); rintro e w' ⟨rfl, h⟩; replace q0 := Qw.trans q0 h; clear h)) | (go_at_call 48; ((with_reducible refine (C2.out _).mono ?_); rintro e w' ⟨rfl, h⟩; replace q0 := Qw.trans q0 h; clear h)))
            go_ret2
            exact ⟨rfl, q0⟩
          · rw [if_pos (by omega), if_pos (by omega)]
            go_enter Try.func54, Try.ntmps54
            go_wp2_with (first | (go_at_call 43; refine (rxValid _ _).mono ?_; rintro e w' ⟨rfl, rfl⟩) | (go_at_call 48; ((with_reducible refine (C1.out _).mono ?_); rintro e w' ⟨rfl, h⟩; replace q0 := Qw.trans q0 h; clear h)) | (go_at_call 48; ((with_reducible refine (C2.out _).mono ?_); rintro e w' ⟨rfl, h⟩; replace q0 := Qw.trans q0 h; clear h)))
            go_ret2
            exact ⟨rfl, q0⟩
    · have e : lene a u = 1 := if_neg (fun h => hu h.2)
      rw [show lenv a u = 0 from if_neg (by omega), e]
      have z1 : (u == 20) = false := beq_eq_false_iff_ne.2 (fun h => hu (.inl h))
      have z2 : (u == 21) = false := beq_eq_false_iff_ne.2 (fun h => hu (.inr h))
      have z3 : (u != 20) = true := by rw [bne_iff_ne]; exact fun h => hu (.inl h)
      have z4 : (u != 21) = true := by rw [bne_iff_ne]; exact fun h => hu (.inr h)
      clear e hu
      go_enter Try.func54, Try.ntmps54
      go_wp2_with (go_at_call 43; refine (rxValid _ _).mono ?_; rintro e w' ⟨rfl, rfl⟩)
      go_ret2
      exact ⟨rfl, q0⟩

end Go.Proofs.Ytijakijjeoaikaa
