
/- The walks of package fixed on numbers: Valid to Length. -/
import Derived.Test.YtijakijjeoaikaaFxQ
set_option linter.unusedVariables false
set_option linter.unusedSimpArgs false
namespace Go.Proofs.Ytijakijjeoaikaa
open Go.RowKit

theorem ret_ii {a b c d : Int} (h : a = b) (g : c = d) : Ending.returned (.tuple #[.int .i64 a, .int .i64 c]) = .returned (.tuple #[.int .i64 b, .int .i64 d]) := by rw [h, g]
theorem ret_bl {a b : Bool} (h : a = b) : Ending.returned (.bool a) = .returned (.bool b) := by rw [h]

theorem fxValid (n : Int) (w : World) : Calls Try.prog 46 #[.int .i64 n] w fun e w' => e = .returned (.bool (vld n)) ∧ w = w' := by
  by_cases h1 : n < -1000000000000000
  · rw [vld_f (.inl h1)]
    go_enter Try.func46, Try.ntmps46
    go_wp2
    go_ret
    exact ⟨ret_bl (by first | rfl | (simp; omega)), rfl⟩
  · by_cases h2 : 1000000000000000 < n
    · rw [vld_f (.inr h2)]
      go_enter Try.func46, Try.ntmps46
      go_wp2
      go_ret
      exact ⟨ret_bl (by first | rfl | (simp; omega)), rfl⟩
    · rw [vld_t (by omega) (by omega)]
      go_enter Try.func46, Try.ntmps46
      go_wp2
      go_ret
      exact ⟨ret_bl (by first | rfl | (simp; omega)), rfl⟩

theorem dve_cases (a b : Int) : dve a b = 0 ∧ vld a = true ∧ vld b = true ∧ b ≠ 0 ∨ dve a b = 4 ∧ vld a = true ∧ vld b = true ∧ b = 0 ∨ dve a b = 1 ∧ (vld a = false ∨ vld b = false) := by
  unfold dve both
  cases ha : vld a
  · exact .inr (.inr ⟨rfl, .inl rfl⟩)
  · cases hb : vld b
    · exact .inr (.inr ⟨rfl, .inr rfl⟩)
    · by_cases z : b = 0
      · exact .inr (.inl ⟨by simp [z], rfl, rfl, z⟩)
      · exact .inl ⟨by simp [z], rfl, rfl, z⟩

/-- The rounded number. -/
def intv (m a : Int) : Int := if vld a = true then qv m a 1000000 * 1000000 else 0

theorem fxWhole (a : Int) (w : World) : Calls Try.prog 55 #[.int .i64 a] w fun e w' => e = .returned (.tuple #[.int .i64 (wholev a), .bool (whole a)]) ∧ w = w' := by
  cases h : vld a
  · have e : whole a = false := by unfold whole; rw [h]; rfl
    rw [show wholev a = 0 from if_neg (by rw [e]; decide), e]
    clear e
    go_enter Try.func55, Try.ntmps55
    go_wp2_with (go_at_call 46; refine (fxValid _ _).mono ?_; rintro e w' ⟨rfl, rfl⟩)
    go_ret2
    exact ⟨rfl, rfl⟩
  · obtain ⟨a1, a2⟩ := vld_bd h
    have t := tmod_of a 1000000 (by omega)
    by_cases c : a % 1000000 = 0
    · have e : whole a = true := by unfold whole; rw [h, decide_eq_true c]; rfl
      have d : a.tdiv 1000000 = a / 1000000 := by
        obtain ⟨k, hk⟩ : ∃ k, a = 1000000 * k := ⟨a / 1000000, by omega⟩
        rw [hk, Int.mul_tdiv_cancel_left _ (by decide), Int.mul_ediv_cancel_left _ (by decide)]
      rw [show wholev a = a / 1000000 from if_pos e, e]
      have z : a.tmod 1000000 = 0 := Int.tmod_eq_zero_of_dvd (Int.dvd_of_emod_eq_zero c)
      clear e t
      by_cases s : 0 ≤ a
      · clear z d
        go_enter Try.func55, Try.ntmps55
        go_wp2_with (go_at_call 46; refine (fxValid _ _).mono ?_; rintro e w' ⟨rfl, rfl⟩)
        go_ret2
        exact ⟨rfl, rfl⟩
      · clear c
        have D := Lib.hid d
        clear d
        go_enter Try.func55, Try.ntmps55
        go_wp2_with (go_at_call 46; refine (fxValid _ _).mono ?_; rintro e w' ⟨rfl, rfl⟩)
        go_ret2
        exact ⟨ret_ib (by have := D.out; omega) rfl, rfl⟩
    · have e : whole a = false := by unfold whole; rw [h, decide_eq_false c]; rfl
      rw [show wholev a = 0 from if_neg (by rw [e]; decide), e]
      have z : (a.tmod 1000000 == 0) = false := beq_eq_false_iff_ne.2 (by omega)
      have z' : (a % 1000000 == 0) = false := beq_eq_false_iff_ne.2 c
      clear e t
      by_cases s : 0 ≤ a
      · clear z
        go_enter Try.func55, Try.ntmps55
        go_wp2_with (go_at_call 46; refine (fxValid _ _).mono ?_; rintro e w' ⟨rfl, rfl⟩)
        go_ret2
        exact ⟨rfl, rfl⟩
      · clear z'
        go_enter Try.func55, Try.ntmps55
        go_wp2_with (go_at_call 46; refine (fxValid _ _).mono ?_; rintro e w' ⟨rfl, rfl⟩)
        go_ret2
        exact ⟨rfl, rfl⟩

/-- Whether there is such a unit. -/
def unit (u : Int) : Bool := decide (u = 20 ∨ u = 21)
theorem fxUnit (u : Int) (w : World) : Calls Try.prog 57 #[.int .i64 u] w fun e w' => e = .returned (.tuple #[.int .i64 (if u = 20 then 25400 else if u = 21 then 1000 else 0), .bool (unit u)]) ∧ w = w' := by
  by_cases c : u = 20
  · subst c
    rw [if_pos rfl, show unit 20 = true from rfl]
    go_enter Try.func57, Try.ntmps57
    go_wp2
    go_ret2
    exact ⟨rfl, rfl⟩
  · by_cases d : u = 21
    · subst d
      rw [if_neg (by decide), if_pos rfl, show unit 21 = true from rfl]
      go_enter Try.func57, Try.ntmps57
      go_wp2
      go_ret2
      exact ⟨rfl, rfl⟩
    · rw [if_neg c, if_neg d, show unit u = false from decide_eq_false (by omega)]
      have c' : (u == 20) = false := beq_eq_false_iff_ne.2 c
      have d' : (u == 21) = false := beq_eq_false_iff_ne.2 d
      go_enter Try.func57, Try.ntmps57
      go_wp2
      go_ret2
      exact ⟨rfl, rfl⟩

theorem fxLength (a u : Int) (w : World) : Calls Try.prog 45 #[.int .i64 a, .int .i64 u] w fun e w' => e = .returned (.tuple #[.int .i64 (lenv a u), .int .i64 (lene a u)]) ∧ Qw w w' := by
  have q0 := Qw.refl w
  by_cases hu : u = 20 ∨ u = 21
  · have eu : unit u = true := decide_eq_true hu
    cases h : vld a
    · have e : lene a u = 1 := if_neg (by rw [h]; simp)
      rw [show lenv a u = 0 from if_neg (by omega), e]
      clear e
      rcases hu with rfl | rfl
      · clear eu
        go_enter Try.func45, Try.ntmps45
        go_wp2_with (first | (go_at_call 57; refine (fxUnit _ _).mono ?_; rintro e w' ⟨rfl, rfl⟩) | (go_at_call 46; refine (fxValid _ _).mono ?_; rintro e w' ⟨rfl, rfl⟩))
        go_ret2
        exact ⟨rfl, q0⟩
      · clear eu
        go_enter Try.func45, Try.ntmps45
        go_wp2_with (first | (go_at_call 57; refine (fxUnit _ _).mono ?_; rintro e w' ⟨rfl, rfl⟩) | (go_at_call 46; refine (fxValid _ _).mono ?_; rintro e w' ⟨rfl, rfl⟩))
        go_ret2
        exact ⟨rfl, q0⟩
    · obtain ⟨a1, a2⟩ := vld_bd h
      obtain ⟨k, v⟩ := md_len a u h
      have c1 := fun w => muldivW a (if u = 20 then 25400 else 1000) 1000000 2 (by omega) (by omega) (by split <;> omega) (by split <;> omega) (by omega) (by omega) w
      rw [k, v] at c1
      have C1 := Lib.hid c1
      have e : lene a u = if -1048576 ≤ ln a u ∧ ln a u ≤ 1048576 then 0 else 3 := if_pos ⟨h, hu⟩
      have e2 : lenv a u = if -1048576 ≤ ln a u ∧ ln a u ≤ 1048576 then ln a u else 0 := by unfold lenv; rw [e]; split <;> simp
      rw [e, e2]
      clear k v c1 e e2
      generalize ln a u = x at *
      by_cases c1 : x < -1048576
      · rw [if_neg (by omega), if_neg (by omega)]
        rcases hu with rfl | rfl
        · clear eu
          rw [if_pos rfl] at C1
          go_enter Try.func45, Try.ntmps45
          go_wp2_with (first | (go_at_call 57; refine (fxUnit _ _).mono ?_; rintro e w' ⟨rfl, rfl⟩) | (go_at_call 46; refine (fxValid _ _).mono ?_; rintro e w' ⟨rfl, rfl⟩) | (go_at_call 47; refine (C1.out _).mono ?_; rintro e w' ⟨rfl, h⟩; replace q0 := Qw.trans q0 h; clear h))
          go_ret2
          exact ⟨rfl, q0⟩
        · clear eu
          rw [if_neg (by decide)] at C1
          go_enter Try.func45, Try.ntmps45
          go_wp2_with (first | (go_at_call 57; refine (fxUnit _ _).mono ?_; rintro e w' ⟨rfl, rfl⟩) | (go_at_call 46; refine (fxValid _ _).mono ?_; rintro e w' ⟨rfl, rfl⟩) | (go_at_call 47; refine (C1.out _).mono ?_; rintro e w' ⟨rfl, h⟩; replace q0 := Qw.trans q0 h; clear h))
          go_ret2
          exact ⟨rfl, q0⟩
      · by_cases c2 : 1048576 < x
        · rw [if_neg (by omega), if_neg (by omega)]
          rcases hu with rfl | rfl
          · clear eu
            rw [if_pos rfl] at C1
            go_enter Try.func45, Try.ntmps45
            go_wp2_with (first | (go_at_call 57; refine (fxUnit _ _).mono ?_; rintro e w' ⟨rfl, rfl⟩) | (go_at_call 46; refine (fxValid _ _).mono ?_; rintro e w' ⟨rfl, rfl⟩) | (go_at_call 47; refine (C1.out _).mono ?_; rintro e w' ⟨rfl, h⟩; replace q0 := Qw.trans q0 h; clear h))
            go_ret2
            exact ⟨rfl, q0⟩
          · clear eu
            rw [if_neg (by decide)] at C1
            go_enter Try.func45, Try.ntmps45
            go_wp2_with (first | (go_at_call 57; refine (fxUnit _ _).mono ?_; rintro e w' ⟨rfl, rfl⟩) | (go_at_call 46; refine (fxValid _ _).mono ?_; rintro e w' ⟨rfl, rfl⟩) | (go_at_call 47; refine (C1.out _).mono ?_; rintro e w' ⟨rfl, h⟩; replace q0 := Qw.trans q0 h; clear h))
            go_ret2
            exact ⟨rfl, q0⟩
        · rw [if_pos (by omega), if_pos (by omega)]
          rcases hu with rfl | rfl
          · clear eu
            rw [if_pos rfl] at C1
            go_enter Try.func45, Try.ntmps45
            go_wp2_with (first | (go_at_call 57; refine (fxUnit _ _).mono ?_; rintro e w' ⟨rfl, rfl⟩) | (go_at_call 46; refine (fxValid _ _).mono ?_; rintro e w' ⟨rfl, rfl⟩) | (go_at_call 47; refine (C1.out _).mono ?_; rintro e w' ⟨rfl, h⟩; replace q0 := Qw.trans q0 h; clear h))
            go_ret2
            exact ⟨rfl, q0⟩
          · clear eu
            rw [if_neg (by decide)] at C1
            go_enter Try.func45, Try.ntmps45
            go_wp2_with (first | (go_at_call 57; refine (fxUnit _ _).mono ?_; rintro e w' ⟨rfl, rfl⟩) | (go_at_call 46; refine (fxValid _ _).mono ?_; rintro e w' ⟨rfl, rfl⟩) | (go_at_call 47; refine (C1.out _).mono ?_; rintro e w' ⟨rfl, h⟩; replace q0 := Qw.trans q0 h; clear h))
            go_ret2
            exact ⟨rfl, q0⟩
  · have eu : unit u = false := decide_eq_false hu
    have e : lene a u = 1 := if_neg (fun h => hu h.2)
    rw [show lenv a u = 0 from if_neg (by omega), e]
    clear e
    go_enter Try.func45, Try.ntmps45
    go_wp2_with (go_at_call 57; refine (fxUnit _ _).mono ?_; rintro e w' ⟨rfl, rfl⟩)
    go_ret2
    exact ⟨rfl, q0⟩

end Go.Proofs.Ytijakijjeoaikaa
