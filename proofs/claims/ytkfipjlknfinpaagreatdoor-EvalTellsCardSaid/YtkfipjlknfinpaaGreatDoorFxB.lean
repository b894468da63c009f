
/- The walks of the specification of layer 2 on numbers: Valid to Length. -/
import Derived.Test.YtkfipjlknfinpaaGreatDoorL2a
import Derived.Test.YtkfipjlknfinpaaGreatDoorL1b
set_option linter.unusedVariables false
set_option linter.unusedSimpArgs false
namespace Go.Proofs.YtkfipjlknfinpaaGreatDoor
open Go.RowKit

theorem rxValid (n : Int) (w : World) : Calls Tryz.prog 39 #[.int .i64 n] w fun e w' => e = .returned (.bool (vld n)) ∧ w = w' := by
  by_cases h1 : n < -1000000000000000
  · rw [vld_f (.inl h1)]
    go_enter Tryz.func39, Tryz.ntmps39
    go_wp2
    go_ret
    exact ⟨ret_bl (by first | rfl | (simp; omega)), rfl⟩
  · by_cases h2 : 1000000000000000 < n
    · rw [vld_f (.inr h2)]
      go_enter Tryz.func39, Tryz.ntmps39
      go_wp2
      go_ret
      exact ⟨ret_bl (by first | rfl | (simp; omega)), rfl⟩
    · rw [vld_t (by omega) (by omega)]
      go_enter Tryz.func39, Tryz.ntmps39
      go_wp2
      go_ret
      exact ⟨ret_bl (by first | rfl | (simp; omega)), rfl⟩

theorem rxResult (n : Int) (ok : Bool) (w : World) : Calls Tryz.prog 86 #[.int .i64 n, .bool ok] w fun e w' => e = .returned (.tuple #[.int .i64 (tv n ok), .int .i64 (te n ok)]) ∧ w = w' := by
  cases ok
  · rw [show tv n false = 0 from rfl, show te n false = 3 from rfl]
    go_enter Tryz.func86, Tryz.ntmps86
    go_wp2
    go_ret2
    exact ⟨rfl, rfl⟩
  · cases h : vld n
    · have e1 : tv n true = 0 := by unfold tv; rw [h]; rfl
      have e2 : te n true = 3 := by unfold te; rw [h]; rfl
      rw [e1, e2]
      clear e1 e2
      go_enter Tryz.func86, Tryz.ntmps86
      go_wp2_with (go_at_call 39; refine (rxValid _ _).mono ?_; rintro e w' ⟨rfl, rfl⟩)
      go_ret2
      exact ⟨rfl, rfl⟩
    · have e1 : tv n true = n := by unfold tv; rw [h]; rfl
      have e2 : te n true = 0 := by unfold te; rw [h]; rfl
      rw [e1, e2]
      clear e1 e2
      go_enter Tryz.func86, Tryz.ntmps86
      go_wp2_with (go_at_call 39; refine (rxValid _ _).mono ?_; rintro e w' ⟨rfl, rfl⟩)
      go_ret2
      exact ⟨rfl, rfl⟩

theorem rxAdd (a b : Int) (w : World) : Calls Tryz.prog 52 #[.int .i64 a, .int .i64 b] w fun e w' => e = .returned (.tuple #[.int .i64 (addv a b), .int .i64 (adde a b)]) ∧ w = w' := by
  rcases vld_cases a with ⟨ha, a1, a2⟩ | ⟨ha, _⟩
  · rcases vld_cases b with ⟨hb, b1, b2⟩ | ⟨hb, _⟩
    · have e : both a b = true := by unfold both; rw [ha, hb]; rfl
      rw [show addv a b = tv (a + b) true from if_pos e, show adde a b = te (a + b) true from if_pos e]
      clear e
      go_enter Tryz.func52, Tryz.ntmps52
      go_wp2_with (first | (go_at_call 39; refine (rxValid _ _).mono ?_; rintro e w' ⟨rfl, rfl⟩) | (go_at_call 86; refine (rxResult _ _ _).mono ?_; rintro e w' ⟨rfl, rfl⟩))
      go_ret2
      exact ⟨rfl, rfl⟩
    · have e : both a b = false := by unfold both; rw [ha, hb]; rfl
      rw [show addv a b = 0 from if_neg (by rw [e]; decide), show adde a b = 1 from if_neg (by rw [e]; decide)]
      clear e
      go_enter Tryz.func52, Tryz.ntmps52
      go_wp2_with (go_at_call 39; refine (rxValid _ _).mono ?_; rintro e w' ⟨rfl, rfl⟩)
      go_ret2
      exact ⟨rfl, rfl⟩
  · have e : both a b = false := by unfold both; rw [ha]; rfl
    rw [show addv a b = 0 from if_neg (by rw [e]; decide), show adde a b = 1 from if_neg (by rw [e]; decide)]
    clear e
    go_enter Tryz.func52, Tryz.ntmps52
    go_wp2_with (go_at_call 39; refine (rxValid _ _).mono ?_; rintro e w' ⟨rfl, rfl⟩)
    go_ret2
    exact ⟨rfl, rfl⟩

theorem rxSub (a b : Int) (w : World) : Calls Tryz.prog 53 #[.int .i64 a, .int .i64 b] w fun e w' => e = .returned (.tuple #[.int .i64 (subv a b), .int .i64 (sube a b)]) ∧ w = w' := by
  rcases vld_cases a with ⟨ha, a1, a2⟩ | ⟨ha, _⟩
  · rcases vld_cases b with ⟨hb, b1, b2⟩ | ⟨hb, _⟩
    · have e : both a b = true := by unfold both; rw [ha, hb]; rfl
      rw [show subv a b = tv (a - b) true from if_pos e, show sube a b = te (a - b) true from if_pos e]
      clear e
      go_enter Tryz.func53, Tryz.ntmps53
      go_wp2_with (first | (go_at_call 39; refine (rxValid _ _).mono ?_; rintro e w' ⟨rfl, rfl⟩) | (go_at_call 86; refine (rxResult _ _ _).mono ?_; rintro e w' ⟨rfl, rfl⟩))
      go_ret2
      exact ⟨rfl, rfl⟩
    · have e : both a b = false := by unfold both; rw [ha, hb]; rfl
      rw [show subv a b = 0 from if_neg (by rw [e]; decide), show sube a b = 1 from if_neg (by rw [e]; decide)]
      clear e
      go_enter Tryz.func53, Tryz.ntmps53
      go_wp2_with (go_at_call 39; refine (rxValid _ _).mono ?_; rintro e w' ⟨rfl, rfl⟩)
      go_ret2
      exact ⟨rfl, rfl⟩
  · have e : both a b = false := by unfold both; rw [ha]; rfl
    rw [show subv a b = 0 from if_neg (by rw [e]; decide), show sube a b = 1 from if_neg (by rw [e]; decide)]
    clear e
    go_enter Tryz.func53, Tryz.ntmps53
    go_wp2_with (go_at_call 39; refine (rxValid _ _).mono ?_; rintro e w' ⟨rfl, rfl⟩)
    go_ret2
    exact ⟨rfl, rfl⟩

theorem rxMul (a b : Int) (w : World) : Calls Tryz.prog 54 #[.int .i64 a, .int .i64 b] w fun e w' => e = .returned (.tuple #[.int .i64 (mulv a b), .int .i64 (mule a b)]) ∧ Qw w w' := by
  have q0 := Qw.refl w
  rcases vld_cases a with ⟨ha, a1, a2⟩ | ⟨ha, _⟩
  · rcases vld_cases b with ⟨hb, b1, b2⟩ | ⟨hb, _⟩
    · have e : both a b = true := by unfold both; rw [ha, hb]; rfl
      rw [show mulv a b = tv (mdv a b 1000000 2) (mdok a b 1000000 2) from if_pos e, show mule a b = te (mdv a b 1000000 2) (mdok a b 1000000 2) from if_pos e]
      clear e
      go_enter Tryz.func54, Tryz.ntmps54
      go_wp2_with (first | (go_at_call 39; refine (rxValid _ _).mono ?_; rintro e w' ⟨rfl, rfl⟩) | (go_at_call 87; refine (refMulDivW _ _ _ _ (by omega) (by omega) (by omega) (by omega) (by omega) (by omega) _).mono ?_; rintro e w' ⟨rfl, h⟩; replace q0 := Qw.trans q0 h; clear h) | (go_at_call 86; refine (rxResult _ _ _).mono ?_; rintro e w' ⟨rfl, rfl⟩))
      go_ret2
      exact ⟨rfl, q0⟩
    · have e : both a b = false := by unfold both; rw [ha, hb]; rfl
      rw [show mulv a b = 0 from if_neg (by rw [e]; decide), show mule a b = 1 from if_neg (by rw [e]; decide)]
      clear e
      go_enter Tryz.func54, Tryz.ntmps54
      go_wp2_with (go_at_call 39; refine (rxValid _ _).mono ?_; rintro e w' ⟨rfl, rfl⟩)
      go_ret2
      exact ⟨rfl, q0⟩
  · have e : both a b = false := by unfold both; rw [ha]; rfl
    rw [show mulv a b = 0 from if_neg (by rw [e]; decide), show mule a b = 1 from if_neg (by rw [e]; decide)]
    clear e
    go_enter Tryz.func54, Tryz.ntmps54
    go_wp2_with (go_at_call 39; refine (rxValid _ _).mono ?_; rintro e w' ⟨rfl, rfl⟩)
    go_ret2
    exact ⟨rfl, q0⟩

theorem rxDiv (a b : Int) (w : World) : Calls Tryz.prog 55 #[.int .i64 a, .int .i64 b] w fun e w' => e = .returned (.tuple #[.int .i64 (divv a b), .int .i64 (dive a b)]) ∧ Qw w w' := by
  have q0 := Qw.refl w
  rcases dve_cases a b with ⟨h, ha, hb, z⟩ | ⟨h, ha, hb, z⟩ | ⟨h, hh⟩
  · have a1 := vld_bd ha
    have b1 := vld_bd hb
    obtain ⟨a1, a2⟩ := a1
    obtain ⟨b1, b2⟩ := b1
    rw [show divv a b = tv (mdv a 1000000 b 2) (mdok a 1000000 b 2) from if_pos h, show dive a b = te (mdv a 1000000 b 2) (mdok a 1000000 b 2) from if_pos h]
    have zb : (b == 0) = false := beq_eq_false_iff_ne.2 z
    clear z h
    go_enter Tryz.func55, Tryz.ntmps55
    go_wp2_with (first | (go_at_call 39; refine (rxValid _ _).mono ?_; rintro e w' ⟨rfl, rfl⟩) | (go_at_call 87; refine (refMulDivW _ _ _ _ (by omega) (by omega) (by omega) (by omega) (by omega) (by omega) _).mono ?_; rintro e w' ⟨rfl, h⟩; replace q0 := Qw.trans q0 h; clear h) | (go_at_call 86; refine (rxResult _ _ _).mono ?_; rintro e w' ⟨rfl, rfl⟩))
    go_ret2
    exact ⟨rfl, q0⟩
  · rw [show divv a b = 0 from if_neg (by omega), show dive a b = 4 from (if_neg (by omega)).trans h]
    clear h
    subst z
    go_enter Tryz.func55, Tryz.ntmps55
    go_wp2_with (go_at_call 39; refine (rxValid _ _).mono ?_; rintro e w' ⟨rfl, rfl⟩)
    go_ret2
    exact ⟨rfl, q0⟩
  · rw [show divv a b = 0 from if_neg (by omega), show dive a b = 1 from (if_neg (by omega)).trans h]
    clear h
    cases ha : vld a
    · clear hh
      go_enter Tryz.func55, Tryz.ntmps55
      go_wp2_with (go_at_call 39; refine (rxValid _ _).mono ?_; rintro e w' ⟨rfl, rfl⟩)
      go_ret2
      exact ⟨rfl, q0⟩
    · have hb : vld b = false := hh.resolve_left (by rw [ha]; decide)
      clear hh
      go_enter Tryz.func55, Tryz.ntmps55
      go_wp2_with (go_at_call 39; refine (rxValid _ _).mono ?_; rintro e w' ⟨rfl, rfl⟩)
      go_ret2
      exact ⟨rfl, q0⟩

theorem rxMod (a b : Int) (w : World) : Calls Tryz.prog 56 #[.int .i64 a, .int .i64 b] w fun e w' => e = .returned (.tuple #[.int .i64 (modv a b), .int .i64 (dve a b)]) ∧ w = w' := by
  rcases dve_cases a b with ⟨h, ha, hb, z⟩ | ⟨h, ha, hb, z⟩ | ⟨h, hh⟩
  · obtain ⟨a1, a2⟩ := vld_bd ha
    obtain ⟨b1, b2⟩ := vld_bd hb
    rw [show modv a b = a % b from if_pos h, h]
    have zb : (b == 0) = false := beq_eq_false_iff_ne.2 z
    clear h
    by_cases cb : b < 0
    · have nz : (-b == 0) = false := beq_eq_false_iff_ne.2 (by omega)
      have t := tmod_of a (-b) (by omega)
      rw [Int.emod_neg, Int.tmod_neg] at t
      obtain ⟨t0, t1, t2, t3, t4⟩ := t
      have u0 : b < a.tmod b := by have := Int.lt_tmod_of_pos a (b := -b) (by omega); rw [Int.tmod_neg] at this; omega
      have u1 : a.tmod b < -b := by omega
      have T := Lib.hid (And.intro t2 (And.intro t3 t4))
      clear t2 t3 t4
      go_enter Tryz.func56, Tryz.ntmps56
      go_wp2_with (go_at_call 39; refine (rxValid _ _).mono ?_; rintro e w' ⟨rfl, rfl⟩)
      all_goals
        go_ret2
        refine ⟨ret_ii ?_ rfl, rfl⟩
        have t := T.out
        omega
    · obtain ⟨t0, t1, t2, t3, t4⟩ := tmod_of a b (by omega)
      have u0 : -b < a.tmod b := Int.lt_tmod_of_pos a (by omega)
      have u1 : a.tmod b < b := by omega
      have T := Lib.hid (And.intro t2 (And.intro t3 t4))
      clear t2 t3 t4
      go_enter Tryz.func56, Tryz.ntmps56
      go_wp2_with (go_at_call 39; refine (rxValid _ _).mono ?_; rintro e w' ⟨rfl, rfl⟩)
      all_goals
        go_ret2
        refine ⟨ret_ii ?_ rfl, rfl⟩
        have t := T.out
        omega
  · rw [show modv a b = 0 from if_neg (by omega), h]
    clear h
    subst z
    go_enter Tryz.func56, Tryz.ntmps56
    go_wp2_with (go_at_call 39; refine (rxValid _ _).mono ?_; rintro e w' ⟨rfl, rfl⟩)
    go_ret2
    exact ⟨rfl, rfl⟩
  · rw [show modv a b = 0 from if_neg (by omega), h]
    clear h
    cases ha : vld a
    · clear hh
      go_enter Tryz.func56, Tryz.ntmps56
      go_wp2_with (go_at_call 39; refine (rxValid _ _).mono ?_; rintro e w' ⟨rfl, rfl⟩)
      go_ret2
      exact ⟨rfl, rfl⟩
    · have hb : vld b = false := hh.resolve_left (by rw [ha]; decide)
      clear hh
      go_enter Tryz.func56, Tryz.ntmps56
      go_wp2_with (go_at_call 39; refine (rxValid _ _).mono ?_; rintro e w' ⟨rfl, rfl⟩)
      go_ret2
      exact ⟨rfl, rfl⟩

theorem rxSqrt (a : Int) (w : World) : Calls Tryz.prog 92 #[.int .i64 a] w fun e w' => e = .returned (.tuple #[.int .i64 (sqv a), .int .i64 (sqe a)]) ∧ Qw w w' := by
  have q0 := Qw.refl w
  cases h : vld a
  · rw [show sqv a = 0 from if_neg (by rw [h]; decide), show sqe a = 1 from if_neg (by rw [h]; decide)]
    go_enter Tryz.func92, Tryz.ntmps92
    go_wp2_with (go_at_call 39; refine (rxValid _ _).mono ?_; rintro e w' ⟨rfl, rfl⟩)
    go_ret2
    exact ⟨rfl, q0⟩
  · obtain ⟨a1, a2⟩ := vld_bd h
    by_cases c : a < 0
    · rw [show sqv a = 0 from (if_pos h).trans (if_pos c), show sqe a = 5 from (if_pos h).trans (if_pos c)]
      go_enter Tryz.func92, Tryz.ntmps92
      go_wp2_with (go_at_call 39; refine (rxValid _ _).mono ?_; rintro e w' ⟨rfl, rfl⟩)
      go_ret2
      exact ⟨rfl, q0⟩
    · rw [show sqv a = tv (rtv a 1000000 2) (rtok a 1000000 2) from (if_pos h).trans (if_neg c), show sqe a = te (rtv a 1000000 2) (rtok a 1000000 2) from (if_pos h).trans (if_neg c)]
      go_enter Tryz.func92, Tryz.ntmps92
      go_wp2_with (first | (go_at_call 39; refine (rxValid _ _).mono ?_; rintro e w' ⟨rfl, rfl⟩) | (go_at_call 116; refine (refRootW _ _ _ (by omega) (by omega) (by omega) (by omega) _).mono ?_; rintro e w' ⟨rfl, h⟩; replace q0 := Qw.trans q0 h; clear h) | (go_at_call 86; refine (rxResult _ _ _).mono ?_; rintro e w' ⟨rfl, rfl⟩))
      go_ret2
      exact ⟨rfl, q0⟩

theorem rxFloor (a : Int) (a1 : -1000000000000000 ≤ a) (a2 : a ≤ 2000000000000000) (w : World) : Calls Tryz.prog 117 #[.int .i64 a] w fun e w' => e = .returned (.int .i64 (flv a)) ∧ w = w' := by
  unfold flv
  have t := tmod_of a 1000000 (by omega)
  have u0 : -1000000 < a.tmod 1000000 := Int.lt_tmod_of_pos a (by omega)
  have u1 : a.tmod 1000000 < 1000000 := by omega
  have T := Lib.hid t
  clear t
  go_enter Tryz.func117, Tryz.ntmps117
  go_wp2
  all_goals
    go_ret
    refine ⟨ret_i64 ?_, rfl⟩
    have t := T.out
    omega

theorem rxRound (a : Int) (w : World) : Calls Tryz.prog 93 #[.int .i64 a] w fun e w' => e = .returned (.tuple #[.int .i64 (roundv a), .int .i64 (arge a)]) ∧ w = w' := by
  cases h : vld a
  · rw [show arge a = 1 from if_neg (by rw [h]; decide), show roundv a = 0 from if_neg (by rw [h]; decide)]
    go_enter Tryz.func93, Tryz.ntmps93
    go_wp2_with (go_at_call 39; refine (rxValid _ _).mono ?_; rintro e w' ⟨rfl, rfl⟩)
    go_ret2
    exact ⟨rfl, rfl⟩
  · obtain ⟨a1, a2⟩ := vld_bd h
    rw [show arge a = 0 from if_pos h, show roundv a = flv (a + 500000) from if_pos h]
    go_enter Tryz.func93, Tryz.ntmps93
    go_wp2_with (first | (go_at_call 39; refine (rxValid _ _).mono ?_; rintro e w' ⟨rfl, rfl⟩) | (go_at_call 117; refine (rxFloor _ (by omega) (by omega) _).mono ?_; rintro e w' ⟨rfl, rfl⟩))
    go_ret2
    exact ⟨rfl, rfl⟩

theorem rxFix (a : Int) (w : World) : Calls Tryz.prog 94 #[.int .i64 a] w fun e w' => e = .returned (.tuple #[.int .i64 (fixv a), .int .i64 (arge a)]) ∧ w = w' := by
  cases h : vld a
  · rw [show arge a = 1 from if_neg (by rw [h]; decide), show fixv a = 0 from if_neg (by rw [h]; decide)]
    go_enter Tryz.func94, Tryz.ntmps94
    go_wp2_with (go_at_call 39; refine (rxValid _ _).mono ?_; rintro e w' ⟨rfl, rfl⟩)
    go_ret2
    exact ⟨rfl, rfl⟩
  · obtain ⟨a1, a2⟩ := vld_bd h
    rw [show arge a = 0 from if_pos h]
    have t := tmod_of a 1000000 (by omega)
    have u0 : -1000000 < a.tmod 1000000 := Int.lt_tmod_of_pos a (by omega)
    have u1 : a.tmod 1000000 < 1000000 := by omega
    have e : fixv a = if a < 0 then clv a else flv a := if_pos h
    have D := Lib.hid (And.intro t e)
    clear t e
    generalize fixv a = r at *
    by_cases c : a < 0
    all_goals
      go_enter Tryz.func94, Tryz.ntmps94
      go_wp2_with (go_at_call 39; refine (rxValid _ _).mono ?_; rintro e w' ⟨rfl, rfl⟩)
      all_goals
        go_ret2
        refine ⟨ret_ii ?_ rfl, rfl⟩
        obtain ⟨t, e⟩ := D.out
        first | rw [if_pos c] at e | rw [if_neg (show ¬ a < 0 by omega)] at e
        simp only [clv, flv] at e
        omega

theorem rxFup (a : Int) (w : World) : Calls Tryz.prog 95 #[.int .i64 a] w fun e w' => e = .returned (.tuple #[.int .i64 (fupv a), .int .i64 (arge a)]) ∧ w = w' := by
  cases h : vld a
  · rw [show arge a = 1 from if_neg (by rw [h]; decide), show fupv a = 0 from if_neg (by rw [h]; decide)]
    go_enter Tryz.func95, Tryz.ntmps95
    go_wp2_with (go_at_call 39; refine (rxValid _ _).mono ?_; rintro e w' ⟨rfl, rfl⟩)
    go_ret2
    exact ⟨rfl, rfl⟩
  · obtain ⟨a1, a2⟩ := vld_bd h
    rw [show arge a = 0 from if_pos h]
    have t := tmod_of a 1000000 (by omega)
    have u0 : -1000000 < a.tmod 1000000 := Int.lt_tmod_of_pos a (by omega)
    have u1 : a.tmod 1000000 < 1000000 := by omega
    have e : fupv a = if a < 0 then flv a else clv a := if_pos h
    have D := Lib.hid (And.intro t e)
    clear t e
    generalize fupv a = r at *
    by_cases c : a < 0
    all_goals
      go_enter Tryz.func95, Tryz.ntmps95
      go_wp2_with (go_at_call 39; refine (rxValid _ _).mono ?_; rintro e w' ⟨rfl, rfl⟩)
      all_goals
        go_ret2
        refine ⟨ret_ii ?_ rfl, rfl⟩
        obtain ⟨t, e⟩ := D.out
        first | rw [if_pos c] at e | rw [if_neg (show ¬ a < 0 by omega)] at e
        simp only [clv, flv] at e
        omega

theorem rxWhole (a : Int) (w : World) : Calls Tryz.prog 50 #[.int .i64 a] w fun e w' => e = .returned (.tuple #[.int .i64 (wholev a), .bool (whole a)]) ∧ w = w' := by
  cases h : vld a
  · have e : whole a = false := by unfold whole; rw [h]; rfl
    rw [show wholev a = 0 from if_neg (by rw [e]; decide), e]
    clear e
    go_enter Tryz.func50, Tryz.ntmps50
    go_wp2_with (go_at_call 39; refine (rxValid _ _).mono ?_; rintro e w' ⟨rfl, rfl⟩)
    go_ret2
    exact ⟨rfl, rfl⟩
  · obtain ⟨a1, a2⟩ := vld_bd h
    have t := tmod_of a 1000000 (by omega)
    by_cases c : a % 1000000 = 0
    · have e : whole a = true := by unfold whole; rw [h, decide_eq_true c]; rfl
      have d : a.tdiv 1000000 = a / 1000000 := by
        obtain ⟨k, hk⟩ : ∃ k, a = 1000000 * k := ⟨a / 1000000, by omega⟩
        rw [hk, Int.mul_tdiv_cancel_left _ (by decide), Int.mul_ediv_cancel_left _ (by decide)]
      rw [show wholev a = a / 1000000 from if_pos e, e]
      have z : a.tmod 1000000 = 0 := Int.tmod_eq_zero_of_dvd (Int.dvd_of_emod_eq_zero c)
      clear e t
      by_cases s : 0 ≤ a
      · clear z d
        go_enter Tryz.func50, Tryz.ntmps50
        go_wp2_with (go_at_call 39; refine (rxValid _ _).mono ?_; rintro e w' ⟨rfl, rfl⟩)
        go_ret2
        exact ⟨rfl, rfl⟩
      · clear c
        have D := Lib.hid d
        clear d
        go_enter Tryz.func50, Tryz.ntmps50
        go_wp2_with (go_at_call 39; refine (rxValid _ _).mono ?_; rintro e w' ⟨rfl, rfl⟩)
        go_ret2
        exact ⟨ret_ib (by have := D.out; omega) rfl, rfl⟩
    · have e : whole a = false := by unfold whole; rw [h, decide_eq_false c]; rfl
      rw [show wholev a = 0 from if_neg (by rw [e]; decide), e]
      have z : (a.tmod 1000000 == 0) = false := beq_eq_false_iff_ne.2 (by omega)
      have z' : (a % 1000000 == 0) = false := beq_eq_false_iff_ne.2 c
      clear e t
      by_cases s : 0 ≤ a
      · clear z
        go_enter Tryz.func50, Tryz.ntmps50
        go_wp2_with (go_at_call 39; refine (rxValid _ _).mono ?_; rintro e w' ⟨rfl, rfl⟩)
        go_ret2
        exact ⟨rfl, rfl⟩
      · clear z'
        go_enter Tryz.func50, Tryz.ntmps50
        go_wp2_with (go_at_call 39; refine (rxValid _ _).mono ?_; rintro e w' ⟨rfl, rfl⟩)
        go_ret2
        exact ⟨rfl, rfl⟩

end Go.Proofs.YtkfipjlknfinpaaGreatDoor
