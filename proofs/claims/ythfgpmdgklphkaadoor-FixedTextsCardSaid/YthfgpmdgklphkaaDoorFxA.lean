
/- The walks of package fixed on numbers: Valid to Length. -/
import Derived.Test.YthfgpmdgklphkaaDoorFxQ
set_option linter.unusedVariables false
set_option linter.unusedSimpArgs false
namespace Go.Proofs.YthfgpmdgklphkaaDoor
open Go.RowKit

theorem ret_ii {a b c d : Int} (h : a = b) (g : c = d) : Ending.returned (.tuple #[.int .i64 a, .int .i64 c]) = .returned (.tuple #[.int .i64 b, .int .i64 d]) := by rw [h, g]
theorem ret_bl {a b : Bool} (h : a = b) : Ending.returned (.bool a) = .returned (.bool b) := by rw [h]

theorem fxValid (n : Int) (w : World) : Calls Tryd.prog 24 #[.int .i64 n] w fun e w' => e = .returned (.bool (vld n)) ∧ w = w' := by
  by_cases h1 : n < -1000000000000000
  · rw [vld_f (.inl h1)]
    go_enter Tryd.func24, Tryd.ntmps24
    go_wp2
    go_ret
    exact ⟨ret_bl (by first | rfl | (simp; omega)), rfl⟩
  · by_cases h2 : 1000000000000000 < n
    · rw [vld_f (.inr h2)]
      go_enter Tryd.func24, Tryd.ntmps24
      go_wp2
      go_ret
      exact ⟨ret_bl (by first | rfl | (simp; omega)), rfl⟩
    · rw [vld_t (by omega) (by omega)]
      go_enter Tryd.func24, Tryd.ntmps24
      go_wp2
      go_ret
      exact ⟨ret_bl (by first | rfl | (simp; omega)), rfl⟩

theorem fxResult (n : Int) (ok : Bool) (w : World) : Calls Tryd.prog 64 #[.int .i64 n, .bool ok] w fun e w' => e = .returned (.tuple #[.int .i64 (tv n ok), .int .i64 (te n ok)]) ∧ w = w' := by
  cases ok
  · rw [show tv n false = 0 from rfl, show te n false = 3 from rfl]
    go_enter Tryd.func64, Tryd.ntmps64
    go_wp2
    go_ret2
    exact ⟨rfl, rfl⟩
  · cases h : vld n
    · have e1 : tv n true = 0 := by unfold tv; rw [h]; rfl
      have e2 : te n true = 3 := by unfold te; rw [h]; rfl
      rw [e1, e2]
      clear e1 e2
      go_enter Tryd.func64, Tryd.ntmps64
      go_wp2_with (go_at_call 24; refine (fxValid _ _).mono ?_; rintro e w' ⟨rfl, rfl⟩)
      go_ret2
      exact ⟨rfl, rfl⟩
    · have e1 : tv n true = n := by unfold tv; rw [h]; rfl
      have e2 : te n true = 0 := by unfold te; rw [h]; rfl
      rw [e1, e2]
      clear e1 e2
      go_enter Tryd.func64, Tryd.ntmps64
      go_wp2_with (go_at_call 24; refine (fxValid _ _).mono ?_; rintro e w' ⟨rfl, rfl⟩)
      go_ret2
      exact ⟨rfl, rfl⟩

theorem fxAdd (a b : Int) (w : World) : Calls Tryd.prog 47 #[.int .i64 a, .int .i64 b] w fun e w' => e = .returned (.tuple #[.int .i64 (addv a b), .int .i64 (adde a b)]) ∧ w = w' := by
  rcases vld_cases a with ⟨ha, a1, a2⟩ | ⟨ha, _⟩
  · rcases vld_cases b with ⟨hb, b1, b2⟩ | ⟨hb, _⟩
    · have e : both a b = true := by unfold both; rw [ha, hb]; rfl
      rw [show addv a b = tv (a + b) true from if_pos e, show adde a b = te (a + b) true from if_pos e]
      clear e
      go_enter Tryd.func47, Tryd.ntmps47
      go_wp2_with (first | (go_at_call 24; refine (fxValid _ _).mono ?_; rintro e w' ⟨rfl, rfl⟩) | (go_at_call 64; refine (fxResult _ _ _).mono ?_; rintro e w' ⟨rfl, rfl⟩))
      go_ret2
      exact ⟨rfl, rfl⟩
    · have e : both a b = false := by unfold both; rw [ha, hb]; rfl
      rw [show addv a b = 0 from if_neg (by rw [e]; decide), show adde a b = 1 from if_neg (by rw [e]; decide)]
      clear e
      go_enter Tryd.func47, Tryd.ntmps47
      go_wp2_with (go_at_call 24; refine (fxValid _ _).mono ?_; rintro e w' ⟨rfl, rfl⟩)
      go_ret2
      exact ⟨rfl, rfl⟩
  · have e : both a b = false := by unfold both; rw [ha]; rfl
    rw [show addv a b = 0 from if_neg (by rw [e]; decide), show adde a b = 1 from if_neg (by rw [e]; decide)]
    clear e
    go_enter Tryd.func47, Tryd.ntmps47
    go_wp2_with (go_at_call 24; refine (fxValid _ _).mono ?_; rintro e w' ⟨rfl, rfl⟩)
    go_ret2
    exact ⟨rfl, rfl⟩

theorem fxSub (a b : Int) (w : World) : Calls Tryd.prog 48 #[.int .i64 a, .int .i64 b] w fun e w' => e = .returned (.tuple #[.int .i64 (subv a b), .int .i64 (sube a b)]) ∧ w = w' := by
  rcases vld_cases a with ⟨ha, a1, a2⟩ | ⟨ha, _⟩
  · rcases vld_cases b with ⟨hb, b1, b2⟩ | ⟨hb, _⟩
    · have e : both a b = true := by unfold both; rw [ha, hb]; rfl
      rw [show subv a b = tv (a - b) true from if_pos e, show sube a b = te (a - b) true from if_pos e]
      clear e
      go_enter Tryd.func48, Tryd.ntmps48
      go_wp2_with (first | (go_at_call 24; refine (fxValid _ _).mono ?_; rintro e w' ⟨rfl, rfl⟩) | (go_at_call 64; refine (fxResult _ _ _).mono ?_; rintro e w' ⟨rfl, rfl⟩))
      go_ret2
      exact ⟨rfl, rfl⟩
    · have e : both a b = false := by unfold both; rw [ha, hb]; rfl
      rw [show subv a b = 0 from if_neg (by rw [e]; decide), show sube a b = 1 from if_neg (by rw [e]; decide)]
      clear e
      go_enter Tryd.func48, Tryd.ntmps48
      go_wp2_with (go_at_call 24; refine (fxValid _ _).mono ?_; rintro e w' ⟨rfl, rfl⟩)
      go_ret2
      exact ⟨rfl, rfl⟩
  · have e : both a b = false := by unfold both; rw [ha]; rfl
    rw [show subv a b = 0 from if_neg (by rw [e]; decide), show sube a b = 1 from if_neg (by rw [e]; decide)]
    clear e
    go_enter Tryd.func48, Tryd.ntmps48
    go_wp2_with (go_at_call 24; refine (fxValid _ _).mono ?_; rintro e w' ⟨rfl, rfl⟩)
    go_ret2
    exact ⟨rfl, rfl⟩

theorem fxMul (a b : Int) (w : World) : Calls Tryd.prog 50 #[.int .i64 a, .int .i64 b] w fun e w' => e = .returned (.tuple #[.int .i64 (mulv a b), .int .i64 (mule a b)]) ∧ Qw w w' := by
  have q0 := Qw.refl w
  rcases vld_cases a with ⟨ha, a1, a2⟩ | ⟨ha, _⟩
  · rcases vld_cases b with ⟨hb, b1, b2⟩ | ⟨hb, _⟩
    · have e : both a b = true := by unfold both; rw [ha, hb]; rfl
      rw [show mulv a b = tv (mdv a b 1000000 2) (mdok a b 1000000 2) from if_pos e, show mule a b = te (mdv a b 1000000 2) (mdok a b 1000000 2) from if_pos e]
      clear e
      go_enter Tryd.func50, Tryd.ntmps50
      go_wp2_with (first | (go_at_call 24; refine (fxValid _ _).mono ?_; rintro e w' ⟨rfl, rfl⟩) | (go_at_call 71; refine (muldivW _ _ _ _ (by omega) (by omega) (by omega) (by omega) (by omega) (by omega) _).mono ?_; rintro e w' ⟨rfl, h⟩; replace q0 := Qw.trans q0 h; clear h) | (go_at_call 64; refine (fxResult _ _ _).mono ?_; rintro e w' ⟨rfl, rfl⟩))
      go_ret2
      exact ⟨rfl, q0⟩
    · have e : both a b = false := by unfold both; rw [ha, hb]; rfl
      rw [show mulv a b = 0 from if_neg (by rw [e]; decide), show mule a b = 1 from if_neg (by rw [e]; decide)]
      clear e
      go_enter Tryd.func50, Tryd.ntmps50
      go_wp2_with (go_at_call 24; refine (fxValid _ _).mono ?_; rintro e w' ⟨rfl, rfl⟩)
      go_ret2
      exact ⟨rfl, q0⟩
  · have e : both a b = false := by unfold both; rw [ha]; rfl
    rw [show mulv a b = 0 from if_neg (by rw [e]; decide), show mule a b = 1 from if_neg (by rw [e]; decide)]
    clear e
    go_enter Tryd.func50, Tryd.ntmps50
    go_wp2_with (go_at_call 24; refine (fxValid _ _).mono ?_; rintro e w' ⟨rfl, rfl⟩)
    go_ret2
    exact ⟨rfl, q0⟩

theorem fxCheck (a b : Int) (w : World) : Calls Tryd.prog 73 #[.int .i64 a, .int .i64 b] w fun e w' => e = .returned (.int .i64 (dve a b)) ∧ w = w' := by
  rcases vld_cases a with ⟨ha, a1, a2⟩ | ⟨ha, _⟩
  · rcases vld_cases b with ⟨hb, b1, b2⟩ | ⟨hb, _⟩
    · by_cases z : b = 0
      · have e : dve a b = 4 := by unfold dve both; rw [ha, hb]; simp [z]
        rw [e]
        clear e
        subst z
        go_enter Tryd.func73, Tryd.ntmps73
        go_wp2_with (go_at_call 24; refine (fxValid _ _).mono ?_; rintro e w' ⟨rfl, rfl⟩)
        go_ret
        exact ⟨rfl, rfl⟩
      · have e : dve a b = 0 := by unfold dve both; rw [ha, hb]; simp [z]
        rw [e]
        clear e
        have zb : (b == 0) = false := beq_eq_false_iff_ne.2 z
        go_enter Tryd.func73, Tryd.ntmps73
        go_wp2_with (go_at_call 24; refine (fxValid _ _).mono ?_; rintro e w' ⟨rfl, rfl⟩)
        go_ret
        exact ⟨rfl, rfl⟩
    · have e : dve a b = 1 := by unfold dve both; rw [ha, hb]; rfl
      rw [e]
      clear e
      go_enter Tryd.func73, Tryd.ntmps73
      go_wp2_with (go_at_call 24; refine (fxValid _ _).mono ?_; rintro e w' ⟨rfl, rfl⟩)
      go_ret
      exact ⟨rfl, rfl⟩
  · have e : dve a b = 1 := by unfold dve both; rw [ha]; rfl
    rw [e]
    clear e
    go_enter Tryd.func73, Tryd.ntmps73
    go_wp2_with (go_at_call 24; refine (fxValid _ _).mono ?_; rintro e w' ⟨rfl, rfl⟩)
    go_ret
    exact ⟨rfl, rfl⟩

theorem dve_cases (a b : Int) : dve a b = 0 ∧ vld a = true ∧ vld b = true ∧ b ≠ 0 ∨ dve a b = 4 ∧ vld a = true ∧ vld b = true ∧ b = 0 ∨ dve a b = 1 ∧ (vld a = false ∨ vld b = false) := by
  unfold dve both
  cases ha : vld a
  · exact .inr (.inr ⟨rfl, .inl rfl⟩)
  · cases hb : vld b
    · exact .inr (.inr ⟨rfl, .inr rfl⟩)
    · by_cases z : b = 0
      · exact .inr (.inl ⟨by simp [z], rfl, rfl, z⟩)
      · exact .inl ⟨by simp [z], rfl, rfl, z⟩

theorem fxDiv (a b : Int) (w : World) : Calls Tryd.prog 49 #[.int .i64 a, .int .i64 b] w fun e w' => e = .returned (.tuple #[.int .i64 (divv a b), .int .i64 (dive a b)]) ∧ Qw w w' := by
  have q0 := Qw.refl w
  rcases dve_cases a b with ⟨h, ha, hb, z⟩ | ⟨h, hh⟩ | ⟨h, hh⟩
  · have a1 := vld_bd ha
    have b1 := vld_bd hb
    obtain ⟨a1, a2⟩ := a1
    obtain ⟨b1, b2⟩ := b1
    rw [show divv a b = tv (mdv a 1000000 b 2) (mdok a 1000000 b 2) from if_pos h, show dive a b = te (mdv a 1000000 b 2) (mdok a 1000000 b 2) from if_pos h]
    go_enter Tryd.func49, Tryd.ntmps49
    go_wp2_with (first | (go_at_call 73; refine (fxCheck _ _ _).mono ?_; rintro e w' ⟨rfl, rfl⟩) | (go_at_call 71; refine (muldivW _ _ _ _ (by omega) (by omega) (by omega) (by omega) (by omega) (by omega) _).mono ?_; rintro e w' ⟨rfl, h⟩; replace q0 := Qw.trans q0 h; clear h) | (go_at_call 64; refine (fxResult _ _ _).mono ?_; rintro e w' ⟨rfl, rfl⟩))
    go_ret2
    exact ⟨rfl, q0⟩
  · clear hh
    rw [show divv a b = 0 from if_neg (by omega), show dive a b = 4 from (if_neg (by omega)).trans h]
    go_enter Tryd.func49, Tryd.ntmps49
    go_wp2_with (go_at_call 73; refine (fxCheck _ _ _).mono ?_; rintro e w' ⟨rfl, rfl⟩)
    go_ret2
    exact ⟨rfl, q0⟩
  · clear hh
    rw [show divv a b = 0 from if_neg (by omega), show dive a b = 1 from (if_neg (by omega)).trans h]
    go_enter Tryd.func49, Tryd.ntmps49
    go_wp2_with (go_at_call 73; refine (fxCheck _ _ _).mono ?_; rintro e w' ⟨rfl, rfl⟩)
    go_ret2
    exact ⟨rfl, q0⟩

theorem fxMod (a b : Int) (w : World) : Calls Tryd.prog 51 #[.int .i64 a, .int .i64 b] w fun e w' => e = .returned (.tuple #[.int .i64 (modv a b), .int .i64 (dve a b)]) ∧ w = w' := by
  rcases dve_cases a b with ⟨h, ha, hb, z⟩ | ⟨h, hh⟩ | ⟨h, hh⟩
  · obtain ⟨a1, a2⟩ := vld_bd ha
    obtain ⟨b1, b2⟩ := vld_bd hb
    rw [show modv a b = a % b from if_pos h, h]
    by_cases cb : b < 0
    · have mx : max b (-b) = -b := by omega
      have nz : (-b == 0) = false := beq_eq_false_iff_ne.2 (by omega)
      have t := tmod_of a (-b) (by omega)
      rw [Int.emod_neg, Int.tmod_neg] at t
      obtain ⟨t0, t1, t2, t3, t4⟩ := t
      have u0 : b < a.tmod b := by have := Int.lt_tmod_of_pos a (b := -b) (by omega); rw [Int.tmod_neg] at this; omega
      have u1 : a.tmod b < -b := by omega
      have T := Lib.hid (And.intro t2 (And.intro t3 t4))
      clear t2 t3 t4
      go_enter Tryd.func51, Tryd.ntmps51
      go_wp2_with (go_at_call 73; refine (fxCheck _ _ _).mono ?_; rintro e w' ⟨rfl, rfl⟩)
      all_goals
        go_ret2
        refine ⟨ret_ii ?_ rfl, rfl⟩
        have t := T.out
        omega
    · have mx : max b (-b) = b := by omega
      have nz : (b == 0) = false := beq_eq_false_iff_ne.2 (by omega)
      obtain ⟨t0, t1, t2, t3, t4⟩ := tmod_of a b (by omega)
      have u0 : -b < a.tmod b := Int.lt_tmod_of_pos a (by omega)
      have u1 : a.tmod b < b := by omega
      have T := Lib.hid (And.intro t2 (And.intro t3 t4))
      clear t2 t3 t4
      go_enter Tryd.func51, Tryd.ntmps51
      go_wp2_with (go_at_call 73; refine (fxCheck _ _ _).mono ?_; rintro e w' ⟨rfl, rfl⟩)
      all_goals
        go_ret2
        refine ⟨ret_ii ?_ rfl, rfl⟩
        have t := T.out
        omega
  · clear hh
    rw [show modv a b = 0 from if_neg (by omega), h]
    go_enter Tryd.func51, Tryd.ntmps51
    go_wp2_with (go_at_call 73; refine (fxCheck _ _ _).mono ?_; rintro e w' ⟨rfl, rfl⟩)
    go_ret2
    exact ⟨rfl, rfl⟩
  · clear hh
    rw [show modv a b = 0 from if_neg (by omega), h]
    go_enter Tryd.func51, Tryd.ntmps51
    go_wp2_with (go_at_call 73; refine (fxCheck _ _ _).mono ?_; rintro e w' ⟨rfl, rfl⟩)
    go_ret2
    exact ⟨rfl, rfl⟩

theorem fxSqrt (a : Int) (w : World) : Calls Tryd.prog 31 #[.int .i64 a] w fun e w' => e = .returned (.tuple #[.int .i64 (sqv a), .int .i64 (sqe a)]) ∧ Qw w w' := by
  have q0 := Qw.refl w
  cases h : vld a
  · rw [show sqv a = 0 from if_neg (by rw [h]; decide), show sqe a = 1 from if_neg (by rw [h]; decide)]
    go_enter Tryd.func31, Tryd.ntmps31
    go_wp2_with (go_at_call 24; refine (fxValid _ _).mono ?_; rintro e w' ⟨rfl, rfl⟩)
    go_ret2
    exact ⟨rfl, q0⟩
  · obtain ⟨a1, a2⟩ := vld_bd h
    by_cases c : a < 0
    · rw [show sqv a = 0 from (if_pos h).trans (if_pos c), show sqe a = 5 from (if_pos h).trans (if_pos c)]
      go_enter Tryd.func31, Tryd.ntmps31
      go_wp2_with (go_at_call 24; refine (fxValid _ _).mono ?_; rintro e w' ⟨rfl, rfl⟩)
      go_ret2
      exact ⟨rfl, q0⟩
    · rw [show sqv a = tv (rtv a 1000000 2) (rtok a 1000000 2) from (if_pos h).trans (if_neg c), show sqe a = te (rtv a 1000000 2) (rtok a 1000000 2) from (if_pos h).trans (if_neg c)]
      go_enter Tryd.func31, Tryd.ntmps31
      go_wp2_with (first | (go_at_call 24; refine (fxValid _ _).mono ?_; rintro e w' ⟨rfl, rfl⟩) | (go_at_call 65; refine (rootW _ _ _ (by omega) (by omega) (by omega) (by omega) _).mono ?_; rintro e w' ⟨rfl, h⟩; replace q0 := Qw.trans q0 h; clear h) | (go_at_call 64; refine (fxResult _ _ _).mono ?_; rintro e w' ⟨rfl, rfl⟩))
      go_ret2
      exact ⟨rfl, q0⟩

/-- The rounded number. -/
def intv (m a : Int) : Int := if vld a = true then qv m a 1000000 * 1000000 else 0

theorem fxInteger (a m : Int) (m0 : 0 ≤ m) (m2 : m ≤ 2) (w : World) : Calls Tryd.prog 68 #[.int .i64 a, .int .i64 m] w fun e w' => e = .returned (.tuple #[.int .i64 (intv m a), .int .i64 (arge a)]) ∧ Qw w w' := by
  have q0 := Qw.refl w
  cases h : vld a
  · rw [show arge a = 1 from if_neg (by rw [h]; decide), show intv m a = 0 from if_neg (by rw [h]; decide)]
    go_enter Tryd.func68, Tryd.ntmps68
    go_wp2_with (go_at_call 24; refine (fxValid _ _).mono ?_; rintro e w' ⟨rfl, rfl⟩)
    go_ret2
    exact ⟨rfl, q0⟩
  · obtain ⟨a1, a2⟩ := vld_bd h
    obtain ⟨k, v, r1, r2⟩ := md_int a m m0 m2 h
    have c1 := fun w => muldivW a 1 1000000 m (by omega) (by omega) (by omega) (by omega) (by omega) (by omega) w
    rw [k, v] at c1
    have C1 := Lib.hid c1
    clear k v c1
    rw [show arge a = 0 from if_pos h, show intv m a = qv m a 1000000 * 1000000 from if_pos h]
    generalize qv m a 1000000 = x at *
    have t1 : tv (x * 1000000) true = x * 1000000 := by unfold tv; rw [vld_t (by omega) (by omega)]; rfl
    have t2 : te (x * 1000000) true = 0 := by unfold te; rw [vld_t (by omega) (by omega)]; rfl
    have c2 := fun w => fxResult (x * 1000000) true w
    rw [t1, t2] at c2
    have C2 := Lib.hid c2
    clear t1 t2 c2
    go_enter Tryd.func68, Tryd.ntmps68
    go_wp2_with (first | (go_at_call 24; refine (fxValid _ _).mono ?_; rintro e w' ⟨rfl, rfl⟩) | (go_at_call 71; refine (C1.out _).mono ?_; rintro e w' ⟨rfl, h⟩; replace q0 := Qw.trans q0 h; clear h) | (go_at_call 64; refine (C2.out _).mono ?_; rintro e w' ⟨rfl, rfl⟩))
    go_ret2
    exact ⟨rfl, q0⟩

theorem fxRound (a : Int) (w : World) : Calls Tryd.prog 33 #[.int .i64 a] w fun e w' => e = .returned (.tuple #[.int .i64 (roundv a), .int .i64 (arge a)]) ∧ Qw w w' := by
  have q0 := Qw.refl w
  have e : roundv a = intv 2 a := by unfold roundv intv; rw [qv_2]; split <;> omega
  rw [e]
  clear e
  go_enter Tryd.func33, Tryd.ntmps33
  go_wp2_with (go_at_call 68; refine (fxInteger _ _ (by omega) (by omega) _).mono ?_; rintro e w' ⟨rfl, h⟩; replace q0 := Qw.trans q0 h; clear h)
  go_ret2
  exact ⟨rfl, q0⟩

theorem fxFix (a : Int) (w : World) : Calls Tryd.prog 35 #[.int .i64 a] w fun e w' => e = .returned (.tuple #[.int .i64 (fixv a), .int .i64 (arge a)]) ∧ Qw w w' := by
  have q0 := Qw.refl w
  by_cases c : a < 0
  · have e : fixv a = intv 1 a := by unfold fixv intv; rw [qv_1, if_pos c]; first | rfl | (unfold clv; split <;> omega)
    rw [e]
    clear e
    go_enter Tryd.func35, Tryd.ntmps35
    go_wp2_with (go_at_call 68; refine (fxInteger _ _ (by omega) (by omega) _).mono ?_; rintro e w' ⟨rfl, h⟩; replace q0 := Qw.trans q0 h; clear h)
    go_ret2
    exact ⟨rfl, q0⟩
  · have e : fixv a = intv 0 a := by unfold fixv intv; rw [qv_0, if_neg c]; first | rfl | (unfold clv; split <;> omega)
    rw [e]
    clear e
    go_enter Tryd.func35, Tryd.ntmps35
    go_wp2_with (go_at_call 68; refine (fxInteger _ _ (by omega) (by omega) _).mono ?_; rintro e w' ⟨rfl, h⟩; replace q0 := Qw.trans q0 h; clear h)
    go_ret2
    exact ⟨rfl, q0⟩

theorem fxFup (a : Int) (w : World) : Calls Tryd.prog 37 #[.int .i64 a] w fun e w' => e = .returned (.tuple #[.int .i64 (fupv a), .int .i64 (arge a)]) ∧ Qw w w' := by
  have q0 := Qw.refl w
  by_cases c : a < 0
  · have e : fupv a = intv 0 a := by unfold fupv intv; rw [qv_0, if_pos c]; first | rfl | (unfold clv; split <;> omega)
    rw [e]
    clear e
    go_enter Tryd.func37, Tryd.ntmps37
    go_wp2_with (go_at_call 68; refine (fxInteger _ _ (by omega) (by omega) _).mono ?_; rintro e w' ⟨rfl, h⟩; replace q0 := Qw.trans q0 h; clear h)
    go_ret2
    exact ⟨rfl, q0⟩
  · have e : fupv a = intv 1 a := by unfold fupv intv; rw [qv_1, if_neg c]; first | rfl | (unfold clv; split <;> omega)
    rw [e]
    clear e
    go_enter Tryd.func37, Tryd.ntmps37
    go_wp2_with (go_at_call 68; refine (fxInteger _ _ (by omega) (by omega) _).mono ?_; rintro e w' ⟨rfl, h⟩; replace q0 := Qw.trans q0 h; clear h)
    go_ret2
    exact ⟨rfl, q0⟩

theorem fxWhole (a : Int) (w : World) : Calls Tryd.prog 39 #[.int .i64 a] w fun e w' => e = .returned (.tuple #[.int .i64 (wholev a), .bool (whole a)]) ∧ w = w' := by
  cases h : vld a
  · have e : whole a = false := by unfold whole; rw [h]; rfl
    rw [show wholev a = 0 from if_neg (by rw [e]; decide), e]
    clear e
    go_enter Tryd.func39, Tryd.ntmps39
    go_wp2_with (go_at_call 24; refine (fxValid _ _).mono ?_; rintro e w' ⟨rfl, rfl⟩)
    go_ret2
    exact ⟨rfl, rfl⟩
  · obtain ⟨a1, a2⟩ := vld_bd h
    have t := tmod_of a 1000000 (by omega)
    by_cases c : a % 1000000 = 0
    · have e : whole a = true := by unfold whole; rw [h, decide_eq_true c]; rfl
      have d : a.tdiv 1000000 = a / 1000000 := by
        obtain ⟨k, hk⟩ : ∃ k, a = 1000000 * k := ⟨a / 1000000, by omega⟩
        rw [hk, Int.mul_tdiv_cancel_left _ (by decide), Int.mul_ediv_cancel_left _ (by decide)]
      rw [show wholev a = a / 1000000 from if_pos e, e]
      have z : a.tmod 1000000 = 0 := Int.tmod_eq_zero_of_dvd (Int.dvd_of_emod_eq_zero c)
      clear e t
      by_cases s : 0 ≤ a
      · clear z d
        go_enter Tryd.func39, Tryd.ntmps39
        go_wp2_with (go_at_call 24; refine (fxValid _ _).mono ?_; rintro e w' ⟨rfl, rfl⟩)
        go_ret2
        exact ⟨rfl, rfl⟩
      · clear c
        have D := Lib.hid d
        clear d
        go_enter Tryd.func39, Tryd.ntmps39
        go_wp2_with (go_at_call 24; refine (fxValid _ _).mono ?_; rintro e w' ⟨rfl, rfl⟩)
        go_ret2
        exact ⟨ret_ib (by have := D.out; omega) rfl, rfl⟩
    · have e : whole a = false := by unfold whole; rw [h, decide_eq_false c]; rfl
      rw [show wholev a = 0 from if_neg (by rw [e]; decide), e]
      have z : (a.tmod 1000000 == 0) = false := beq_eq_false_iff_ne.2 (by omega)
      have z' : (a % 1000000 == 0) = false := beq_eq_false_iff_ne.2 c
      clear e t
      by_cases s : 0 ≤ a
      · clear z
        go_enter Tryd.func39, Tryd.ntmps39
        go_wp2_with (go_at_call 24; refine (fxValid _ _).mono ?_; rintro e w' ⟨rfl, rfl⟩)
        go_ret2
        exact ⟨rfl, rfl⟩
      · clear z'
        go_enter Tryd.func39, Tryd.ntmps39
        go_wp2_with (go_at_call 24; refine (fxValid _ _).mono ?_; rintro e w' ⟨rfl, rfl⟩)
        go_ret2
        exact ⟨rfl, rfl⟩

/-- Whether there is such a unit. -/
def unit (u : Int) : Bool := decide (u = 20 ∨ u = 21)
theorem fxUnit (u : Int) (w : World) : Calls Tryd.prog 70 #[.int .i64 u] w fun e w' => e = .returned (.tuple #[.int .i64 (if u = 20 then 25400 else if u = 21 then 1000 else 0), .bool (unit u)]) ∧ w = w' := by
  by_cases c : u = 20
  · subst c
    rw [if_pos rfl, show unit 20 = true from rfl]
    go_enter Tryd.func70, Tryd.ntmps70
    go_wp2
    go_ret2
    exact ⟨rfl, rfl⟩
  · by_cases d : u = 21
    · subst d
      rw [if_neg (by decide), if_pos rfl, show unit 21 = true from rfl]
      go_enter Tryd.func70, Tryd.ntmps70
      go_wp2
      go_ret2
      exact ⟨rfl, rfl⟩
    · rw [if_neg c, if_neg d, show unit u = false from decide_eq_false (by omega)]
      have c' : (u == 20) = false := beq_eq_false_iff_ne.2 c
      have d' : (u == 21) = false := beq_eq_false_iff_ne.2 d
      go_enter Tryd.func70, Tryd.ntmps70
      go_wp2
      go_ret2
      exact ⟨rfl, rfl⟩

theorem fxLength (a u : Int) (w : World) : Calls Tryd.prog 42 #[.int .i64 a, .int .i64 u] w fun e w' => e = .returned (.tuple #[.int .i64 (lenv a u), .int .i64 (lene a u)]) ∧ Qw w w' := by
  have q0 := Qw.refl w
  by_cases hu : u = 20 ∨ u = 21
  · have eu : unit u = true := decide_eq_true hu
    cases h : vld a
    · have e : lene a u = 1 := if_neg (by rw [h]; simp)
      rw [show lenv a u = 0 from if_neg (by omega), e]
      clear e
      rcases hu with rfl | rfl
      · clear eu
        go_enter Tryd.func42, Tryd.ntmps42
        go_wp2_with (first | (go_at_call 70; refine (fxUnit _ _).mono ?_; rintro e w' ⟨rfl, rfl⟩) | (go_at_call 24; refine (fxValid _ _).mono ?_; rintro e w' ⟨rfl, rfl⟩))
        go_ret2
        exact ⟨rfl, q0⟩
      · clear eu
        go_enter Tryd.func42, Tryd.ntmps42
        go_wp2_with (first | (go_at_call 70; refine (fxUnit _ _).mono ?_; rintro e w' ⟨rfl, rfl⟩) | (go_at_call 24; refine (fxValid _ _).mono ?_; rintro e w' ⟨rfl, rfl⟩))
        go_ret2
        exact ⟨rfl, q0⟩
    · obtain ⟨a1, a2⟩ := vld_bd h
      obtain ⟨k, v⟩ := md_len a u h
      have c1 := fun w => muldivW a (if u = 20 then 25400 else 1000) 1000000 2 (by omega) (by omega) (by split <;> omega) (by split <;> omega) (by omega) (by omega) w
      rw [k, v] at c1
      have C1 := Lib.hid c1
      have e : lene a u = if -1048576 ≤ ln a u ∧ ln a u ≤ 1048576 then 0 else 3 := if_pos ⟨h, hu⟩
      have e2 : lenv a u = if -1048576 ≤ ln a u ∧ ln a u ≤ 1048576 then ln a u else 0 := by unfold lenv; rw [e]; split <;> simp
      rw [e, e2]
      clear k v c1 e e2
      generalize ln a u = x at *
      by_cases c1 : x < -1048576
      · rw [if_neg (by omega), if_neg (by omega)]
        rcases hu with rfl | rfl
        · clear eu
          rw [if_pos rfl] at C1
          go_enter Tryd.func42, Tryd.ntmps42
          go_wp2_with (first | (go_at_call 70; refine (fxUnit _ _).mono ?_; rintro e w' ⟨rfl, rfl⟩) | (go_at_call 24; refine (fxValid _ _).mono ?_; rintro e w' ⟨rfl, rfl⟩) | (go_at_call 71; refine (C1.out _).mono ?_; rintro e w' ⟨rfl, h⟩; replace q0 := Qw.trans q0 h; clear h))
          go_ret2
          exact ⟨rfl, q0⟩
        · clear eu
          rw [if_neg (by decide)] at C1
          go_enter Tryd.func42, Tryd.ntmps42
          go_wp2_with (first | (go_at_call 70; refine (fxUnit _ _).mono ?_; rintro e w' ⟨rfl, rfl⟩) | (go_at_call 24; refine (fxValid _ _).mono ?_; rintro e w' ⟨rfl, rfl⟩) | (go_at_call 71; refine (C1.out _).mono ?_; rintro e w' ⟨rfl, h⟩; replace q0 := Qw.trans q0 h; clear h))
          go_ret2
          exact ⟨rfl, q0⟩
      · by_cases c2 : 1048576 < x
        · rw [if_neg (by omega), if_neg (by omega)]
          rcases hu with rfl | rfl
          · clear eu
            rw [if_pos rfl] at C1
            go_enter Tryd.func42, Tryd.ntmps42
            go_wp2_with (first | (go_at_call 70; refine (fxUnit _ _).mono ?_; rintro e w' ⟨rfl, rfl⟩) | (go_at_call 24; refine (fxValid _ _).mono ?_; rintro e w' ⟨rfl, rfl⟩) | (go_at_call 71; refine (C1.out _).mono ?_; rintro e w' ⟨rfl, h⟩; replace q0 := Qw.trans q0 h; clear h))
            go_ret2
            exact ⟨rfl, q0⟩
          · clear eu
            rw [if_neg (by decide)] at C1
            go_enter Tryd.func42, Tryd.ntmps42
            go_wp2_with (first | (go_at_call 70; refine (fxUnit _ _).mono ?_; rintro e w' ⟨rfl, rfl⟩) | (go_at_call 24; refine (fxValid _ _).mono ?_; rintro e w' ⟨rfl, rfl⟩) | (go_at_call 71; refine (C1.out _).mono ?_; rintro e w' ⟨rfl, h⟩; replace q0 := Qw.trans q0 h; clear h))
            go_ret2
            exact ⟨rfl, q0⟩
        · rw [if_pos (by omega), if_pos (by omega)]
          rcases hu with rfl | rfl
          · clear eu
            rw [if_pos rfl] at C1
            go_enter Tryd.func42, Tryd.ntmps42
            go_wp2_with (first | (go_at_call 70; refine (fxUnit _ _).mono ?_; rintro e w' ⟨rfl, rfl⟩) | (go_at_call 24; refine (fxValid _ _).mono ?_; rintro e w' ⟨rfl, rfl⟩) | (go_at_call 71; refine (C1.out _).mono ?_; rintro e w' ⟨rfl, h⟩; replace q0 := Qw.trans q0 h; clear h))
            go_ret2
            exact ⟨rfl, q0⟩
          · clear eu
            rw [if_neg (by decide)] at C1
            go_enter Tryd.func42, Tryd.ntmps42
            go_wp2_with (first | (go_at_call 70; refine (fxUnit _ _).mono ?_; rintro e w' ⟨rfl, rfl⟩) | (go_at_call 24; refine (fxValid _ _).mono ?_; rintro e w' ⟨rfl, rfl⟩) | (go_at_call 71; refine (C1.out _).mono ?_; rintro e w' ⟨rfl, h⟩; replace q0 := Qw.trans q0 h; clear h))
            go_ret2
            exact ⟨rfl, q0⟩
  · have eu : unit u = false := decide_eq_false hu
    have e : lene a u = 1 := if_neg (fun h => hu h.2)
    rw [show lenv a u = 0 from if_neg (by omega), e]
    clear e
    go_enter Tryd.func42, Tryd.ntmps42
    go_wp2_with (go_at_call 70; refine (fxUnit _ _).mono ?_; rintro e w' ⟨rfl, rfl⟩)
    go_ret2
    exact ⟨rfl, q0⟩

end Go.Proofs.YthfgpmdgklphkaaDoor
