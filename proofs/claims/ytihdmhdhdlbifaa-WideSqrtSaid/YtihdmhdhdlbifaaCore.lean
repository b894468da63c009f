/- The contracts of package wide in one form, the sanity check of its laws, and numbers made from numbers. -/
import Derived.Test.YtihdmhdhdlbifaaWalkH
set_option linter.unusedVariables false
set_option linter.unusedSimpArgs false
namespace Go.Proofs.Ytihdmhdhdlbifaa
open Go.RowKit

/-- Of the world that was there nothing has changed. -/
def Qw (w w' : World) : Prop := Below w.heap.size w w'
theorem Qw.refl (w : World) : Qw w w := Below.refl _ _
theorem Qw.trans {a b c : World} (h : Qw a b) (k : Qw b c) : Qw a c := Below.trans h (Below.mono k h.size)
theorem Qw.drewN (w : World) (n : Nat) : Qw w (w.drewN n) := ⟨rfl, rfl, rfl, Nat.le_refl _, fun _ _ => rfl⟩

theorem cmpW (a b c d : Int) (a1 : -9223372036854775808 ≤ a) (a2 : a ≤ 9223372036854775807) (b1 : -9223372036854775808 ≤ b) (b2 : b ≤ 9223372036854775807)
    (c1 : -9223372036854775808 ≤ c) (c2 : c ≤ 9223372036854775807) (d1 : -9223372036854775808 ≤ d) (d2 : d ≤ 9223372036854775807) (w : World) :
    Calls Try.prog 18 #[.int .i64 a, .int .i64 b, .int .i64 c, .int .i64 d] w fun e w' => e = .returned (.int .i64 (cmpI (a * b) (c * d))) ∧ Qw w w' := cmp_any a b c d a1 a2 b1 b2 c1 c2 d1 d2 w

theorem muldivW (a b c m : Int) (a1 : -9223372036854775808 ≤ a) (a2 : a ≤ 9223372036854775807) (b1 : -9223372036854775808 ≤ b) (b2 : b ≤ 9223372036854775807)
    (c1 : -9223372036854775808 ≤ c) (c2 : c ≤ 9223372036854775807) (w : World) :
    Calls Try.prog 20 #[.int .i64 a, .int .i64 b, .int .i64 c, .int .i64 m] w fun e w' => e = .returned (.tuple #[.int .i64 (mdv a b c m), .bool (mdok a b c m)]) ∧ Qw w w' :=
  (muldiv_any a b c m a1 a2 b1 b2 c1 c2 w).mono fun _ _ ⟨h, k, hk⟩ => ⟨h, hk ▸ Qw.drewN w k⟩

theorem rootW (a b m : Int) (a1 : -9223372036854775808 ≤ a) (a2 : a ≤ 9223372036854775807) (b1 : -9223372036854775808 ≤ b) (b2 : b ≤ 9223372036854775807) (w : World) :
    Calls Try.prog 25 #[.int .i64 a, .int .i64 b, .int .i64 m] w fun e w' => e = .returned (.tuple #[.int .i64 (rtv a b m), .bool (rtok a b m)]) ∧ Qw w w' :=
  (root_any2 a b m a1 a2 b1 b2 w).mono fun _ _ ⟨h, k, hk⟩ => ⟨h, hk ▸ Qw.drewN w k⟩

theorem sqrtW (n m : Int) (a1 : -9223372036854775808 ≤ n) (a2 : n ≤ 9223372036854775807) (w : World) :
    Calls Try.prog 23 #[.int .i64 n, .int .i64 m] w fun e w' => e = .returned (.tuple #[.int .i64 (rtv n 1 m), .bool (rtok n 1 m)]) ∧ Qw w w' :=
  (sqrt_any n m a1 a2 w).mono fun _ _ ⟨h, k, hk⟩ => ⟨h, hk ▸ Qw.drewN w k⟩

theorem overW (a b n m : Int) (a1 : -9223372036854775808 ≤ a) (a2 : a ≤ 9223372036854775807) (b1 : -9223372036854775808 ≤ b) (b2 : b ≤ 9223372036854775807)
    (n1 : -9223372036854775808 ≤ n) (n2 : n ≤ 9223372036854775807) (w : World) :
    Calls Try.prog 27 #[.int .i64 a, .int .i64 b, .int .i64 n, .int .i64 m] w fun e w' => e = .returned (.tuple #[.int .i64 (ovv a b n m), .bool (ovok a b n m)]) ∧ Qw w w' :=
  (over_any a b n m a1 a2 b1 b2 n1 n2 w).mono fun _ _ ⟨h, k, hk⟩ => ⟨h, hk ▸ Qw.drewN w k⟩

theorem awakeW (w : World) : Calls Try.prog 17 #[] w fun e w' => e = .returned (.bool true) ∧ Qw w w' := by
  have x1 : mdv 7 (-1) 2 2 = -3 := by decide +kernel
  have x2 : mdok 7 (-1) 2 2 = true := by decide +kernel
  have x3 : rtv 12 1 2 = 3 := by decide +kernel
  have x4 : rtok 12 1 2 = true := by decide +kernel
  have k1 : Mth.rt 5000 = 70 := Mth.rt_uniq _ _ (by decide) (by decide) (by decide)
  have k2 : psq 10 10 = 10000 := by decide
  have k3 : rq 10000 2 = 70 := by unfold rq; rw [show (10000 : Int) / 2 = 5000 from by decide, k1]
  have k4 : rr 10000 2 = 3 := by unfold rr; rw [show (10000 : Int) / 2 = 5000 from by decide, k1]; decide
  have x5 : ovv 10 10 2 1 = 71 := by unfold ovv; rw [k2, k3, k4]; decide
  have x6 : ovok 10 10 2 1 = true := by unfold ovok; rw [k2, k3, k4]; decide
  clear k1 k2 k3 k4
  have x7 : cmpI (2 * 3) (1 * 5) = 1 := by decide +kernel
  have c1 : ∀ w, Calls Try.prog 20 #[.int .i64 7, .int .i64 (-1), .int .i64 2, .int .i64 2] w fun e w' => e = .returned (.tuple #[.int .i64 (-3), .bool true]) ∧ Qw w w' := fun w => by
    have := muldivW 7 (-1) 2 2 (by omega) (by omega) (by omega) (by omega) (by omega) (by omega) w
    rw [x1, x2] at this; exact this
  have c2 : ∀ w, Calls Try.prog 23 #[.int .i64 12, .int .i64 2] w fun e w' => e = .returned (.tuple #[.int .i64 3, .bool true]) ∧ Qw w w' := fun w => by
    have := sqrtW 12 2 (by omega) (by omega) w
    rw [x3, x4] at this; exact this
  have c3 : ∀ w, Calls Try.prog 27 #[.int .i64 10, .int .i64 10, .int .i64 2, .int .i64 1] w fun e w' => e = .returned (.tuple #[.int .i64 71, .bool true]) ∧ Qw w w' := fun w => by
    have := overW 10 10 2 1 (by omega) (by omega) (by omega) (by omega) (by omega) (by omega) w
    rw [x5, x6] at this; exact this
  have c4 : ∀ w, Calls Try.prog 18 #[.int .i64 2, .int .i64 3, .int .i64 1, .int .i64 5] w fun e w' => e = .returned (.int .i64 1) ∧ Qw w w' := fun w => by
    have := cmpW 2 3 1 5 (by omega) (by omega) (by omega) (by omega) (by omega) (by omega) (by omega) (by omega) w
    rw [x7] at this; exact this
  have C1 := Lib.hid c1; have C2 := Lib.hid c2; have C3 := Lib.hid c3; have C4 := Lib.hid c4
  clear x1 x2 x3 x4 x5 x6 x7 c1 c2 c3 c4
  have q0 := Qw.refl w
  go_enter Try.func17, Try.ntmps17
  go_wp2_with (first | (go_at_call 20; refine (C1.out _).mono ?_; rintro e w' ⟨rfl, h⟩; replace q0 := Qw.trans q0 h; clear h) | (go_at_call 23; refine (C2.out _).mono ?_; rintro e w' ⟨rfl, h⟩; replace q0 := Qw.trans q0 h; clear h) | (go_at_call 27; refine (C3.out _).mono ?_; rintro e w' ⟨rfl, h⟩; replace q0 := Qw.trans q0 h; clear h) | (go_at_call 18; refine (C4.out _).mono ?_; rintro e w' ⟨rfl, h⟩; replace q0 := Qw.trans q0 h; clear h))
  go_ret
  exact ⟨rfl, q0⟩

theorem tmod_of (v n : Int) (n1 : 1 ≤ n) : 0 ≤ v % n ∧ v % n < n ∧ (v.tmod n = v % n ∨ v < 0 ∧ v.tmod n = v % n - n) ∧ (0 ≤ v → v.tmod n = v % n) ∧ (v < 0 → v.tmod n ≤ 0) := by
  have m0 : 0 ≤ v % n := Int.emod_nonneg _ (by omega)
  have m1 : v % n < n := Int.emod_lt_of_pos _ (by omega)
  have e := Int.tmod_eq_emod (a := v) (b := n)
  refine ⟨m0, m1, ?_, ?_, ?_⟩
  · by_cases h : 0 ≤ v ∨ n ∣ v
    · left; rw [if_pos h] at e; omega
    · right; rw [if_neg h] at e; omega
  · intro h; rw [if_pos (.inl h)] at e; omega
  · intro h
    by_cases h2 : 0 ≤ v ∨ n ∣ v
    · rw [if_pos h2] at e
      have := Int.emod_eq_zero_of_dvd (h2.resolve_left (by omega))
      omega
    · rw [if_neg h2] at e; omega

theorem modW (v n : Int) (v1 : -9223372036854775808 ≤ v) (v2 : v ≤ 9223372036854775807) (n1 : 1 ≤ n) (n2 : n ≤ 9223372036854775807) (w : World) :
    Calls Try.prog 22 #[.int .i64 v, .int .i64 n] w fun e w' => e = .returned (.int .i64 (v % n)) ∧ w = w' := by
  have nz : (n == 0) = false := beq_eq_false_iff_ne.2 (by omega)
  have m0 : 0 ≤ v % n := Int.emod_nonneg _ (by omega)
  have m1 : v % n < n := Int.emod_lt_of_pos _ (by omega)
  go_enter Try.func22, Try.ntmps22
  go_wp2
  all_goals
    go_ret
    refine ⟨ret_i64 ?_, rfl⟩
  · rename_i h
    have := tmod_of v n n1
    unfold wrap64
    omega
  · rename_i h
    have := tmod_of v n n1
    omega

theorem betweenW (v l h : Int) (v1 : -9223372036854775808 ≤ v) (v2 : v ≤ 9223372036854775807) (l1 : -9223372036854775808 ≤ l) (l2 : h ≤ 9223372036854775807) (lh : l ≤ h) (hl : h - l + 1 ≤ 9223372036854775807) (w : World) :
    Calls Try.prog 29 #[.int .i64 v, .int .i64 l, .int .i64 h] w fun e w' => e = .returned (.int .i64 (l + v % (h - l + 1))) ∧ w = w' := by
  have m0 : 0 ≤ v % (h - l + 1) := Int.emod_nonneg _ (by omega)
  have m1 : v % (h - l + 1) < h - l + 1 := Int.emod_lt_of_pos _ (by omega)
  go_enter Try.func29, Try.ntmps29
  go_wp2_with (go_at_call 22; refine (modW _ _ (by omega) (by omega) (by omega) (by omega) _).mono ?_; rintro e w' ⟨rfl, rfl⟩)
  go_ret
  exact ⟨rfl, rfl⟩

end Go.Proofs.Ytihdmhdhdlbifaa
