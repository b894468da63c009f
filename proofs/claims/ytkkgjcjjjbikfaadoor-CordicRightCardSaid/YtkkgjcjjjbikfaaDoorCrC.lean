
/- The walk of the specification's Rotate. -/
import Derived.Test.YtkkgjcjjjbikfaaDoorCrB
set_option linter.unusedVariables false
set_option linter.unusedSimpArgs false
namespace Go.Proofs.YtkkgjcjjjbikfaaDoor
open Go.RowKit

set_option maxRecDepth 100000 in
set_option maxHeartbeats 1000000 in
theorem cr_rotate (x y a : Int) (a1 : -9223372036854775808 ≤ a) (a2 : a ≤ 9223372036854775807) (w : World) :
    Calls Tryd.prog 20 #[.int .i64 x, .int .i64 y, .int .i64 a] w fun e w' => e = .returned (.tuple #[.int .i64 (rotv x y a).1, .int .i64 (rotv x y a).2, .bool (rotok x y)]) ∧ Qw w w' := by
  have b1 := fun w => cr_small x w
  have b2 := fun w => cr_small y w
  have c3 := fun w => cr_sincos a a1 a2 w
  have q0 := Qw.refl w
  unfold rotv rotok
  clear a1 a2
  cases hx : bey x 4194304
  · cases hy : bey y 4194304
    · simp only [hx, Bool.not_false, Bool.not_true] at b1
      simp only [hy, Bool.not_false, Bool.not_true] at b2
      have sb := Cm.sc_bd a
      have s1 := Cm.nm_re sb
      have s2 := Cm.nm_im sb
      have xb : -4194304 ≤ x ∧ x ≤ 4194304 := by unfold bey at hx; simp at hx; omega
      have yb : -4194304 ≤ y ∧ y ≤ 4194304 := by unfold bey at hy; simp at hy; omega
      simp only [Bool.or_false, Bool.not_false, Bool.false_eq_true, if_false]
      generalize (Cm.sc a).1 = c at *
      generalize (Cm.sc a).2 = s at *
      obtain ⟨p1, p2⟩ := mul_bd xb.1 xb.2 s1.1 s1.2
      obtain ⟨p3, p4⟩ := mul_bd yb.1 yb.2 s2.1 s2.2
      obtain ⟨p5, p6⟩ := mul_bd xb.1 xb.2 s2.1 s2.2
      obtain ⟨p7, p8⟩ := mul_bd yb.1 yb.2 s1.1 s1.2
      clear sb s1 s2 xb yb hx hy
      have B1 := Lib.hid b1
      have B2 := Lib.hid b2
      have C3 := Lib.hid c3
      clear b1 b2 c3
      generalize e1 : x * c = P1 at *
      generalize e2 : y * s = P2 at *
      generalize e3 : x * s = P3 at *
      generalize e4 : y * c = P4 at *
      have n1 := fun w => cr_near (P1 - P2) (by omega) (by omega) w
      have n2 := fun w => cr_near (P3 + P4) (by omega) (by omega) w
      have N1 := Lib.hid n1
      have N2 := Lib.hid n2
      clear n1 n2
      generalize rd (P1 - P2) 1073741824 = R1 at *
      generalize rd (P3 + P4) 1073741824 = R2 at *
      go_enter Tryd.func20, Tryd.ntmps20
      go_wp2_with (first | (go_at_call 32; ((with_reducible refine (B1.out _).mono ?_); rintro e w' ⟨rfl, rfl⟩)) | (go_at_call 32; ((with_reducible refine (B2.out _).mono ?_); rintro e w' ⟨rfl, rfl⟩)) | (go_at_call 15; ((with_reducible refine (C3.out _).mono ?_); rintro e w' ⟨rfl, h⟩; replace q0 := Qw.trans q0 h; clear h)) | (go_at_call 33; ((with_reducible refine (N1.out _).mono ?_); rintro e w' ⟨rfl, rfl⟩)) | (go_at_call 33; ((with_reducible refine (N2.out _).mono ?_); rintro e w' ⟨rfl, rfl⟩)))
      go_ret3
      exact ⟨rfl, q0⟩
    · simp only [hx, Bool.not_false, Bool.not_true] at b1
      simp only [hy, Bool.not_false, Bool.not_true] at b2
      simp only [Bool.or_true, Bool.not_true, if_true]
      have B1 := Lib.hid b1
      have B2 := Lib.hid b2
      clear b1 b2 c3 hx hy
      go_enter Tryd.func20, Tryd.ntmps20
      go_wp2_with (first | (go_at_call 32; ((with_reducible refine (B1.out _).mono ?_); rintro e w' ⟨rfl, rfl⟩)) | (go_at_call 32; ((with_reducible refine (B2.out _).mono ?_); rintro e w' ⟨rfl, rfl⟩)))
      go_ret3
      exact ⟨rfl, q0⟩
  · simp only [hx, Bool.not_false, Bool.not_true] at b1
    simp only [Bool.true_or, Bool.not_true, if_true]
    have B1 := Lib.hid b1
    clear b1 b2 c3 hx
    go_enter Tryd.func20, Tryd.ntmps20
    go_wp2_with (go_at_call 32; ((with_reducible refine (B1.out _).mono ?_); rintro e w' ⟨rfl, rfl⟩))
    go_ret3
    exact ⟨rfl, q0⟩

end Go.Proofs.YtkkgjcjjjbikfaaDoor
