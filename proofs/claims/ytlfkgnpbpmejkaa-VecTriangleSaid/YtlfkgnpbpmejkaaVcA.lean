
/- The walks of package vec. -/
import Derived.Test.YtlfkgnpbpmejkaaVp
set_option linter.unusedVariables false
set_option linter.unusedSimpArgs false
namespace Go.Proofs.Ytlfkgnpbpmejkaa
open Go.RowKit

theorem vc_crd (n : Int) (n1 : -9223372036854775808 ≤ n) (n2 : n ≤ 9223372036854775807) (w : World) :
    Calls Try.prog 40 #[.int .i64 n] w fun e w' => e = .returned (.bool (crd n)) ∧ w = w' := by
  have main : ∀ b, crd n = b → Calls Try.prog 40 #[.int .i64 n] w fun e w' => e = .returned (.bool b) ∧ w = w' := by
    intro b hb
    unfold crd at hb
    by_cases h1 : -1048576 ≤ n
    · by_cases h2 : n ≤ 1048576
      · obtain rfl : b = true := by rw [← hb]; simp [h1, h2]
        clear hb
        go_enter Try.func40, Try.ntmps40
        go_wp2
        go_ret
        exact ⟨rfl, rfl⟩
      · obtain rfl : b = false := by rw [← hb]; simp [h2]
        clear hb
        have h3 : 1048577 ≤ n := by omega
        go_enter Try.func40, Try.ntmps40
        go_wp2
        go_ret
        exact ⟨rfl, rfl⟩
    · obtain rfl : b = false := by rw [← hb]; simp [h1]
      clear hb
      go_enter Try.func40, Try.ntmps40
      go_wp2
      go_ret
      exact ⟨rfl, rfl⟩
  exact main _ rfl

theorem vc_within (x y z : Int) (x1 : -9223372036854775808 ≤ x) (x2 : x ≤ 9223372036854775807) (y1 : -9223372036854775808 ≤ y) (y2 : y ≤ 9223372036854775807) (z1 : -9223372036854775808 ≤ z) (z2 : z ≤ 9223372036854775807) (w : World) :
    Calls Try.prog 17 #[.agg #[.int .i64 x, .int .i64 y, .int .i64 z]] w fun e w' => e = .returned (.bool (wth x y z)) ∧ Qw w w' := by
  have cx := fun w => vc_crd x x1 x2 w
  have cy := fun w => vc_crd y y1 y2 w
  have cz := fun w => vc_crd z z1 z2 w
  unfold wth
  generalize crd x = bx at *
  generalize crd y = b_y at *
  generalize crd z = bz at *
  cases bx
  · have Cx := Lib.hid cx; have Cy := Lib.hid cy; have Cz := Lib.hid cz
    clear cx cy cz
    go_enter Try.func17, Try.ntmps17
    go_wp2_with (first | (go_at_call 40; ((with_reducible refine (Cx.out _).mono ?_); rintro e w' ⟨rfl, rfl⟩)) | (go_at_call 40; ((with_reducible refine (Cy.out _).mono ?_); rintro e w' ⟨rfl, rfl⟩)) | (go_at_call 40; ((with_reducible refine (Cz.out _).mono ?_); rintro e w' ⟨rfl, rfl⟩)))
    go_ret
    exact ⟨rfl, (Below.refl _ _).alloc (Nat.le_refl _) _⟩
  cases b_y
  · have Cx := Lib.hid cx; have Cy := Lib.hid cy; have Cz := Lib.hid cz
    clear cx cy cz
    go_enter Try.func17, Try.ntmps17
    go_wp2_with (first | (go_at_call 40; ((with_reducible refine (Cx.out _).mono ?_); rintro e w' ⟨rfl, rfl⟩)) | (go_at_call 40; ((with_reducible refine (Cy.out _).mono ?_); rintro e w' ⟨rfl, rfl⟩)) | (go_at_call 40; ((with_reducible refine (Cz.out _).mono ?_); rintro e w' ⟨rfl, rfl⟩)))
    go_ret
    exact ⟨rfl, (Below.refl _ _).alloc (Nat.le_refl _) _⟩
  cases bz
  · have Cx := Lib.hid cx; have Cy := Lib.hid cy; have Cz := Lib.hid cz
    clear cx cy cz
    go_enter Try.func17, Try.ntmps17
    go_wp2_with (first | (go_at_call 40; ((with_reducible refine (Cx.out _).mono ?_); rintro e w' ⟨rfl, rfl⟩)) | (go_at_call 40; ((with_reducible refine (Cy.out _).mono ?_); rintro e w' ⟨rfl, rfl⟩)) | (go_at_call 40; ((with_reducible refine (Cz.out _).mono ?_); rintro e w' ⟨rfl, rfl⟩)))
    go_ret
    exact ⟨rfl, (Below.refl _ _).alloc (Nat.le_refl _) _⟩
  · have Cx := Lib.hid cx; have Cy := Lib.hid cy; have Cz := Lib.hid cz
    clear cx cy cz
    go_enter Try.func17, Try.ntmps17
    go_wp2_with (first | (go_at_call 40; ((with_reducible refine (Cx.out _).mono ?_); rintro e w' ⟨rfl, rfl⟩)) | (go_at_call 40; ((with_reducible refine (Cy.out _).mono ?_); rintro e w' ⟨rfl, rfl⟩)) | (go_at_call 40; ((with_reducible refine (Cz.out _).mono ?_); rintro e w' ⟨rfl, rfl⟩)))
    go_ret
    exact ⟨rfl, (Below.refl _ _).alloc (Nat.le_refl _) _⟩

theorem vc_add (x y z a b c : Int) (x1 : -4194304 ≤ x) (x2 : x ≤ 4194304) (y1 : -4194304 ≤ y) (y2 : y ≤ 4194304) (z1 : -4194304 ≤ z) (z2 : z ≤ 4194304) (a1 : -4194304 ≤ a) (a2 : a ≤ 4194304) (b1 : -4194304 ≤ b) (b2 : b ≤ 4194304) (c1 : -4194304 ≤ c) (c2 : c ≤ 4194304) (w : World) :
    Calls Try.prog 20 #[.agg #[.int .i64 x, .int .i64 y, .int .i64 z], .agg #[.int .i64 a, .int .i64 b, .int .i64 c]] w fun e w' => e = .returned (.agg #[.int .i64 (x + a), .int .i64 (y + b), .int .i64 (z + c)]) ∧ Qw w w' := by
  go_enter Try.func20, Try.ntmps20
  go_wp2
  exact bodyPost_ret (v := .agg #[.int .i64 (x + a), .int .i64 (y + b), .int .i64 (z + c)]) (by simp [results, Try.results20, go_sem]) rfl ⟨rfl, (((Below.refl _ _).alloc (Nat.le_refl _) _).alloc (by simp) _).alloc (by simp; omega) _⟩

theorem vc_sub (x y z a b c : Int) (x1 : -4194304 ≤ x) (x2 : x ≤ 4194304) (y1 : -4194304 ≤ y) (y2 : y ≤ 4194304) (z1 : -4194304 ≤ z) (z2 : z ≤ 4194304) (a1 : -4194304 ≤ a) (a2 : a ≤ 4194304) (b1 : -4194304 ≤ b) (b2 : b ≤ 4194304) (c1 : -4194304 ≤ c) (c2 : c ≤ 4194304) (w : World) :
    Calls Try.prog 22 #[.agg #[.int .i64 x, .int .i64 y, .int .i64 z], .agg #[.int .i64 a, .int .i64 b, .int .i64 c]] w fun e w' => e = .returned (.agg #[.int .i64 (x - a), .int .i64 (y - b), .int .i64 (z - c)]) ∧ Qw w w' := by
  go_enter Try.func22, Try.ntmps22
  go_wp2
  exact bodyPost_ret (v := .agg #[.int .i64 (x - a), .int .i64 (y - b), .int .i64 (z - c)]) (by simp [results, Try.results22, go_sem]) rfl ⟨rfl, (((Below.refl _ _).alloc (Nat.le_refl _) _).alloc (by simp) _).alloc (by simp; omega) _⟩

theorem vc_dot (x y z a b c : Int) (x1 : -4194304 ≤ x) (x2 : x ≤ 4194304) (y1 : -4194304 ≤ y) (y2 : y ≤ 4194304) (z1 : -4194304 ≤ z) (z2 : z ≤ 4194304) (a1 : -4194304 ≤ a) (a2 : a ≤ 4194304) (b1 : -4194304 ≤ b) (b2 : b ≤ 4194304) (c1 : -4194304 ≤ c) (c2 : c ≤ 4194304) (w : World) :
    Calls Try.prog 24 #[.agg #[.int .i64 x, .int .i64 y, .int .i64 z], .agg #[.int .i64 a, .int .i64 b, .int .i64 c]] w fun e w' => e = .returned (.int .i64 (x * a + y * b + z * c)) ∧ Qw w w' := by
  obtain ⟨p1, p2⟩ := sq_bd x1 x2 a1 a2
  obtain ⟨p3, p4⟩ := sq_bd y1 y2 b1 b2
  obtain ⟨p5, p6⟩ := sq_bd z1 z2 c1 c2
  go_enter Try.func24, Try.ntmps24
  go_wp2
  go_ret
  exact ⟨rfl, ((Below.refl _ _).alloc (Nat.le_refl _) _).alloc (by simp) _⟩

theorem vc_length (x y z m : Int) (x1 : -4194304 ≤ x) (x2 : x ≤ 4194304) (y1 : -4194304 ≤ y) (y2 : y ≤ 4194304) (z1 : -4194304 ≤ z) (z2 : z ≤ 4194304) (m1 : -9223372036854775808 ≤ m) (m2 : m ≤ 9223372036854775807) (w : World) :
    Calls Try.prog 26 #[.agg #[.int .i64 x, .int .i64 y, .int .i64 z], .int .i64 m] w fun e w' => e = .returned (.tuple #[.int .i64 (rtv (x * x + y * y + z * z) 1 m), .bool (rtok (x * x + y * y + z * z) 1 m)]) ∧ Qw w w' := by
  obtain ⟨p1, p2⟩ := sq_bd x1 x2 x1 x2
  obtain ⟨p3, p4⟩ := sq_bd y1 y2 y1 y2
  obtain ⟨p5, p6⟩ := sq_bd z1 z2 z1 z2
  have q0 := ((Below.refl w.heap.size w).alloc (Nat.le_refl _) (.cells #[.int .i64 x, .int .i64 y, .int .i64 z] 23))
  have d1 := fun w => vc_dot x y z x y z x1 x2 y1 y2 z1 z2 x1 x2 y1 y2 z1 z2 w
  have d2 := fun w => sqrtW (x * x + y * y + z * z) m (by omega) (by omega) w
  generalize x * x + y * y + z * z = D at *
  generalize rtv D 1 m = R at *
  generalize rtok D 1 m = K at *
  have D1 := Lib.hid d1; have D2 := Lib.hid d2; have Q0 := Lib.hid q0
  clear d1 d2 p1 p2 p3 p4 p5 p6 q0
  go_enter Try.func26, Try.ntmps26
  go_wp2_with fail
  refine (D1.out _).mono ?_
  rintro e w1 ⟨rfl, h1⟩
  go_wp2_with fail
  refine (D2.out _).mono ?_
  rintro e w2 ⟨rfl, h2⟩
  go_wp2_with fail
  go_ret2
  exact ⟨rfl, Q0.out.trans ((Below.mono h1 (by simp)).trans (Below.mono h2 (Nat.le_trans (by simp) h1.size)))⟩

theorem vc_cross (u v a b : Int) (u1 : -4194304 ≤ u) (u2 : u ≤ 4194304) (v1 : -4194304 ≤ v) (v2 : v ≤ 4194304) (a1 : -4194304 ≤ a) (a2 : a ≤ 4194304) (b1 : -4194304 ≤ b) (b2 : b ≤ 4194304) (w : World) :
    Calls Try.prog 34 #[.agg #[.int .i64 u, .int .i64 v], .agg #[.int .i64 a, .int .i64 b]] w fun e w' => e = .returned (.int .i64 (u * b - v * a)) ∧ Qw w w' := by
  obtain ⟨p1, p2⟩ := sq_bd u1 u2 b1 b2
  obtain ⟨p3, p4⟩ := sq_bd v1 v2 a1 a2
  go_enter Try.func34, Try.ntmps34
  go_wp2
  go_ret
  exact ⟨rfl, ((Below.refl _ _).alloc (Nat.le_refl _) _).alloc (by simp) _⟩

theorem vc_inner (u v a b : Int) (u1 : -4194304 ≤ u) (u2 : u ≤ 4194304) (v1 : -4194304 ≤ v) (v2 : v ≤ 4194304) (a1 : -4194304 ≤ a) (a2 : a ≤ 4194304) (b1 : -4194304 ≤ b) (b2 : b ≤ 4194304) (w : World) :
    Calls Try.prog 36 #[.agg #[.int .i64 u, .int .i64 v], .agg #[.int .i64 a, .int .i64 b]] w fun e w' => e = .returned (.int .i64 (u * a + v * b)) ∧ Qw w w' := by
  obtain ⟨p1, p2⟩ := sq_bd u1 u2 a1 a2
  obtain ⟨p3, p4⟩ := sq_bd v1 v2 b1 b2
  go_enter Try.func36, Try.ntmps36
  go_wp2
  go_ret
  exact ⟨rfl, ((Below.refl _ _).alloc (Nat.le_refl _) _).alloc (by simp) _⟩

end Go.Proofs.Ytlfkgnpbpmejkaa
