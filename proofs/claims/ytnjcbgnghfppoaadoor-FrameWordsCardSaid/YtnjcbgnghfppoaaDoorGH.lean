import Derived.Test.YtnjcbgnghfppoaaDoorGA
import Derived.Lib.Hide
import Derived.StillTailTactics
import Derived.Outline
import Derived.BigRegion
import Derived.RegionTactic
import Derived.Test.YtnjcbgnghfppoaaDoorGB
import Derived.Test.YtnjcbgnghfppoaaDoorGF
import Derived.Deep.Cut

/- Plain words of layer 4. -/
set_option linter.unusedVariables false
set_option linter.unusedSimpArgs false
namespace Go.Proofs.YtnjcbgnghfppoaaDoor
open Go.RowKit

/-- A coordinate. -/
def crd (n : Int) : Bool := decide (-1048576 ≤ n) && decide (n ≤ 1048576)
def wth (x y z : Int) : Bool := crd x && (crd y && crd z)
/-- The position in a plane, and the height. -/
def fu (p x y z : Int) : Int := if p = 17 then x else if p = 18 then z else if p = 19 then y else 0
def fw (p x y z : Int) : Int := if p = 17 then y else if p = 18 then x else if p = 19 then z else 0
def fh (p x y z : Int) : Int := if p = 17 then z else if p = 18 then y else if p = 19 then x else 0
def pin (p : Int) : Bool := decide (p = 17) || (decide (p = 18) || decide (p = 19))
/-- The vector over a position in a plane. -/
def sx (p u v h : Int) : Int := if p = 17 then u else if p = 18 then v else if p = 19 then h else 0
def sy (p u v h : Int) : Int := if p = 17 then v else if p = 18 then h else if p = 19 then u else 0
def sz (p u v h : Int) : Int := if p = 17 then h else if p = 18 then u else if p = 19 then v else 0
/-- A small number. -/
def sm (n : Int) : Int := -4194304 + n % 8388609

theorem sm_bd (n : Int) : -4194304 ≤ sm n ∧ sm n ≤ 4194304 := by unfold sm; omega
theorem vmul_bd {a b L : Int} (l0 : 0 ≤ L) (a1 : -L ≤ a) (a2 : a ≤ L) (b1 : -L ≤ b) (b2 : b ≤ L) : -(L * L) ≤ a * b ∧ a * b ≤ L * L := by
  have key : ∀ x y : Int, x ≤ L → 0 ≤ y → y ≤ L → -L ≤ x → -(L * L) ≤ x * y ∧ x * y ≤ L * L := by
    intro x y hx y0 hy hx'
    have m1 := Int.mul_le_mul_of_nonneg_right hx y0
    have m2 := Int.mul_le_mul_of_nonneg_left hy l0
    have m3 := Int.mul_le_mul_of_nonneg_right hx' y0
    rw [Int.neg_mul] at m3
    omega
  by_cases c : 0 ≤ b
  · exact key a b a2 c b2 a1
  · have := key a (-b) a2 (by omega) (by omega) a1
    rw [Int.mul_neg] at this
    omega
theorem vsq_bd {a b : Int} (a1 : -4194304 ≤ a) (a2 : a ≤ 4194304) (b1 : -4194304 ≤ b) (b2 : b ≤ 4194304) : -17592186044416 ≤ a * b ∧ a * b ≤ 17592186044416 := vmul_bd (L := 4194304) (by decide) a1 a2 b1 b2

end Go.Proofs.YtnjcbgnghfppoaaDoor

/- The walks of package vec. -/
set_option linter.unusedVariables false
set_option linter.unusedSimpArgs false
namespace Go.Proofs.YtnjcbgnghfppoaaDoor
open Go.RowKit

theorem vc_crd (n : Int) (n1 : -9223372036854775808 ≤ n) (n2 : n ≤ 9223372036854775807) (w : World) :
    Calls Tryd.prog 64 #[.int .i64 n] w fun e w' => e = .returned (.bool (crd n)) ∧ w = w' := by
  have main : ∀ b, crd n = b → Calls Tryd.prog 64 #[.int .i64 n] w fun e w' => e = .returned (.bool b) ∧ w = w' := by
    intro b hb
    unfold crd at hb
    by_cases h1 : -1048576 ≤ n
    · by_cases h2 : n ≤ 1048576
      · obtain rfl : b = true := by rw [← hb]; simp [h1, h2]
        clear hb
        go_enter Tryd.func64, Tryd.ntmps64
        go_wp2
        go_ret
        exact ⟨rfl, rfl⟩
      · obtain rfl : b = false := by rw [← hb]; simp [h2]
        clear hb
        have h3 : 1048577 ≤ n := by omega
        go_enter Tryd.func64, Tryd.ntmps64
        go_wp2
        go_ret
        exact ⟨rfl, rfl⟩
    · obtain rfl : b = false := by rw [← hb]; simp [h1]
      clear hb
      go_enter Tryd.func64, Tryd.ntmps64
      go_wp2
      go_ret
      exact ⟨rfl, rfl⟩
  exact main _ rfl

theorem vc_within (x y z : Int) (x1 : -9223372036854775808 ≤ x) (x2 : x ≤ 9223372036854775807) (y1 : -9223372036854775808 ≤ y) (y2 : y ≤ 9223372036854775807) (z1 : -9223372036854775808 ≤ z) (z2 : z ≤ 9223372036854775807) (w : World) :
    Calls Tryd.prog 43 #[.agg #[.int .i64 x, .int .i64 y, .int .i64 z]] w fun e w' => e = .returned (.bool (wth x y z)) ∧ Qw w w' := by
  have cx := fun w => vc_crd x x1 x2 w
  have cy := fun w => vc_crd y y1 y2 w
  have cz := fun w => vc_crd z z1 z2 w
  unfold wth
  generalize crd x = bx at *
  generalize crd y = b_y at *
  generalize crd z = bz at *
  cases bx
  · have Cx := Lib.hid cx; have Cy := Lib.hid cy; have Cz := Lib.hid cz
    clear cx cy cz
    go_enter Tryd.func43, Tryd.ntmps43
    go_wp2_with (first | (go_at_call 64; ((with_reducible refine (Cx.out _).mono ?_); rintro e w' ⟨rfl, rfl⟩)) | (go_at_call 64; ((with_reducible refine (Cy.out _).mono ?_); rintro e w' ⟨rfl, rfl⟩)) | (go_at_call 64; ((with_reducible refine (Cz.out _).mono ?_); rintro e w' ⟨rfl, rfl⟩)))
    go_ret
    exact ⟨rfl, (Below.refl _ _).alloc (Nat.le_refl _) _⟩
  cases b_y
  · have Cx := Lib.hid cx; have Cy := Lib.hid cy; have Cz := Lib.hid cz
    clear cx cy cz
    go_enter Tryd.func43, Tryd.ntmps43
    go_wp2_with (first | (go_at_call 64; ((with_reducible refine (Cx.out _).mono ?_); rintro e w' ⟨rfl, rfl⟩)) | (go_at_call 64; ((with_reducible refine (Cy.out _).mono ?_); rintro e w' ⟨rfl, rfl⟩)) | (go_at_call 64; ((with_reducible refine (Cz.out _).mono ?_); rintro e w' ⟨rfl, rfl⟩)))
    go_ret
    exact ⟨rfl, (Below.refl _ _).alloc (Nat.le_refl _) _⟩
  cases bz
  · have Cx := Lib.hid cx; have Cy := Lib.hid cy; have Cz := Lib.hid cz
    clear cx cy cz
    go_enter Tryd.func43, Tryd.ntmps43
    go_wp2_with (first | (go_at_call 64; ((with_reducible refine (Cx.out _).mono ?_); rintro e w' ⟨rfl, rfl⟩)) | (go_at_call 64; ((with_reducible refine (Cy.out _).mono ?_); rintro e w' ⟨rfl, rfl⟩)) | (go_at_call 64; ((with_reducible refine (Cz.out _).mono ?_); rintro e w' ⟨rfl, rfl⟩)))
    go_ret
    exact ⟨rfl, (Below.refl _ _).alloc (Nat.le_refl _) _⟩
  · have Cx := Lib.hid cx; have Cy := Lib.hid cy; have Cz := Lib.hid cz
    clear cx cy cz
    go_enter Tryd.func43, Tryd.ntmps43
    go_wp2_with (first | (go_at_call 64; ((with_reducible refine (Cx.out _).mono ?_); rintro e w' ⟨rfl, rfl⟩)) | (go_at_call 64; ((with_reducible refine (Cy.out _).mono ?_); rintro e w' ⟨rfl, rfl⟩)) | (go_at_call 64; ((with_reducible refine (Cz.out _).mono ?_); rintro e w' ⟨rfl, rfl⟩)))
    go_ret
    exact ⟨rfl, (Below.refl _ _).alloc (Nat.le_refl _) _⟩

theorem vc_add (x y z a b c : Int) (x1 : -4194304 ≤ x) (x2 : x ≤ 4194304) (y1 : -4194304 ≤ y) (y2 : y ≤ 4194304) (z1 : -4194304 ≤ z) (z2 : z ≤ 4194304) (a1 : -4194304 ≤ a) (a2 : a ≤ 4194304) (b1 : -4194304 ≤ b) (b2 : b ≤ 4194304) (c1 : -4194304 ≤ c) (c2 : c ≤ 4194304) (w : World) :
    Calls Tryd.prog 48 #[.agg #[.int .i64 x, .int .i64 y, .int .i64 z], .agg #[.int .i64 a, .int .i64 b, .int .i64 c]] w fun e w' => e = .returned (.agg #[.int .i64 (x + a), .int .i64 (y + b), .int .i64 (z + c)]) ∧ Qw w w' := by
  go_enter Tryd.func48, Tryd.ntmps48
  go_wp2
  exact bodyPost_ret (v := .agg #[.int .i64 (x + a), .int .i64 (y + b), .int .i64 (z + c)]) (by simp [results, Tryd.results48, go_sem]) rfl ⟨rfl, (((Below.refl _ _).alloc (Nat.le_refl _) _).alloc (by simp) _).alloc (by simp; omega) _⟩

theorem vc_sub (x y z a b c : Int) (x1 : -4194304 ≤ x) (x2 : x ≤ 4194304) (y1 : -4194304 ≤ y) (y2 : y ≤ 4194304) (z1 : -4194304 ≤ z) (z2 : z ≤ 4194304) (a1 : -4194304 ≤ a) (a2 : a ≤ 4194304) (b1 : -4194304 ≤ b) (b2 : b ≤ 4194304) (c1 : -4194304 ≤ c) (c2 : c ≤ 4194304) (w : World) :
    Calls Tryd.prog 53 #[.agg #[.int .i64 x, .int .i64 y, .int .i64 z], .agg #[.int .i64 a, .int .i64 b, .int .i64 c]] w fun e w' => e = .returned (.agg #[.int .i64 (x - a), .int .i64 (y - b), .int .i64 (z - c)]) ∧ Qw w w' := by
  go_enter Tryd.func53, Tryd.ntmps53
  go_wp2
  exact bodyPost_ret (v := .agg #[.int .i64 (x - a), .int .i64 (y - b), .int .i64 (z - c)]) (by simp [results, Tryd.results53, go_sem]) rfl ⟨rfl, (((Below.refl _ _).alloc (Nat.le_refl _) _).alloc (by simp) _).alloc (by simp; omega) _⟩

end Go.Proofs.YtnjcbgnghfppoaaDoor

/- The walks of vec's Flat and Solid. -/
set_option linter.unusedVariables false
set_option linter.unusedSimpArgs false
namespace Go.Proofs.YtnjcbgnghfppoaaDoor
open Go.RowKit

theorem vc_flat (p x y z : Int) (p1 : -9223372036854775808 ≤ p) (p2 : p ≤ 9223372036854775807) (w : World) :
    Calls Tryd.prog 65 #[.int .i64 p, .agg #[.int .i64 x, .int .i64 y, .int .i64 z]] w fun e w' => e = .returned (.tuple #[.agg #[.int .i64 (fu p x y z), .int .i64 (fw p x y z)], .int .i64 (fh p x y z), .bool (pin p)]) ∧ Qw w w' := by
  have main : ∀ u v h b, fu p x y z = u → fw p x y z = v → fh p x y z = h → pin p = b → Calls Tryd.prog 65 #[.int .i64 p, .agg #[.int .i64 x, .int .i64 y, .int .i64 z]] w fun e w' => e = .returned (.tuple #[.agg #[.int .i64 u, .int .i64 v], .int .i64 h, .bool b]) ∧ Qw w w' := by
    intro u v h b e1 e2 e3 e4
    unfold fu at e1; unfold fw at e2; unfold fh at e3; unfold pin at e4
    by_cases n1 : p = 17
    · subst n1
      obtain rfl : x = u := by simpa using e1
      obtain rfl : y = v := by simpa using e2
      obtain rfl : z = h := by simpa using e3
      obtain rfl : true = b := by simpa using e4
      clear e1 e2 e3 e4
      go_enter Tryd.func65, Tryd.ntmps65
      go_wp2
      go_region
      all_goals (go_wp2; exact bodyPost_ret (v := .tuple #[.agg #[.int .i64 x, .int .i64 y], .int .i64 z, .bool true]) (by simp [results, Tryd.results65, go_sem]) rfl ⟨rfl, Below.drew (((Below.refl _ _).alloc (Nat.le_refl _) _).alloc (by simp) _)⟩)
    by_cases n2 : p = 18
    · subst n2
      obtain rfl : z = u := by simpa using e1
      obtain rfl : x = v := by simpa using e2
      obtain rfl : y = h := by simpa using e3
      obtain rfl : true = b := by simpa using e4
      clear e1 e2 e3 e4
      go_enter Tryd.func65, Tryd.ntmps65
      go_wp2
      go_region
      all_goals (go_wp2; exact bodyPost_ret (v := .tuple #[.agg #[.int .i64 z, .int .i64 x], .int .i64 y, .bool true]) (by simp [results, Tryd.results65, go_sem]) rfl ⟨rfl, Below.drew (((Below.refl _ _).alloc (Nat.le_refl _) _).alloc (by simp) _)⟩)
    by_cases n3 : p = 19
    · subst n3
      obtain rfl : y = u := by simpa using e1
      obtain rfl : z = v := by simpa using e2
      obtain rfl : x = h := by simpa using e3
      obtain rfl : true = b := by simpa using e4
      clear e1 e2 e3 e4
      go_enter Tryd.func65, Tryd.ntmps65
      go_wp2
      go_region
      all_goals (go_wp2; exact bodyPost_ret (v := .tuple #[.agg #[.int .i64 y, .int .i64 z], .int .i64 x, .bool true]) (by simp [results, Tryd.results65, go_sem]) rfl ⟨rfl, Below.drew (((Below.refl _ _).alloc (Nat.le_refl _) _).alloc (by simp) _)⟩)
    · obtain rfl : 0 = u := by simpa [n1, n2, n3] using e1
      obtain rfl : 0 = v := by simpa [n1, n2, n3] using e2
      obtain rfl : 0 = h := by simpa [n1, n2, n3] using e3
      obtain rfl : false = b := by simpa [n1, n2, n3] using e4
      clear e1 e2 e3 e4
      go_enter Tryd.func65, Tryd.ntmps65
      go_wp2
      exact bodyPost_ret (v := .tuple #[.agg #[.int .i64 0, .int .i64 0], .int .i64 0, .bool false]) (by simp [results, Tryd.results65, go_sem]) rfl ⟨rfl, ((Below.refl _ _).alloc (Nat.le_refl _) _).alloc (by simp) _⟩
  exact main _ _ _ _ rfl rfl rfl rfl

theorem vc_solid (p u v h : Int) (p1 : -9223372036854775808 ≤ p) (p2 : p ≤ 9223372036854775807) (w : World) :
    Calls Tryd.prog 71 #[.int .i64 p, .agg #[.int .i64 u, .int .i64 v], .int .i64 h] w fun e w' => e = .returned (.tuple #[.agg #[.int .i64 (sx p u v h), .int .i64 (sy p u v h), .int .i64 (sz p u v h)], .bool (pin p)]) ∧ Qw w w' := by
  have main : ∀ x y z b, sx p u v h = x → sy p u v h = y → sz p u v h = z → pin p = b → Calls Tryd.prog 71 #[.int .i64 p, .agg #[.int .i64 u, .int .i64 v], .int .i64 h] w fun e w' => e = .returned (.tuple #[.agg #[.int .i64 x, .int .i64 y, .int .i64 z], .bool b]) ∧ Qw w w' := by
    intro x y z b e1 e2 e3 e4
    unfold sx at e1; unfold sy at e2; unfold sz at e3; unfold pin at e4
    by_cases n1 : p = 17
    · subst n1
      obtain rfl : u = x := by simpa using e1
      obtain rfl : v = y := by simpa using e2
      obtain rfl : h = z := by simpa using e3
      obtain rfl : true = b := by simpa using e4
      clear e1 e2 e3 e4
      go_enter Tryd.func71, Tryd.ntmps71
      go_wp2
      exact bodyPost_ret (v := .tuple #[.agg #[.int .i64 u, .int .i64 v, .int .i64 h], .bool true]) (by simp [results, Tryd.results71, go_sem]) rfl ⟨rfl, ((Below.refl _ _).alloc (Nat.le_refl _) _).alloc (by simp) _⟩
    by_cases n2 : p = 18
    · subst n2
      obtain rfl : v = x := by simpa using e1
      obtain rfl : h = y := by simpa using e2
      obtain rfl : u = z := by simpa using e3
      obtain rfl : true = b := by simpa using e4
      clear e1 e2 e3 e4
      go_enter Tryd.func71, Tryd.ntmps71
      go_wp2
      exact bodyPost_ret (v := .tuple #[.agg #[.int .i64 v, .int .i64 h, .int .i64 u], .bool true]) (by simp [results, Tryd.results71, go_sem]) rfl ⟨rfl, ((Below.refl _ _).alloc (Nat.le_refl _) _).alloc (by simp) _⟩
    by_cases n3 : p = 19
    · subst n3
      obtain rfl : h = x := by simpa using e1
      obtain rfl : u = y := by simpa using e2
      obtain rfl : v = z := by simpa using e3
      obtain rfl : true = b := by simpa using e4
      clear e1 e2 e3 e4
      go_enter Tryd.func71, Tryd.ntmps71
      go_wp2
      exact bodyPost_ret (v := .tuple #[.agg #[.int .i64 h, .int .i64 u, .int .i64 v], .bool true]) (by simp [results, Tryd.results71, go_sem]) rfl ⟨rfl, ((Below.refl _ _).alloc (Nat.le_refl _) _).alloc (by simp) _⟩
    · obtain rfl : 0 = x := by simpa [n1, n2, n3] using e1
      obtain rfl : 0 = y := by simpa [n1, n2, n3] using e2
      obtain rfl : 0 = z := by simpa [n1, n2, n3] using e3
      obtain rfl : false = b := by simpa [n1, n2, n3] using e4
      clear e1 e2 e3 e4
      go_enter Tryd.func71, Tryd.ntmps71
      go_wp2
      exact bodyPost_ret (v := .tuple #[.agg #[.int .i64 0, .int .i64 0, .int .i64 0], .bool false]) (by simp [results, Tryd.results71, go_sem]) rfl ⟨rfl, ((Below.refl _ _).alloc (Nat.le_refl _) _).alloc (by simp) _⟩
  exact main _ _ _ _ rfl rfl rfl rfl

end Go.Proofs.YtnjcbgnghfppoaaDoor

/- The walks of the specification of vec. -/
set_option linter.unusedVariables false
set_option linter.unusedSimpArgs false
namespace Go.Proofs.YtnjcbgnghfppoaaDoor
open Go.RowKit

theorem vr_crd (n : Int) (n1 : -9223372036854775808 ≤ n) (n2 : n ≤ 9223372036854775807) (w : World) :
    Calls Tryd.prog 66 #[.int .i64 n, .int .i64 1048576] w fun e w' => e = .returned (.bool (crd n)) ∧ w = w' := by
  have main : ∀ b, crd n = b → Calls Tryd.prog 66 #[.int .i64 n, .int .i64 1048576] w fun e w' => e = .returned (.bool b) ∧ w = w' := by
    intro b hb
    unfold crd at hb
    by_cases h1 : -1048576 ≤ n
    · by_cases h2 : n ≤ 1048576
      · obtain rfl : b = true := by rw [← hb]; simp [h1, h2]
        clear hb
        go_enter Tryd.func66, Tryd.ntmps66
        go_wp2
        go_ret
        exact ⟨rfl, rfl⟩
      · obtain rfl : b = false := by rw [← hb]; simp [h2]
        clear hb
        have h3 : 1048577 ≤ n := by omega
        go_enter Tryd.func66, Tryd.ntmps66
        go_wp2
        go_ret
        exact ⟨rfl, rfl⟩
    · obtain rfl : b = false := by rw [← hb]; simp [h1]
      clear hb
      go_enter Tryd.func66, Tryd.ntmps66
      go_wp2
      go_ret
      exact ⟨rfl, rfl⟩
  exact main _ rfl

theorem vr_within (x y z : Int) (x1 : -9223372036854775808 ≤ x) (x2 : x ≤ 9223372036854775807) (y1 : -9223372036854775808 ≤ y) (y2 : y ≤ 9223372036854775807) (z1 : -9223372036854775808 ≤ z) (z2 : z ≤ 9223372036854775807) (w : World) :
    Calls Tryd.prog 46 #[.agg #[.int .i64 x, .int .i64 y, .int .i64 z]] w fun e w' => e = .returned (.bool (wth x y z)) ∧ Qw w w' := by
  have cx := fun w => vr_crd x x1 x2 w
  have cy := fun w => vr_crd y y1 y2 w
  have cz := fun w => vr_crd z z1 z2 w
  unfold wth
  generalize crd x = bx at *
  generalize crd y = b_y at *
  generalize crd z = bz at *
  cases bx
  · have Cx := Lib.hid cx; have Cy := Lib.hid cy; have Cz := Lib.hid cz
    clear cx cy cz
    go_enter Tryd.func46, Tryd.ntmps46
    go_wp2_with (first | (go_at_call 66; ((with_reducible refine (Cx.out _).mono ?_); rintro e w' ⟨rfl, rfl⟩)) | (go_at_call 66; ((with_reducible refine (Cy.out _).mono ?_); rintro e w' ⟨rfl, rfl⟩)) | (go_at_call 66; ((with_reducible refine (Cz.out _).mono ?_); rintro e w' ⟨rfl, rfl⟩)))
    go_ret
    exact ⟨rfl, (Below.refl _ _).alloc (Nat.le_refl _) _⟩
  cases b_y
  · have Cx := Lib.hid cx; have Cy := Lib.hid cy; have Cz := Lib.hid cz
    clear cx cy cz
    go_enter Tryd.func46, Tryd.ntmps46
    go_wp2_with (first | (go_at_call 66; ((with_reducible refine (Cx.out _).mono ?_); rintro e w' ⟨rfl, rfl⟩)) | (go_at_call 66; ((with_reducible refine (Cy.out _).mono ?_); rintro e w' ⟨rfl, rfl⟩)) | (go_at_call 66; ((with_reducible refine (Cz.out _).mono ?_); rintro e w' ⟨rfl, rfl⟩)))
    go_ret
    exact ⟨rfl, (Below.refl _ _).alloc (Nat.le_refl _) _⟩
  cases bz
  · have Cx := Lib.hid cx; have Cy := Lib.hid cy; have Cz := Lib.hid cz
    clear cx cy cz
    go_enter Tryd.func46, Tryd.ntmps46
    go_wp2_with (first | (go_at_call 66; ((with_reducible refine (Cx.out _).mono ?_); rintro e w' ⟨rfl, rfl⟩)) | (go_at_call 66; ((with_reducible refine (Cy.out _).mono ?_); rintro e w' ⟨rfl, rfl⟩)) | (go_at_call 66; ((with_reducible refine (Cz.out _).mono ?_); rintro e w' ⟨rfl, rfl⟩)))
    go_ret
    exact ⟨rfl, (Below.refl _ _).alloc (Nat.le_refl _) _⟩
  · have Cx := Lib.hid cx; have Cy := Lib.hid cy; have Cz := Lib.hid cz
    clear cx cy cz
    go_enter Tryd.func46, Tryd.ntmps46
    go_wp2_with (first | (go_at_call 66; ((with_reducible refine (Cx.out _).mono ?_); rintro e w' ⟨rfl, rfl⟩)) | (go_at_call 66; ((with_reducible refine (Cy.out _).mono ?_); rintro e w' ⟨rfl, rfl⟩)) | (go_at_call 66; ((with_reducible refine (Cz.out _).mono ?_); rintro e w' ⟨rfl, rfl⟩)))
    go_ret
    exact ⟨rfl, (Below.refl _ _).alloc (Nat.le_refl _) _⟩

theorem vr_add (x y z a b c : Int) (x1 : -4194304 ≤ x) (x2 : x ≤ 4194304) (y1 : -4194304 ≤ y) (y2 : y ≤ 4194304) (z1 : -4194304 ≤ z) (z2 : z ≤ 4194304) (a1 : -4194304 ≤ a) (a2 : a ≤ 4194304) (b1 : -4194304 ≤ b) (b2 : b ≤ 4194304) (c1 : -4194304 ≤ c) (c2 : c ≤ 4194304) (w : World) :
    Calls Tryd.prog 32 #[.agg #[.int .i64 x, .int .i64 y, .int .i64 z], .agg #[.int .i64 a, .int .i64 b, .int .i64 c]] w fun e w' => e = .returned (.agg #[.int .i64 (x + a), .int .i64 (y + b), .int .i64 (z + c)]) ∧ Qw w w' := by
  go_enter Tryd.func32, Tryd.ntmps32
  go_wp2
  exact bodyPost_ret (v := .agg #[.int .i64 (x + a), .int .i64 (y + b), .int .i64 (z + c)]) (by simp [results, Tryd.results32, go_sem]) rfl ⟨rfl, (((Below.refl _ _).alloc (Nat.le_refl _) _).alloc (by simp) _).alloc (by simp; omega) _⟩

theorem vr_sub (x y z a b c : Int) (x1 : -4194304 ≤ x) (x2 : x ≤ 4194304) (y1 : -4194304 ≤ y) (y2 : y ≤ 4194304) (z1 : -4194304 ≤ z) (z2 : z ≤ 4194304) (a1 : -4194304 ≤ a) (a2 : a ≤ 4194304) (b1 : -4194304 ≤ b) (b2 : b ≤ 4194304) (c1 : -4194304 ≤ c) (c2 : c ≤ 4194304) (w : World) :
    Calls Tryd.prog 30 #[.agg #[.int .i64 x, .int .i64 y, .int .i64 z], .agg #[.int .i64 a, .int .i64 b, .int .i64 c]] w fun e w' => e = .returned (.agg #[.int .i64 (x - a), .int .i64 (y - b), .int .i64 (z - c)]) ∧ Qw w w' := by
  go_enter Tryd.func30, Tryd.ntmps30
  go_wp2
  exact bodyPost_ret (v := .agg #[.int .i64 (x - a), .int .i64 (y - b), .int .i64 (z - c)]) (by simp [results, Tryd.results30, go_sem]) rfl ⟨rfl, (((Below.refl _ _).alloc (Nat.le_refl _) _).alloc (by simp) _).alloc (by simp; omega) _⟩

theorem vr_dot (x y z a b c : Int) (x1 : -4194304 ≤ x) (x2 : x ≤ 4194304) (y1 : -4194304 ≤ y) (y2 : y ≤ 4194304) (z1 : -4194304 ≤ z) (z2 : z ≤ 4194304) (a1 : -4194304 ≤ a) (a2 : a ≤ 4194304) (b1 : -4194304 ≤ b) (b2 : b ≤ 4194304) (c1 : -4194304 ≤ c) (c2 : c ≤ 4194304) (w : World) :
    Calls Tryd.prog 62 #[.agg #[.int .i64 x, .int .i64 y, .int .i64 z], .agg #[.int .i64 a, .int .i64 b, .int .i64 c]] w fun e w' => e = .returned (.int .i64 (x * a + y * b + z * c)) ∧ Qw w w' := by
  obtain ⟨p1, p2⟩ := vsq_bd x1 x2 a1 a2
  obtain ⟨p3, p4⟩ := vsq_bd y1 y2 b1 b2
  obtain ⟨p5, p6⟩ := vsq_bd z1 z2 c1 c2
  go_enter Tryd.func62, Tryd.ntmps62
  go_wp2
  go_ret
  exact ⟨rfl, ((Below.refl _ _).alloc (Nat.le_refl _) _).alloc (by simp) _⟩

theorem vr_length (x y z m : Int) (x1 : -4194304 ≤ x) (x2 : x ≤ 4194304) (y1 : -4194304 ≤ y) (y2 : y ≤ 4194304) (z1 : -4194304 ≤ z) (z2 : z ≤ 4194304) (m1 : -9223372036854775808 ≤ m) (m2 : m ≤ 9223372036854775807) (w : World) :
    Calls Tryd.prog 33 #[.agg #[.int .i64 x, .int .i64 y, .int .i64 z], .int .i64 m] w fun e w' => e = .returned (.tuple #[.int .i64 (rtv (x * x + y * y + z * z) 1 m), .bool (rtok (x * x + y * y + z * z) 1 m)]) ∧ Qw w w' := by
  obtain ⟨p1, p2⟩ := vsq_bd x1 x2 x1 x2
  obtain ⟨p3, p4⟩ := vsq_bd y1 y2 y1 y2
  obtain ⟨p5, p6⟩ := vsq_bd z1 z2 z1 z2
  have q0 := ((Below.refl w.heap.size w).alloc (Nat.le_refl _) (.cells #[.int .i64 x, .int .i64 y, .int .i64 z] 23))
  have d1 := fun w => vr_dot x y z x y z x1 x2 y1 y2 z1 z2 x1 x2 y1 y2 z1 z2 w
  have d2 := fun w => refSqrtW (x * x + y * y + z * z) m (by omega) (by omega) w
  generalize x * x + y * y + z * z = D at *
  generalize rtv D 1 m = R at *
  generalize rtok D 1 m = K at *
  have D1 := Lib.hid d1; have D2 := Lib.hid d2; have Q0 := Lib.hid q0
  clear d1 d2 p1 p2 p3 p4 p5 p6 q0
  go_enter Tryd.func33, Tryd.ntmps33
  go_wp2_with fail
  refine (D1.out _).mono ?_
  rintro e w1 ⟨rfl, h1⟩
  go_wp2_with fail
  refine (D2.out _).mono ?_
  rintro e w2 ⟨rfl, h2⟩
  go_wp2_with fail
  go_ret2
  exact ⟨rfl, Q0.out.trans ((Below.mono h1 (by simp)).trans (Below.mono h2 (Nat.le_trans (by simp) h1.size)))⟩

end Go.Proofs.YtnjcbgnghfppoaaDoor

/- The walks of Flat and Solid of the specification of vec. -/
set_option linter.unusedVariables false
set_option linter.unusedSimpArgs false
namespace Go.Proofs.YtnjcbgnghfppoaaDoor
open Go.RowKit

theorem vr_flat (p x y z : Int) (p1 : -9223372036854775808 ≤ p) (p2 : p ≤ 9223372036854775807) (w : World) :
    Calls Tryd.prog 60 #[.int .i64 p, .agg #[.int .i64 x, .int .i64 y, .int .i64 z]] w fun e w' => e = .returned (.tuple #[.agg #[.int .i64 (fu p x y z), .int .i64 (fw p x y z)], .int .i64 (fh p x y z), .bool (pin p)]) ∧ Qw w w' := by
  have main : ∀ u v h b, fu p x y z = u → fw p x y z = v → fh p x y z = h → pin p = b → Calls Tryd.prog 60 #[.int .i64 p, .agg #[.int .i64 x, .int .i64 y, .int .i64 z]] w fun e w' => e = .returned (.tuple #[.agg #[.int .i64 u, .int .i64 v], .int .i64 h, .bool b]) ∧ Qw w w' := by
    intro u v h b e1 e2 e3 e4
    unfold fu at e1; unfold fw at e2; unfold fh at e3; unfold pin at e4
    by_cases n1 : p = 17
    · subst n1
      obtain rfl : x = u := by simpa using e1
      obtain rfl : y = v := by simpa using e2
      obtain rfl : z = h := by simpa using e3
      obtain rfl : true = b := by simpa using e4
      clear e1 e2 e3 e4
      go_enter Tryd.func60, Tryd.ntmps60
      go_wp2
      go_region
      all_goals (go_wp2; exact bodyPost_ret (v := .tuple #[.agg #[.int .i64 x, .int .i64 y], .int .i64 z, .bool true]) (by simp [results, Tryd.results60, go_sem]) rfl ⟨rfl, Below.drew (((Below.refl _ _).alloc (Nat.le_refl _) _).alloc (by simp) _)⟩)
    by_cases n2 : p = 18
    · subst n2
      obtain rfl : z = u := by simpa using e1
      obtain rfl : x = v := by simpa using e2
      obtain rfl : y = h := by simpa using e3
      obtain rfl : true = b := by simpa using e4
      clear e1 e2 e3 e4
      go_enter Tryd.func60, Tryd.ntmps60
      go_wp2
      go_region
      all_goals (go_wp2; exact bodyPost_ret (v := .tuple #[.agg #[.int .i64 z, .int .i64 x], .int .i64 y, .bool true]) (by simp [results, Tryd.results60, go_sem]) rfl ⟨rfl, Below.drew (((Below.refl _ _).alloc (Nat.le_refl _) _).alloc (by simp) _)⟩)
    by_cases n3 : p = 19
    · subst n3
      obtain rfl : y = u := by simpa using e1
      obtain rfl : z = v := by simpa using e2
      obtain rfl : x = h := by simpa using e3
      obtain rfl : true = b := by simpa using e4
      clear e1 e2 e3 e4
      go_enter Tryd.func60, Tryd.ntmps60
      go_wp2
      go_region
      all_goals (go_wp2; exact bodyPost_ret (v := .tuple #[.agg #[.int .i64 y, .int .i64 z], .int .i64 x, .bool true]) (by simp [results, Tryd.results60, go_sem]) rfl ⟨rfl, Below.drew (((Below.refl _ _).alloc (Nat.le_refl _) _).alloc (by simp) _)⟩)
    · obtain rfl : 0 = u := by simpa [n1, n2, n3] using e1
      obtain rfl : 0 = v := by simpa [n1, n2, n3] using e2
      obtain rfl : 0 = h := by simpa [n1, n2, n3] using e3
      obtain rfl : false = b := by simpa [n1, n2, n3] using e4
      clear e1 e2 e3 e4
      go_enter Tryd.func60, Tryd.ntmps60
      go_wp2
      exact bodyPost_ret (v := .tuple #[.agg #[.int .i64 0, .int .i64 0], .int .i64 0, .bool false]) (by simp [results, Tryd.results60, go_sem]) rfl ⟨rfl, ((Below.refl _ _).alloc (Nat.le_refl _) _).alloc (by simp) _⟩
  exact main _ _ _ _ rfl rfl rfl rfl

theorem vr_solid (p u v h : Int) (p1 : -9223372036854775808 ≤ p) (p2 : p ≤ 9223372036854775807) (w : World) :
    Calls Tryd.prog 63 #[.int .i64 p, .agg #[.int .i64 u, .int .i64 v], .int .i64 h] w fun e w' => e = .returned (.tuple #[.agg #[.int .i64 (sx p u v h), .int .i64 (sy p u v h), .int .i64 (sz p u v h)], .bool (pin p)]) ∧ Qw w w' := by
  have main : ∀ x y z b, sx p u v h = x → sy p u v h = y → sz p u v h = z → pin p = b → Calls Tryd.prog 63 #[.int .i64 p, .agg #[.int .i64 u, .int .i64 v], .int .i64 h] w fun e w' => e = .returned (.tuple #[.agg #[.int .i64 x, .int .i64 y, .int .i64 z], .bool b]) ∧ Qw w w' := by
    intro x y z b e1 e2 e3 e4
    unfold sx at e1; unfold sy at e2; unfold sz at e3; unfold pin at e4
    by_cases n1 : p = 17
    · subst n1
      obtain rfl : u = x := by simpa using e1
      obtain rfl : v = y := by simpa using e2
      obtain rfl : h = z := by simpa using e3
      obtain rfl : true = b := by simpa using e4
      clear e1 e2 e3 e4
      go_enter Tryd.func63, Tryd.ntmps63
      go_wp2
      exact bodyPost_ret (v := .tuple #[.agg #[.int .i64 u, .int .i64 v, .int .i64 h], .bool true]) (by simp [results, Tryd.results63, go_sem]) rfl ⟨rfl, ((Below.refl _ _).alloc (Nat.le_refl _) _).alloc (by simp) _⟩
    by_cases n2 : p = 18
    · subst n2
      obtain rfl : v = x := by simpa using e1
      obtain rfl : h = y := by simpa using e2
      obtain rfl : u = z := by simpa using e3
      obtain rfl : true = b := by simpa using e4
      clear e1 e2 e3 e4
      go_enter Tryd.func63, Tryd.ntmps63
      go_wp2
      exact bodyPost_ret (v := .tuple #[.agg #[.int .i64 v, .int .i64 h, .int .i64 u], .bool true]) (by simp [results, Tryd.results63, go_sem]) rfl ⟨rfl, ((Below.refl _ _).alloc (Nat.le_refl _) _).alloc (by simp) _⟩
    by_cases n3 : p = 19
    · subst n3
      obtain rfl : h = x := by simpa using e1
      obtain rfl : u = y := by simpa using e2
      obtain rfl : v = z := by simpa using e3
      obtain rfl : true = b := by simpa using e4
      clear e1 e2 e3 e4
      go_enter Tryd.func63, Tryd.ntmps63
      go_wp2
      exact bodyPost_ret (v := .tuple #[.agg #[.int .i64 h, .int .i64 u, .int .i64 v], .bool true]) (by simp [results, Tryd.results63, go_sem]) rfl ⟨rfl, ((Below.refl _ _).alloc (Nat.le_refl _) _).alloc (by simp) _⟩
    · obtain rfl : 0 = x := by simpa [n1, n2, n3] using e1
      obtain rfl : 0 = y := by simpa [n1, n2, n3] using e2
      obtain rfl : 0 = z := by simpa [n1, n2, n3] using e3
      obtain rfl : false = b := by simpa [n1, n2, n3] using e4
      clear e1 e2 e3 e4
      go_enter Tryd.func63, Tryd.ntmps63
      go_wp2
      exact bodyPost_ret (v := .tuple #[.agg #[.int .i64 0, .int .i64 0, .int .i64 0], .bool false]) (by simp [results, Tryd.results63, go_sem]) rfl ⟨rfl, ((Below.refl _ _).alloc (Nat.le_refl _) _).alloc (by simp) _⟩
  exact main _ _ _ _ rfl rfl rfl rfl

end Go.Proofs.YtnjcbgnghfppoaaDoor

/- Half of a small vector, and the sanity check of the laws of layer 4. -/
set_option linter.unusedVariables false
set_option linter.unusedSimpArgs false
namespace Go.Proofs.YtnjcbgnghfppoaaDoor
open Go.RowKit

/-- Half of a small number. -/
def hv (n : Int) : Int := (sm n).tdiv 2
theorem hv_bd (n : Int) : -2097152 ≤ hv n ∧ hv n ≤ 2097152 := by
  have := sm_bd n
  unfold hv
  rcases Int.lt_or_le (sm n) 0 with c | c
  · rw [show sm n = -(-(sm n)) by omega, Int.neg_tdiv, Int.tdiv_eq_ediv_of_nonneg (by omega)]; omega
  · rw [Int.tdiv_eq_ediv_of_nonneg c]; omega

end Go.Proofs.YtnjcbgnghfppoaaDoor

/- Plain facts for the laws of layer 4. -/
set_option linter.unusedVariables false
set_option linter.unusedSimpArgs false
namespace Go.Proofs.YtnjcbgnghfppoaaDoor
open Go.RowKit

theorem vbtw_bd (v l h : Int) (lh : l ≤ h) : l ≤ l + v % (h - l + 1) ∧ l + v % (h - l + 1) ≤ h := by
  have := Int.emod_nonneg v (show h - l + 1 ≠ 0 by omega)
  have := Int.emod_lt_of_pos v (show 0 < h - l + 1 by omega)
  omega
theorem three {r : Int} (r0 : 0 ≤ r) (r1 : r < 3) : r = 0 ∨ r = 1 ∨ r = 2 := by omega
theorem pin_true {r : Int} (r0 : 0 ≤ r) (r1 : r < 3) : pin (17 + r) = true := by
  rcases three r0 r1 with rfl | rfl | rfl <;> rfl
theorem back_a {r : Int} (r0 : 0 ≤ r) (r1 : r < 3) (x y z : Int) :
    sx (17 + r) (fu (17 + r) x y z) (fw (17 + r) x y z) (fh (17 + r) x y z) = x ∧ sy (17 + r) (fu (17 + r) x y z) (fw (17 + r) x y z) (fh (17 + r) x y z) = y ∧ sz (17 + r) (fu (17 + r) x y z) (fw (17 + r) x y z) (fh (17 + r) x y z) = z := by
  rcases three r0 r1 with rfl | rfl | rfl <;> exact ⟨rfl, rfl, rfl⟩
theorem back_b {r : Int} (r0 : 0 ≤ r) (r1 : r < 3) (u v h : Int) :
    fu (17 + r) (sx (17 + r) u v h) (sy (17 + r) u v h) (sz (17 + r) u v h) = u ∧ fw (17 + r) (sx (17 + r) u v h) (sy (17 + r) u v h) (sz (17 + r) u v h) = v ∧ fh (17 + r) (sx (17 + r) u v h) (sy (17 + r) u v h) (sz (17 + r) u v h) = h := by
  rcases three r0 r1 with rfl | rfl | rfl <;> exact ⟨rfl, rfl, rfl⟩
theorem flat_bd {r : Int} (r0 : 0 ≤ r) (r1 : r < 3) {x y z L : Int} (x1 : -L ≤ x) (x2 : x ≤ L) (y1 : -L ≤ y) (y2 : y ≤ L) (z1 : -L ≤ z) (z2 : z ≤ L) :
    (-L ≤ fu (17 + r) x y z ∧ fu (17 + r) x y z ≤ L) ∧ (-L ≤ fw (17 + r) x y z ∧ fw (17 + r) x y z ≤ L) ∧ (-L ≤ fh (17 + r) x y z ∧ fh (17 + r) x y z ≤ L) := by
  rcases three r0 r1 with rfl | rfl | rfl
  · exact ⟨⟨x1, x2⟩, ⟨y1, y2⟩, z1, z2⟩
  · exact ⟨⟨z1, z2⟩, ⟨x1, x2⟩, y1, y2⟩
  · exact ⟨⟨y1, y2⟩, ⟨z1, z2⟩, x1, x2⟩
theorem flat_dot {r : Int} (r0 : 0 ≤ r) (r1 : r < 3) (x y z a b c : Int) :
    x * a + y * b + z * c = fu (17 + r) x y z * fu (17 + r) a b c + fw (17 + r) x y z * fw (17 + r) a b c + fh (17 + r) x y z * fh (17 + r) a b c := by
  rcases three r0 r1 with rfl | rfl | rfl
  · rfl
  · show _ = z * c + x * a + y * b; omega
  · show _ = y * b + z * c + x * a; omega

/-- Rounded up: the least number whose square is no less. -/
theorem up_spec (n : Int) (h0 : 0 ≤ n) (h1 : n ≤ 9223372036854775807) : ∃ c : Int, rtv n 1 1 = c ∧ rtok n 1 1 = true ∧ 0 ≤ c ∧ c ≤ 3037000500 ∧ n ≤ c * c ∧ ∀ k : Int, 0 ≤ k → n ≤ k * k → c ≤ k := by
  have s := Mth.rt_spec n h0
  have z := rr_one n h0
  have t := rt_small n h0 h1
  have t0 := Mth.rt_nonneg n
  obtain ⟨o, e⟩ := sqrt_plain n 1 h0 h1 (by omega) (by omega)
  have low : ∀ k : Int, 0 ≤ k → n ≤ k * k → Mth.rt n ≤ k := fun k k0 hk => by
    refine Mth.isq_le_of t0 k0 ?_
    have : (k + 1) * (k + 1) = k * k + k + k + 1 := by rw [Int.mul_add, Int.add_mul]; omega
    omega
  by_cases c : n = Mth.rt n * Mth.rt n
  · refine ⟨Mth.rt n, ?_, o, t0, by omega, by omega, low⟩
    rw [e, z, if_pos c]; rfl
  · refine ⟨Mth.rt n + 1, ?_, o, by omega, by omega, by omega, fun k k0 hk => ?_⟩
    · rw [e, z, if_neg c]
      split <;> rfl
    · have l := low k k0 hk
      rcases Int.lt_or_eq_of_le l with l | l
      · omega
      · exfalso; apply c; rw [← l] at hk; omega
theorem down_spec (n : Int) (h0 : 0 ≤ n) (h1 : n ≤ 9223372036854775807) : ∃ c : Int, rtv n 1 0 = c ∧ rtok n 1 0 = true ∧ 0 ≤ c ∧ c ≤ 3037000499 ∧ c * c ≤ n ∧ n < (c + 1) * (c + 1) := by
  have s := Mth.rt_spec n h0
  have z := rr_one n h0
  obtain ⟨o, e⟩ := sqrt_plain n 0 h0 h1 (by omega) (by omega)
  refine ⟨Mth.rt n, ?_, o, Mth.rt_nonneg n, rt_small n h0 h1, s.1, s.2⟩
  rw [e, z]
  split
  · rfl
  · split <;> rfl
theorem le_of_sq {a b : Int} (hb : 0 ≤ b) (h : a * a ≤ b * b) : a ≤ b := by
  rcases Int.lt_or_le b a with c | c
  · exfalso
    have m1 := Int.mul_le_mul_of_nonneg_left (show b ≤ a by omega) hb
    have m2 := Int.mul_lt_mul_of_pos_right c (show 0 < a by omega)
    omega
  · exact c
theorem sq_nonneg (a : Int) : 0 ≤ a * a := by
  rcases Int.le_total 0 a with c | c
  · exact Int.mul_nonneg c c
  · have := Int.mul_nonneg (show 0 ≤ -a by omega) (show 0 ≤ -a by omega)
    rw [Int.neg_mul_neg] at this; exact this
theorem cauchy (x y z a b c : Int) : (x * a + y * b + z * c) * (x * a + y * b + z * c) ≤ (x * x + y * y + z * z) * (a * a + b * b + c * c) := by
  have e1 := sq_nonneg (x * b - y * a)
  have e2 := sq_nonneg (x * c - z * a)
  have e3 := sq_nonneg (y * c - z * b)
  simp only [Int.mul_add, Int.add_mul, Int.sub_mul, Int.mul_sub, Int.mul_assoc, Int.mul_comm, Int.mul_left_comm] at *
  omega
theorem tri_sum {x y z a b c m n k : Int} (m0 : 0 ≤ m) (n0 : 0 ≤ n) (hm : x * x + y * y + z * z ≤ m * m) (hn : a * a + b * b + c * c ≤ n * n)
    (hk : k * k ≤ (x + a) * (x + a) + (y + b) * (y + b) + (z + c) * (z + c)) : k ≤ m + n := by
  have h0 : 0 ≤ x * x + y * y + z * z := by have := sq_nonneg x; have := sq_nonneg y; have := sq_nonneg z; omega
  have h1 : 0 ≤ a * a + b * b + c * c := by have := sq_nonneg a; have := sq_nonneg b; have := sq_nonneg c; omega
  have cs := cauchy x y z a b c
  have p := Int.mul_le_mul hm hn h1 (Int.mul_nonneg m0 m0)
  have d : x * a + y * b + z * c ≤ m * n := by
    refine le_of_sq (Int.mul_nonneg m0 n0) (Int.le_trans cs (Int.le_trans p ?_))
    have : m * m * (n * n) = m * n * (m * n) := by simp only [Int.mul_assoc, Int.mul_comm, Int.mul_left_comm]
    omega
  refine le_of_sq (by omega) (Int.le_trans hk ?_)
  simp only [Int.mul_add, Int.add_mul, Int.mul_comm a x, Int.mul_comm b y, Int.mul_comm c z, Int.mul_comm n m]
  omega
theorem mag_cases (x : Int) : (0 ≤ x ∧ max x (-x) = x) ∨ (x ≤ 0 ∧ max x (-x) = -x) := by omega
theorem tri_up {x y z p q r : Int} (hp : x ≤ p) (hp' : -x ≤ p) (hq : y ≤ q) (hq' : -y ≤ q) (hr : z ≤ r) (hr' : -z ≤ r) :
    x * x + y * y + z * z ≤ (p + q + r) * (p + q + r) := by
  have sq : ∀ x p : Int, x ≤ p → -x ≤ p → x * x ≤ p * p := fun x p h1 h2 => by
    rcases Int.le_total 0 x with c | c
    · exact Int.mul_le_mul h1 h1 c (by omega)
    · have := Int.mul_le_mul h2 h2 (show 0 ≤ -x by omega) (by omega)
      rw [Int.neg_mul_neg] at this; exact this
  have a1 := sq x p hp hp'
  have a2 := sq y q hq hq'
  have a3 := sq z r hr hr'
  have b1 := Int.mul_nonneg (show 0 ≤ p by omega) (show 0 ≤ q by omega)
  have b2 := Int.mul_nonneg (show 0 ≤ p by omega) (show 0 ≤ r by omega)
  have b3 := Int.mul_nonneg (show 0 ≤ q by omega) (show 0 ≤ r by omega)
  simp only [Int.mul_add, Int.add_mul, Int.mul_comm q p, Int.mul_comm r p, Int.mul_comm r q]
  omega
theorem tri_low {x y z m : Int} (m0 : 0 ≤ m) (h : x * x + y * y + z * z ≤ m * m) : (x ≤ m ∧ -x ≤ m) ∧ (y ≤ m ∧ -y ≤ m) ∧ (z ≤ m ∧ -z ≤ m) := by
  have := sq_nonneg x; have := sq_nonneg y; have := sq_nonneg z
  exact ⟨⟨le_of_sq m0 (by omega), le_of_sq m0 (by rw [Int.neg_mul_neg]; omega)⟩, ⟨le_of_sq m0 (by omega), le_of_sq m0 (by rw [Int.neg_mul_neg]; omega)⟩, le_of_sq m0 (by omega), le_of_sq m0 (by rw [Int.neg_mul_neg]; omega)⟩
theorem lagrange (u v s t : Int) : (u * t - v * s) * (u * t - v * s) + (u * s + v * t) * (u * s + v * t) = (u * u + v * v) * (s * s + t * t) := by
  simp only [Int.mul_add, Int.add_mul, Int.sub_mul, Int.mul_sub, Int.mul_assoc, Int.mul_comm, Int.mul_left_comm]
  omega
/-- The greater one, as the builtin reckons it. -/
def mx2 (a b : Int) : Int := if b > a then b else a
theorem mx2_le {a b m : Int} (ha : a ≤ m) (hb : b ≤ m) : mx2 a b ≤ m := by unfold mx2; split <;> omega
theorem run_max6 (P : Program) (ts : Array TypeId) (t : TypeId) {a b c d e f m : Int} (ha : a ≤ m) (hb : b ≤ m) (hc : c ≤ m) (hd : d ≤ m) (he : e ≤ m) (hf : f ≤ m) :
    ∃ M : Int, M ≤ m ∧ ∀ w, (Builtin.max_ ts t #[.int .i64 a, .int .i64 b, .int .i64 c, .int .i64 d, .int .i64 e, .int .i64 f]).run P w = .ok (.int .i64 M) w :=
  ⟨mx2 (mx2 (mx2 (mx2 (mx2 a b) c) d) e) f, mx2_le (mx2_le (mx2_le (mx2_le (mx2_le ha hb) hc) hd) he) hf, fun w => by simp [Builtin.max_, Builtin.max2, mx2]⟩
end Go.Proofs.YtnjcbgnghfppoaaDoor
