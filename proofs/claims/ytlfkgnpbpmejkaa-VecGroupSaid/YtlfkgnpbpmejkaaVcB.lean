
/- The walks of vec's Flat and Solid. -/
import Derived.Test.YtlfkgnpbpmejkaaVcA
set_option linter.unusedVariables false
set_option linter.unusedSimpArgs false
namespace Go.Proofs.Ytlfkgnpbpmejkaa
open Go.RowKit

theorem vc_flat (p x y z : Int) (p1 : -9223372036854775808 ≤ p) (p2 : p ≤ 9223372036854775807) (w : World) :
    Calls Try.prog 30 #[.int .i64 p, .agg #[.int .i64 x, .int .i64 y, .int .i64 z]] w fun e w' => e = .returned (.tuple #[.agg #[.int .i64 (fu p x y z), .int .i64 (fw p x y z)], .int .i64 (fh p x y z), .bool (pin p)]) ∧ Qw w w' := by
  have main : ∀ u v h b, fu p x y z = u → fw p x y z = v → fh p x y z = h → pin p = b → Calls Try.prog 30 #[.int .i64 p, .agg #[.int .i64 x, .int .i64 y, .int .i64 z]] w fun e w' => e = .returned (.tuple #[.agg #[.int .i64 u, .int .i64 v], .int .i64 h, .bool b]) ∧ Qw w w' := by
    intro u v h b e1 e2 e3 e4
    unfold fu at e1; unfold fw at e2; unfold fh at e3; unfold pin at e4
    by_cases n1 : p = 17
    · subst n1
      obtain rfl : x = u := by simpa using e1
      obtain rfl : y = v := by simpa using e2
      obtain rfl : z = h := by simpa using e3
      obtain rfl : true = b := by simpa using e4
      clear e1 e2 e3 e4
      go_enter Try.func30, Try.ntmps30
      go_wp2
      go_region
      all_goals (go_wp2; exact bodyPost_ret (v := .tuple #[.agg #[.int .i64 x, .int .i64 y], .int .i64 z, .bool true]) (by simp [results, Try.results30, go_sem]) rfl ⟨rfl, Below.drew (((Below.refl _ _).alloc (Nat.le_refl _) _).alloc (by simp) _)⟩)
    by_cases n2 : p = 18
    · subst n2
      obtain rfl : z = u := by simpa using e1
      obtain rfl : x = v := by simpa using e2
      obtain rfl : y = h := by simpa using e3
      obtain rfl : true = b := by simpa using e4
      clear e1 e2 e3 e4
      go_enter Try.func30, Try.ntmps30
      go_wp2
      go_region
      all_goals (go_wp2; exact bodyPost_ret (v := .tuple #[.agg #[.int .i64 z, .int .i64 x], .int .i64 y, .bool true]) (by simp [results, Try.results30, go_sem]) rfl ⟨rfl, Below.drew (((Below.refl _ _).alloc (Nat.le_refl _) _).alloc (by simp) _)⟩)
    by_cases n3 : p = 19
    · subst n3
      obtain rfl : y = u := by simpa using e1
      obtain rfl : z = v := by simpa using e2
      obtain rfl : x = h := by simpa using e3
      obtain rfl : true = b := by simpa using e4
      clear e1 e2 e3 e4
      go_enter Try.func30, Try.ntmps30
      go_wp2
      go_region
      all_goals (go_wp2; exact bodyPost_ret (v := .tuple #[.agg #[.int .i64 y, .int .i64 z], .int .i64 x, .bool true]) (by simp [results, Try.results30, go_sem]) rfl ⟨rfl, Below.drew (((Below.refl _ _).alloc (Nat.le_refl _) _).alloc (by simp) _)⟩)
    · obtain rfl : 0 = u := by simpa [n1, n2, n3] using e1
      obtain rfl : 0 = v := by simpa [n1, n2, n3] using e2
      obtain rfl : 0 = h := by simpa [n1, n2, n3] using e3
      obtain rfl : false = b := by simpa [n1, n2, n3] using e4
      clear e1 e2 e3 e4
      go_enter Try.func30, Try.ntmps30
      go_wp2
      exact bodyPost_ret (v := .tuple #[.agg #[.int .i64 0, .int .i64 0], .int .i64 0, .bool false]) (by simp [results, Try.results30, go_sem]) rfl ⟨rfl, ((Below.refl _ _).alloc (Nat.le_refl _) _).alloc (by simp) _⟩
  exact main _ _ _ _ rfl rfl rfl rfl

theorem vc_solid (p u v h : Int) (p1 : -9223372036854775808 ≤ p) (p2 : p ≤ 9223372036854775807) (w : World) :
    Calls Try.prog 32 #[.int .i64 p, .agg #[.int .i64 u, .int .i64 v], .int .i64 h] w fun e w' => e = .returned (.tuple #[.agg #[.int .i64 (sx p u v h), .int .i64 (sy p u v h), .int .i64 (sz p u v h)], .bool (pin p)]) ∧ Qw w w' := by
  have main : ∀ x y z b, sx p u v h = x → sy p u v h = y → sz p u v h = z → pin p = b → Calls Try.prog 32 #[.int .i64 p, .agg #[.int .i64 u, .int .i64 v], .int .i64 h] w fun e w' => e = .returned (.tuple #[.agg #[.int .i64 x, .int .i64 y, .int .i64 z], .bool b]) ∧ Qw w w' := by
    intro x y z b e1 e2 e3 e4
    unfold sx at e1; unfold sy at e2; unfold sz at e3; unfold pin at e4
    by_cases n1 : p = 17
    · subst n1
      obtain rfl : u = x := by simpa using e1
      obtain rfl : v = y := by simpa using e2
      obtain rfl : h = z := by simpa using e3
      obtain rfl : true = b := by simpa using e4
      clear e1 e2 e3 e4
      go_enter Try.func32, Try.ntmps32
      go_wp2
      exact bodyPost_ret (v := .tuple #[.agg #[.int .i64 u, .int .i64 v, .int .i64 h], .bool true]) (by simp [results, Try.results32, go_sem]) rfl ⟨rfl, ((Below.refl _ _).alloc (Nat.le_refl _) _).alloc (by simp) _⟩
    by_cases n2 : p = 18
    · subst n2
      obtain rfl : v = x := by simpa using e1
      obtain rfl : h = y := by simpa using e2
      obtain rfl : u = z := by simpa using e3
      obtain rfl : true = b := by simpa using e4
      clear e1 e2 e3 e4
      go_enter Try.func32, Try.ntmps32
      go_wp2
      exact bodyPost_ret (v := .tuple #[.agg #[.int .i64 v, .int .i64 h, .int .i64 u], .bool true]) (by simp [results, Try.results32, go_sem]) rfl ⟨rfl, ((Below.refl _ _).alloc (Nat.le_refl _) _).alloc (by simp) _⟩
    by_cases n3 : p = 19
    · subst n3
      obtain rfl : h = x := by simpa using e1
      obtain rfl : u = y := by simpa using e2
      obtain rfl : v = z := by simpa using e3
      obtain rfl : true = b := by simpa using e4
      clear e1 e2 e3 e4
      go_enter Try.func32, Try.ntmps32
      go_wp2
      exact bodyPost_ret (v := .tuple #[.agg #[.int .i64 h, .int .i64 u, .int .i64 v], .bool true]) (by simp [results, Try.results32, go_sem]) rfl ⟨rfl, ((Below.refl _ _).alloc (Nat.le_refl _) _).alloc (by simp) _⟩
    · obtain rfl : 0 = x := by simpa [n1, n2, n3] using e1
      obtain rfl : 0 = y := by simpa [n1, n2, n3] using e2
      obtain rfl : 0 = z := by simpa [n1, n2, n3] using e3
      obtain rfl : false = b := by simpa [n1, n2, n3] using e4
      clear e1 e2 e3 e4
      go_enter Try.func32, Try.ntmps32
      go_wp2
      exact bodyPost_ret (v := .tuple #[.agg #[.int .i64 0, .int .i64 0, .int .i64 0], .bool false]) (by simp [results, Try.results32, go_sem]) rfl ⟨rfl, ((Below.refl _ _).alloc (Nat.le_refl _) _).alloc (by simp) _⟩
  exact main _ _ _ _ rfl rfl rfl rfl

end Go.Proofs.Ytlfkgnpbpmejkaa
