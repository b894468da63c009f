
/- The sanity check of the laws of layer 2, and the numbers that they are made of. -/
import Derived.Test.YthfgpmdgklphkaaDoorFxH
import Derived.Test.YthfgpmdgklphkaaDoorFxE
set_option linter.unusedVariables false
set_option linter.unusedSimpArgs false
namespace Go.Proofs.YthfgpmdgklphkaaDoor
open Go.RowKit

theorem awakeF (w : World) (ht : Tb w) : Calls Tryd.prog 18 #[] w fun e w' => e = .returned (.bool true) ∧ Qw w w' := by
  have x1 : prv [49, 46, 50, 53] = 1250000 := by decide +kernel
  have x2 : pre [49, 46, 50, 53] = 0 := by decide +kernel
  have x3 : lenv 1000000 20 = 25400 := by decide +kernel
  have x4 : lene 1000000 20 = 0 := by decide +kernel
  have x5 : modv (-1000000) 3000000 = 2000000 := by decide +kernel
  have x6 : dve (-1000000) 3000000 = 0 := by decide +kernel
  have x7 : fmtl (-500000) = [45, 48, 46, 53] := by
    unfold fmtl fmtp
    rw [if_pos (by decide), if_pos (by decide), show (-(-500000) / 1000000 : Int).toNat = 0 by decide, dec_small (by decide)]
    decide +kernel
  have c1 : ∀ w, Calls Tryd.prog 21 #[.string { data := #[49, 46, 50, 53] }] w fun e w' => e = .returned (.tuple #[.int .i64 1250000, .int .i64 0]) ∧ w = w' := fun w => by
    have := fxParse { data := #[49, 46, 50, 53] } (by decide) w
    rw [show ({ data := #[49, 46, 50, 53] } : ByteArray).data.toList = [49, 46, 50, 53] from rfl, x1, x2] at this
    exact this
  have c2 : ∀ w, Calls Tryd.prog 42 #[.int .i64 1000000, .int .i64 20] w fun e w' => e = .returned (.tuple #[.int .i64 25400, .int .i64 0]) ∧ Qw w w' := fun w => by
    have := fxLength 1000000 20 w
    rw [x3, x4] at this; exact this
  have c3 : ∀ w, Calls Tryd.prog 51 #[.int .i64 (-1000000), .int .i64 3000000] w fun e w' => e = .returned (.tuple #[.int .i64 2000000, .int .i64 0]) ∧ w = w' := fun w => by
    have := fxMod (-1000000) 3000000 w
    rw [x5, x6] at this; exact this
  have c4 : ∀ w, Tb w → Calls Tryd.prog 26 #[.int .i64 (-500000)] w fun e w' => e = .returned (.string { data := #[45, 48, 46, 53] }) ∧ Qw w w' := fun w ht => by
    have := fxFormat (-500000) w ht
    rw [x7] at this; exact this
  have C1 := Lib.hid c1; have C2 := Lib.hid c2; have C3 := Lib.hid c3; have C4 := Lib.hid c4
  have HT := Lib.hid ht
  clear x1 x2 x3 x4 x5 x6 x7 c1 c2 c3 c4 ht
  have q0 := Qw.refl w
  go_enter Tryd.func18, Tryd.ntmps18
  go_wp2_with (first | (go_at_call 21; refine (C1.out _).mono ?_; rintro e w' ⟨rfl, rfl⟩) | (go_at_call 42; refine (C2.out _).mono ?_; rintro e w' ⟨rfl, h⟩; replace q0 := Qw.trans q0 h; clear h) | (go_at_call 51; refine (C3.out _).mono ?_; rintro e w' ⟨rfl, rfl⟩) | (go_at_call 26; refine (C4.out _ (HT.out.kept q0)).mono ?_; rintro e w' ⟨rfl, h⟩; replace q0 := Qw.trans q0 h; clear h))
  go_ret
  exact ⟨rfl, q0⟩

/-- A valid number that depends on v. -/
def nb (v : Int) : Int := -1000000000000000 + v % 2000000000000001
theorem nb_bd (v : Int) : -1000000000000000 ≤ nb v ∧ nb v ≤ 1000000000000000 := by unfold nb; omega
theorem nb_vld (v : Int) : vld (nb v) = true := vld_t (nb_bd v).1 (nb_bd v).2

theorem numF (v : Int) (v1 : -9223372036854775808 ≤ v) (v2 : v ≤ 9223372036854775807) (w : World) :
    Calls Tryd.prog 23 #[.int .i64 v] w fun e w' => e = .returned (.int .i64 (nb v)) ∧ w = w' := by
  have c : ∀ w, Calls Tryd.prog 30 #[.int .i64 v, .int .i64 (-1000000000000000), .int .i64 1000000000000000] w fun e w' => e = .returned (.int .i64 (nb v)) ∧ w = w' := fun w => betweenW v (-1000000000000000) 1000000000000000 v1 v2 (by omega) (by omega) (by omega) (by omega) w
  have C := Lib.hid c
  clear c
  go_enter Tryd.func23, Tryd.ntmps23
  go_wp2_with (go_at_call 30; refine (C.out _).mono ?_; rintro e w' ⟨rfl, rfl⟩)
  go_ret
  exact ⟨rfl, rfl⟩

theorem sameF (a e : Int) (w : World) : Calls Tryd.prog 41 #[.int .i64 a, .int .i64 e, .int .i64 a, .int .i64 e] w fun r w' => r = .returned (.bool true) ∧ w = w' := by
  go_enter Tryd.func41, Tryd.ntmps41
  go_wp2
  all_goals
    go_ret
    exact ⟨ret_bl (by simp), rfl⟩

end Go.Proofs.YthfgpmdgklphkaaDoor
