/- WideModes: the result rounded up is the one rounded down, or greater by 1, and the nearest one is one of them.
   Conditions: none; every input. -/
import Derived.Test.YtihdmhdhdlbifaaFrame
import Derived.Test.YtihdmhdhdlbifaaPlain
set_option linter.unusedVariables false
set_option linter.unusedSimpArgs false
namespace Go.Proofs.Ytihdmhdhdlbifaa
open Go.ChangeShapes Go.WideShapes Go.ChangeAt Go.RowKit

theorem walk_wideModes (a b c : Int) (a1 : -9223372036854775808 ≤ a) (a2 : a ≤ 9223372036854775807) (b1 : -9223372036854775808 ≤ b) (b2 : b ≤ 9223372036854775807) (c1 : -9223372036854775808 ≤ c) (c2 : c ≤ 9223372036854775807) (w : World) :
    Calls Try.prog 10 #[.int .i64 a, .int .i64 b, .int .i64 c] w fun e w' => e = .returned (.bool true) ∧ Below w.heap.size w w' := by
  have q0 := Qw.refl w
  have mp := modes_plain a b c
  have r0 := @md_range a b c 0
  have r1 := @md_range a b c 1
  have c0 : ∀ w, Calls Try.prog 20 #[.int .i64 a, .int .i64 b, .int .i64 c, .int .i64 0] w fun e w' => e = .returned (.tuple #[.int .i64 (mdv a b c 0), .bool (mdok a b c 0)]) ∧ Qw w w' := fun w => muldivW a b c 0 (by omega) (by omega) (by omega) (by omega) (by omega) (by omega) w
  have c1' : ∀ w, Calls Try.prog 20 #[.int .i64 a, .int .i64 b, .int .i64 c, .int .i64 1] w fun e w' => e = .returned (.tuple #[.int .i64 (mdv a b c 1), .bool (mdok a b c 1)]) ∧ Qw w w' := fun w => muldivW a b c 1 (by omega) (by omega) (by omega) (by omega) (by omega) (by omega) w
  have c2' : ∀ w, Calls Try.prog 20 #[.int .i64 a, .int .i64 b, .int .i64 c, .int .i64 2] w fun e w' => e = .returned (.tuple #[.int .i64 (mdv a b c 2), .bool (mdok a b c 2)]) ∧ Qw w w' := fun w => muldivW a b c 2 (by omega) (by omega) (by omega) (by omega) (by omega) (by omega) w
  generalize mdv a b c 0 = x at *
  generalize mdv a b c 1 = y at *
  generalize mdv a b c 2 = z at *
  generalize mdok a b c 0 = o at *
  generalize mdok a b c 1 = i at *
  generalize mdok a b c 2 = u at *
  have C0 := Lib.hid c0; have C1 := Lib.hid c1'; have C2 := Lib.hid c2'
  clear c0 c1' c2'
  cases o
  · clear mp r0 r1
    go_enter Try.func10, Try.ntmps10
    go_wp2_with (first | (go_at_call 20; ((with_reducible refine (C0.out _).mono ?_); rintro e w' ⟨rfl, h⟩; replace q0 := Qw.trans q0 h; clear h)) | (go_at_call 20; ((with_reducible refine (C1.out _).mono ?_); rintro e w' ⟨rfl, h⟩; replace q0 := Qw.trans q0 h; clear h)) | (go_at_call 20; ((with_reducible refine (C2.out _).mono ?_); rintro e w' ⟨rfl, h⟩; replace q0 := Qw.trans q0 h; clear h)) | (go_at_call 17; ((with_reducible refine (awakeW _).mono ?_); rintro e w' ⟨rfl, h⟩; replace q0 := Qw.trans q0 h; clear h)))
    go_ret
    exact ⟨rfl, q0⟩
  cases i
  · clear mp r0 r1
    go_enter Try.func10, Try.ntmps10
    go_wp2_with (first | (go_at_call 20; ((with_reducible refine (C0.out _).mono ?_); rintro e w' ⟨rfl, h⟩; replace q0 := Qw.trans q0 h; clear h)) | (go_at_call 20; ((with_reducible refine (C1.out _).mono ?_); rintro e w' ⟨rfl, h⟩; replace q0 := Qw.trans q0 h; clear h)) | (go_at_call 20; ((with_reducible refine (C2.out _).mono ?_); rintro e w' ⟨rfl, h⟩; replace q0 := Qw.trans q0 h; clear h)) | (go_at_call 17; ((with_reducible refine (awakeW _).mono ?_); rintro e w' ⟨rfl, h⟩; replace q0 := Qw.trans q0 h; clear h)))
    go_ret
    exact ⟨rfl, q0⟩
  cases u
  · clear mp r0 r1
    go_enter Try.func10, Try.ntmps10
    go_wp2_with (first | (go_at_call 20; ((with_reducible refine (C0.out _).mono ?_); rintro e w' ⟨rfl, h⟩; replace q0 := Qw.trans q0 h; clear h)) | (go_at_call 20; ((with_reducible refine (C1.out _).mono ?_); rintro e w' ⟨rfl, h⟩; replace q0 := Qw.trans q0 h; clear h)) | (go_at_call 20; ((with_reducible refine (C2.out _).mono ?_); rintro e w' ⟨rfl, h⟩; replace q0 := Qw.trans q0 h; clear h)) | (go_at_call 17; ((with_reducible refine (awakeW _).mono ?_); rintro e w' ⟨rfl, h⟩; replace q0 := Qw.trans q0 h; clear h)))
    go_ret
    exact ⟨rfl, q0⟩
  obtain ⟨x1, x2⟩ := r0 rfl
  obtain ⟨y1, y2⟩ := r1 rfl
  have c3 : ∀ w, Calls Try.prog 18 #[.int .i64 x, .int .i64 c, .int .i64 a, .int .i64 b] w fun e w' => e = .returned (.int .i64 (cmpI (x * c) (a * b))) ∧ Qw w w' := fun w => cmpW x c a b (by omega) (by omega) (by omega) (by omega) (by omega) (by omega) (by omega) (by omega) w
  have hh := mp rfl rfl rfl
  clear mp r0 r1
  generalize cmpI (x * c) (a * b) = k at *
  have C3 := Lib.hid c3
  clear c3
  rcases hh with ⟨rfl, rfl, rfl⟩ | ⟨rfl, hz, hk⟩
  · go_enter Try.func10, Try.ntmps10
    go_wp2_with (first | (go_at_call 20; ((with_reducible refine (C0.out _).mono ?_); rintro e w' ⟨rfl, h⟩; replace q0 := Qw.trans q0 h; clear h)) | (go_at_call 20; ((with_reducible refine (C1.out _).mono ?_); rintro e w' ⟨rfl, h⟩; replace q0 := Qw.trans q0 h; clear h)) | (go_at_call 20; ((with_reducible refine (C2.out _).mono ?_); rintro e w' ⟨rfl, h⟩; replace q0 := Qw.trans q0 h; clear h)) | (go_at_call 17; ((with_reducible refine (awakeW _).mono ?_); rintro e w' ⟨rfl, h⟩; replace q0 := Qw.trans q0 h; clear h)) | (go_at_call 18; ((with_reducible refine (C3.out _).mono ?_); rintro e w' ⟨rfl, h⟩; replace q0 := Qw.trans q0 h; clear h)))
    go_ret
    exact ⟨rfl, q0⟩
  · have bk : (k == 0) = false := beq_eq_false_iff_ne.2 hk
    have b1 : (x + 1 == x) = false := beq_eq_false_iff_ne.2 (by omega)
    have b2 : (x == x + 1) = false := beq_eq_false_iff_ne.2 (by omega)
    clear hk
    rcases hz with rfl | rfl
    · go_enter Try.func10, Try.ntmps10
      go_wp2_with (first | (go_at_call 20; ((with_reducible refine (C0.out _).mono ?_); rintro e w' ⟨rfl, h⟩; replace q0 := Qw.trans q0 h; clear h)) | (go_at_call 20; ((with_reducible refine (C1.out _).mono ?_); rintro e w' ⟨rfl, h⟩; replace q0 := Qw.trans q0 h; clear h)) | (go_at_call 20; ((with_reducible refine (C2.out _).mono ?_); rintro e w' ⟨rfl, h⟩; replace q0 := Qw.trans q0 h; clear h)) | (go_at_call 17; ((with_reducible refine (awakeW _).mono ?_); rintro e w' ⟨rfl, h⟩; replace q0 := Qw.trans q0 h; clear h)) | (go_at_call 18; ((with_reducible refine (C3.out _).mono ?_); rintro e w' ⟨rfl, h⟩; replace q0 := Qw.trans q0 h; clear h)))
      go_ret
      exact ⟨rfl, q0⟩
    · go_enter Try.func10, Try.ntmps10
      go_wp2_with (first | (go_at_call 20; ((with_reducible refine (C0.out _).mono ?_); rintro e w' ⟨rfl, h⟩; replace q0 := Qw.trans q0 h; clear h)) | (go_at_call 20; ((with_reducible refine (C1.out _).mono ?_); rintro e w' ⟨rfl, h⟩; replace q0 := Qw.trans q0 h; clear h)) | (go_at_call 20; ((with_reducible refine (C2.out _).mono ?_); rintro e w' ⟨rfl, h⟩; replace q0 := Qw.trans q0 h; clear h)) | (go_at_call 17; ((with_reducible refine (awakeW _).mono ?_); rintro e w' ⟨rfl, h⟩; replace q0 := Qw.trans q0 h; clear h)) | (go_at_call 18; ((with_reducible refine (C3.out _).mono ?_); rintro e w' ⟨rfl, h⟩; replace q0 := Qw.trans q0 h; clear h)))
      go_ret
      exact ⟨rfl, q0⟩

/-! ### the row -/
theorem own_wideModes : ownKnob Try.prog.godebug = none := by kernel_rfl
set_option maxRecDepth 100000 in
theorem lifted_wideModes (os : Os) (started : os.Started) (H : Type) (enc : TypeId × Value → H) :
    ReturnsInHanded {} Try.checked os 10 .any (Rows.wideModesSpec.pre6 enc Try.prog Try.f10 Rows.wideModesRow.domain false) (Rows.wideModesSpec.post enc Try.prog Try.f10 false true false false) := by
  refine returnsInHanded_of_change (C := Try.checked) own_wideModes started (by kernel_rfl) Try.func10
    (ChangeSpec.witness6 (enc := enc) (C := Try.checked) false ⟨#[], #[.int .i64 0, .int .i64 0, .int .i64 0], []⟩ 8 (by kernel_rfl) (by kernel_rfl) (by kernel_rfl) (by kernel_rfl)) ?_
  intro W base args ds gs before hval0 hW hcnd _
  have hval : ∀ (j : Nat) t v, Try.f10.params[j]? = some t → args[j]? = some v → Value.okWide Try.prog W .any base t v := hval0
  have hW' := hW
  obtain ⟨p, q, hA0, hV, rfl, hfz, hnd⟩ := hW
  have hA : DataW.TrodAll enc Try.prog W 0 (fun _ => true) true Try.f10.params.toList args.toList ds p := hA0
  rw [Try.params10] at hA hval
  obtain ⟨v0, vs0, d0, ds0, p0, q0, hargs, rfl, rfl, h0, r0⟩ := trodAll_cons hA
  obtain ⟨v1, vs1, d1, ds1, p1, q1, rfl, rfl, rfl, h1, r1⟩ := trodAll_cons r0
  obtain ⟨v2, vs2, d2, ds2, p2, q2, rfl, rfl, rfl, h2, r2⟩ := trodAll_cons r1
  obtain ⟨rfl, rfl, rfl⟩ := trodAll_nil r2
  obtain rfl : args = #[v0, v1, v2] := by cases args; simp_all
  obtain ⟨rfl, rfl⟩ := trodVars_none hV
  obtain ⟨a0, rfl, rfl, rfl, w0⟩ := open_int Try.underlying3 (hval 0 3 v0 rfl rfl) h0
  obtain ⟨a1, rfl, rfl, rfl, w1⟩ := open_int Try.underlying3 (hval 1 3 v1 rfl rfl) h1
  obtain ⟨a2, rfl, rfl, rfl, w2⟩ := open_int Try.underlying3 (hval 2 3 v2 rfl rfl) h2
  obtain ⟨x0, y0⟩ := i64_of_wf w0
  obtain ⟨x1, y1⟩ := i64_of_wf w1
  obtain ⟨x2, y2⟩ := i64_of_wf w2
  clear hA0 hval0
  simp only [List.append_nil] at hW'
  refine (walk_wideModes a0 a1 a2 x0 y0 x1 y1 x2 y2 W).mono fun e W' ⟨he, bel⟩ => ?_
  subst he
  exact ⟨_, rfl, _, _, _, [], _, [], hW', trodAll_mk1 (shut_bool Try.underlying4 _), (trodAll_cons_mk (shut_int Try.underlying3 w0) (trodAll_cons_mk (shut_int Try.underlying3 w1) (trodAll_cons_mk (shut_int Try.underlying3 w2) trodAll_mk0))), rfl, Below.frame bel _, fun h => by cases h⟩

/-- The statement. -/
theorem wideModes_holds : Rows.WideModesSaid :=
  OpenClaim.holds_of_wide 10 Try.f10 rfl rfl rfl rfl rfl rfl rfl ⟨rfl, rfl, rfl, rfl, rfl⟩ rfl rfl rfl rfl rfl (by kernel_rfl) Try.func10 (by kernel_rfl)
    (of_decide_eq_true (by kernel_rfl)) (by unfold Func.isWrapper; first | (rw [if_pos (by decide +kernel)]; kernel_rfl) | (rw [if_neg (by decide +kernel)]; exact ⟨rfl, rfl⟩))
    (fun os started H enc _ => lifted_wideModes os started H enc)

end Go.Proofs.Ytihdmhdhdlbifaa
