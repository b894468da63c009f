/- WideNegates: the quotient of the negated numerator, rounded down, is the negated one rounded up.
   Conditions: none; every input. -/
import Derived.Test.YtihdmhdhdlbifaaFrame
import Derived.Test.YtihdmhdhdlbifaaPlain
set_option linter.unusedVariables false
set_option linter.unusedSimpArgs false
namespace Go.Proofs.Ytihdmhdhdlbifaa
open Go.ChangeShapes Go.WideShapes Go.ChangeAt Go.RowKit

theorem walk_wideNegates (a b c : Int) (a1 : -9223372036854775808 ≤ a) (a2 : a ≤ 9223372036854775807) (b1 : -9223372036854775808 ≤ b) (b2 : b ≤ 9223372036854775807) (c1 : -9223372036854775808 ≤ c) (c2 : c ≤ 9223372036854775807) (w : World) :
    Calls Try.prog 12 #[.int .i64 a, .int .i64 b, .int .i64 c] w fun e w' => e = .returned (.bool true) ∧ Below w.heap.size w w' := by
  have q0 := Qw.refl w
  by_cases ha : a = -9223372036854775808
  · have ka : (a == -9223372036854775808) = true := beq_iff_eq.2 ha
    clear ha
    go_enter Try.func12, Try.ntmps12
    go_wp2_with (first | (go_at_call 17; ((with_reducible refine (awakeW _).mono ?_); rintro e w' ⟨rfl, h⟩; replace q0 := Qw.trans q0 h; clear h)))
    go_ret
    exact ⟨rfl, q0⟩
  have ka : (a == -9223372036854775808) = false := beq_eq_false_iff_ne.2 ha
  have np := neg_plain a b c
  have rg := @md_range (-a) b c 0
  have c1 : ∀ w, Calls Try.prog 20 #[.int .i64 (-a), .int .i64 b, .int .i64 c, .int .i64 0] w fun e w' => e = .returned (.tuple #[.int .i64 (mdv (-a) b c 0), .bool (mdok (-a) b c 0)]) ∧ Qw w w' := fun w => muldivW (-a) b c 0 (by omega) (by omega) (by omega) (by omega) (by omega) (by omega) w
  have c2 : ∀ w, Calls Try.prog 20 #[.int .i64 a, .int .i64 b, .int .i64 c, .int .i64 1] w fun e w' => e = .returned (.tuple #[.int .i64 (mdv a b c 1), .bool (mdok a b c 1)]) ∧ Qw w w' := fun w => muldivW a b c 1 (by omega) (by omega) (by omega) (by omega) (by omega) (by omega) w
  generalize mdv (-a) b c 0 = x at *
  generalize mdv a b c 1 = y at *
  generalize mdok (-a) b c 0 = o at *
  generalize mdok a b c 1 = i at *
  have C1 := Lib.hid c1; have C2 := Lib.hid c2
  clear c1 c2
  cases o
  · clear np rg
    go_enter Try.func12, Try.ntmps12
    go_wp2_with (first | (go_at_call 20; ((with_reducible refine (C1.out _).mono ?_); rintro e w' ⟨rfl, h⟩; replace q0 := Qw.trans q0 h; clear h)) | (go_at_call 20; ((with_reducible refine (C2.out _).mono ?_); rintro e w' ⟨rfl, h⟩; replace q0 := Qw.trans q0 h; clear h)) | (go_at_call 17; ((with_reducible refine (awakeW _).mono ?_); rintro e w' ⟨rfl, h⟩; replace q0 := Qw.trans q0 h; clear h)))
    go_ret
    exact ⟨rfl, q0⟩
  cases i
  · clear np rg
    go_enter Try.func12, Try.ntmps12
    go_wp2_with (first | (go_at_call 20; ((with_reducible refine (C1.out _).mono ?_); rintro e w' ⟨rfl, h⟩; replace q0 := Qw.trans q0 h; clear h)) | (go_at_call 20; ((with_reducible refine (C2.out _).mono ?_); rintro e w' ⟨rfl, h⟩; replace q0 := Qw.trans q0 h; clear h)) | (go_at_call 17; ((with_reducible refine (awakeW _).mono ?_); rintro e w' ⟨rfl, h⟩; replace q0 := Qw.trans q0 h; clear h)))
    go_ret
    exact ⟨rfl, q0⟩
  have hy := np rfl rfl
  have hx := rg rfl
  subst hy
  clear np rg
  by_cases hm : x = -9223372036854775808
  · have km : (x == -9223372036854775808) = true := beq_iff_eq.2 hm
    clear hm
    go_enter Try.func12, Try.ntmps12
    go_wp2_with (first | (go_at_call 20; ((with_reducible refine (C1.out _).mono ?_); rintro e w' ⟨rfl, h⟩; replace q0 := Qw.trans q0 h; clear h)) | (go_at_call 20; ((with_reducible refine (C2.out _).mono ?_); rintro e w' ⟨rfl, h⟩; replace q0 := Qw.trans q0 h; clear h)) | (go_at_call 17; ((with_reducible refine (awakeW _).mono ?_); rintro e w' ⟨rfl, h⟩; replace q0 := Qw.trans q0 h; clear h)))
    go_ret
    exact ⟨rfl, q0⟩
  have km : (x == -9223372036854775808) = false := beq_eq_false_iff_ne.2 hm
  go_enter Try.func12, Try.ntmps12
  go_wp2_with (first | (go_at_call 20; ((with_reducible refine (C1.out _).mono ?_); rintro e w' ⟨rfl, h⟩; replace q0 := Qw.trans q0 h; clear h)) | (go_at_call 20; ((with_reducible refine (C2.out _).mono ?_); rintro e w' ⟨rfl, h⟩; replace q0 := Qw.trans q0 h; clear h)) | (go_at_call 17; ((with_reducible refine (awakeW _).mono ?_); rintro e w' ⟨rfl, h⟩; replace q0 := Qw.trans q0 h; clear h)))
  go_ret
  exact ⟨rfl, q0⟩

/-! ### the row -/
theorem own_wideNegates : ownKnob Try.prog.godebug = none := by kernel_rfl
set_option maxRecDepth 100000 in
theorem lifted_wideNegates (os : Os) (started : os.Started) (H : Type) (enc : TypeId × Value → H) :
    ReturnsInHanded {} Try.checked os 12 .any (Rows.wideNegatesSpec.pre6 enc Try.prog Try.f12 Rows.wideNegatesRow.domain false) (Rows.wideNegatesSpec.post enc Try.prog Try.f12 false true false false) := by
  refine returnsInHanded_of_change (C := Try.checked) own_wideNegates started (by kernel_rfl) Try.func12
    (ChangeSpec.witness6 (enc := enc) (C := Try.checked) false ⟨#[], #[.int .i64 0, .int .i64 0, .int .i64 0], []⟩ 8 (by kernel_rfl) (by kernel_rfl) (by kernel_rfl) (by kernel_rfl)) ?_
  intro W base args ds gs before hval0 hW hcnd _
  have hval : ∀ (j : Nat) t v, Try.f12.params[j]? = some t → args[j]? = some v → Value.okWide Try.prog W .any base t v := hval0
  have hW' := hW
  obtain ⟨p, q, hA0, hV, rfl, hfz, hnd⟩ := hW
  have hA : DataW.TrodAll enc Try.prog W 0 (fun _ => true) true Try.f12.params.toList args.toList ds p := hA0
  rw [Try.params12] at hA hval
  obtain ⟨v0, vs0, d0, ds0, p0, q0, hargs, rfl, rfl, h0, r0⟩ := trodAll_cons hA
  obtain ⟨v1, vs1, d1, ds1, p1, q1, rfl, rfl, rfl, h1, r1⟩ := trodAll_cons r0
  obtain ⟨v2, vs2, d2, ds2, p2, q2, rfl, rfl, rfl, h2, r2⟩ := trodAll_cons r1
  obtain ⟨rfl, rfl, rfl⟩ := trodAll_nil r2
  obtain rfl : args = #[v0, v1, v2] := by cases args; simp_all
  obtain ⟨rfl, rfl⟩ := trodVars_none hV
  obtain ⟨a0, rfl, rfl, rfl, w0⟩ := open_int Try.underlying3 (hval 0 3 v0 rfl rfl) h0
  obtain ⟨a1, rfl, rfl, rfl, w1⟩ := open_int Try.underlying3 (hval 1 3 v1 rfl rfl) h1
  obtain ⟨a2, rfl, rfl, rfl, w2⟩ := open_int Try.underlying3 (hval 2 3 v2 rfl rfl) h2
  obtain ⟨x0, y0⟩ := i64_of_wf w0
  obtain ⟨x1, y1⟩ := i64_of_wf w1
  obtain ⟨x2, y2⟩ := i64_of_wf w2
  clear hA0 hval0
  simp only [List.append_nil] at hW'
  refine (walk_wideNegates a0 a1 a2 x0 y0 x1 y1 x2 y2 W).mono fun e W' ⟨he, bel⟩ => ?_
  subst he
  exact ⟨_, rfl, _, _, _, [], _, [], hW', trodAll_mk1 (shut_bool Try.underlying4 _), (trodAll_cons_mk (shut_int Try.underlying3 w0) (trodAll_cons_mk (shut_int Try.underlying3 w1) (trodAll_cons_mk (shut_int Try.underlying3 w2) trodAll_mk0))), rfl, Below.frame bel _, fun h => by cases h⟩

/-- The statement. -/
theorem wideNegates_holds : Rows.WideNegatesSaid :=
  OpenClaim.holds_of_wide 12 Try.f12 rfl rfl rfl rfl rfl rfl rfl ⟨rfl, rfl, rfl, rfl, rfl⟩ rfl rfl rfl rfl rfl (by kernel_rfl) Try.func12 (by kernel_rfl)
    (of_decide_eq_true (by kernel_rfl)) (by unfold Func.isWrapper; first | (rw [if_pos (by decide +kernel)]; kernel_rfl) | (rw [if_neg (by decide +kernel)]; exact ⟨rfl, rfl⟩))
    (fun os started H enc _ => lifted_wideNegates os started H enc)

end Go.Proofs.Ytihdmhdhdlbifaa
