/- WideRefuses: modes that do not exist and arguments out of range are refused with zero results.
   Conditions: none; every input. -/
import Derived.Test.YtihdmhdhdlbifaaFrame
import Derived.Test.YtihdmhdhdlbifaaPlain
set_option linter.unusedVariables false
set_option linter.unusedSimpArgs false
namespace Go.Proofs.Ytihdmhdhdlbifaa
open Go.ChangeShapes Go.WideShapes Go.ChangeAt Go.RowKit

theorem walk_wideRefuses (a b n m : Int) (a1 : -9223372036854775808 ≤ a) (a2 : a ≤ 9223372036854775807) (b1 : -9223372036854775808 ≤ b) (b2 : b ≤ 9223372036854775807) (n1 : -9223372036854775808 ≤ n) (n2 : n ≤ 9223372036854775807) (m1 : -9223372036854775808 ≤ m) (m2 : m ≤ 9223372036854775807) (w : World) :
    Calls Try.prog 16 #[.int .i64 a, .int .i64 b, .int .i64 n, .int .i64 m] w fun e w' => e = .returned (.bool true) ∧ Below w.heap.size w w' := by
  have q0 := Qw.refl w
  by_cases k1 : 0 ≤ m
  · have d1 : decide (0 ≤ m) = true := decide_eq_true k1
    by_cases k2 : m ≤ 2
    · have d2 : decide (m ≤ 2) = true := decide_eq_true k2
      have hm : m + 3 < 0 ∨ 2 < m + 3 := by omega
      have c1 : ∀ w, Calls Try.prog 20 #[.int .i64 a, .int .i64 b, .int .i64 n, .int .i64 (m + 3)] w fun e w' => e = .returned (.tuple #[.int .i64 0, .bool false]) ∧ Qw w w' := fun w => by
        have := muldivW a b n (m + 3) (by omega) (by omega) (by omega) (by omega) (by omega) (by omega) w
        rw [(md_bad a b n _ hm).1, (md_bad a b n _ hm).2] at this; exact this
      have c2 : ∀ w, Calls Try.prog 23 #[.int .i64 a, .int .i64 (m + 3)] w fun e w' => e = .returned (.tuple #[.int .i64 0, .bool false]) ∧ Qw w w' := fun w => by
        have := sqrtW a (m + 3) (by omega) (by omega) w
        rw [(rt_bad a 1 _ hm).1, (rt_bad a 1 _ hm).2] at this; exact this
      have c3 : ∀ w, Calls Try.prog 25 #[.int .i64 a, .int .i64 b, .int .i64 (m + 3)] w fun e w' => e = .returned (.tuple #[.int .i64 0, .bool false]) ∧ Qw w w' := fun w => by
        have := rootW a b (m + 3) (by omega) (by omega) (by omega) (by omega) w
        rw [(rt_bad a b _ hm).1, (rt_bad a b _ hm).2] at this; exact this
      have c4 : ∀ w, Calls Try.prog 27 #[.int .i64 a, .int .i64 b, .int .i64 n, .int .i64 (m + 3)] w fun e w' => e = .returned (.tuple #[.int .i64 0, .bool false]) ∧ Qw w w' := fun w => by
        have := overW a b n (m + 3) (by omega) (by omega) (by omega) (by omega) (by omega) (by omega) w
        rw [(ov_bad a b n _ hm).1, (ov_bad a b n _ hm).2] at this; exact this
      have c5 : ∀ w, Calls Try.prog 20 #[.int .i64 a, .int .i64 b, .int .i64 0, .int .i64 0] w fun e w' => e = .returned (.tuple #[.int .i64 0, .bool false]) ∧ Qw w w' := fun w => by
        have := muldivW a b 0 0 (by omega) (by omega) (by omega) (by omega) (by omega) (by omega) w
        rw [(md_zero a b 0).1, (md_zero a b 0).2] at this; exact this
      have c6 : ∀ w, Calls Try.prog 27 #[.int .i64 2147483649, .int .i64 1, .int .i64 1, .int .i64 0] w fun e w' => e = .returned (.tuple #[.int .i64 0, .bool false]) ∧ Qw w w' := fun w => by
        have := overW 2147483649 1 1 0 (by omega) (by omega) (by omega) (by omega) (by omega) (by omega) w
        rw [(ov_big 2147483649 1 1 0 (by decide)).1, (ov_big 2147483649 1 1 0 (by decide)).2] at this; exact this
      have C1 := Lib.hid c1; have C2 := Lib.hid c2; have C3 := Lib.hid c3; have C4 := Lib.hid c4; have C5 := Lib.hid c5; have C6 := Lib.hid c6
      clear c1 c2 c3 c4 c5 c6
      go_enter Try.func16, Try.ntmps16
      go_wp2_with (first | (go_at_call 20; ((with_reducible refine (C1.out _).mono ?_); rintro e w' ⟨rfl, h⟩; replace q0 := Qw.trans q0 h; clear h)) | (go_at_call 20; ((with_reducible refine (C5.out _).mono ?_); rintro e w' ⟨rfl, h⟩; replace q0 := Qw.trans q0 h; clear h)) | (go_at_call 23; ((with_reducible refine (C2.out _).mono ?_); rintro e w' ⟨rfl, h⟩; replace q0 := Qw.trans q0 h; clear h)) | (go_at_call 25; ((with_reducible refine (C3.out _).mono ?_); rintro e w' ⟨rfl, h⟩; replace q0 := Qw.trans q0 h; clear h)) | (go_at_call 27; ((with_reducible refine (C4.out _).mono ?_); rintro e w' ⟨rfl, h⟩; replace q0 := Qw.trans q0 h; clear h)) | (go_at_call 27; ((with_reducible refine (C6.out _).mono ?_); rintro e w' ⟨rfl, h⟩; replace q0 := Qw.trans q0 h; clear h)) | (go_at_call 17; ((with_reducible refine (awakeW _).mono ?_); rintro e w' ⟨rfl, h⟩; replace q0 := Qw.trans q0 h; clear h)))
      go_ret
      exact ⟨rfl, q0⟩
    · have d2 : decide (m ≤ 2) = false := decide_eq_false k2
      have hm : m < 0 ∨ 2 < m := by omega
      have c1 : ∀ w, Calls Try.prog 20 #[.int .i64 a, .int .i64 b, .int .i64 n, .int .i64 (m)] w fun e w' => e = .returned (.tuple #[.int .i64 0, .bool false]) ∧ Qw w w' := fun w => by
        have := muldivW a b n (m) (by omega) (by omega) (by omega) (by omega) (by omega) (by omega) w
        rw [(md_bad a b n _ hm).1, (md_bad a b n _ hm).2] at this; exact this
      have c2 : ∀ w, Calls Try.prog 23 #[.int .i64 a, .int .i64 (m)] w fun e w' => e = .returned (.tuple #[.int .i64 0, .bool false]) ∧ Qw w w' := fun w => by
        have := sqrtW a (m) (by omega) (by omega) w
        rw [(rt_bad a 1 _ hm).1, (rt_bad a 1 _ hm).2] at this; exact this
      have c3 : ∀ w, Calls Try.prog 25 #[.int .i64 a, .int .i64 b, .int .i64 (m)] w fun e w' => e = .returned (.tuple #[.int .i64 0, .bool false]) ∧ Qw w w' := fun w => by
        have := rootW a b (m) (by omega) (by omega) (by omega) (by omega) w
        rw [(rt_bad a b _ hm).1, (rt_bad a b _ hm).2] at this; exact this
      have c4 : ∀ w, Calls Try.prog 27 #[.int .i64 a, .int .i64 b, .int .i64 n, .int .i64 (m)] w fun e w' => e = .returned (.tuple #[.int .i64 0, .bool false]) ∧ Qw w w' := fun w => by
        have := overW a b n (m) (by omega) (by omega) (by omega) (by omega) (by omega) (by omega) w
        rw [(ov_bad a b n _ hm).1, (ov_bad a b n _ hm).2] at this; exact this
      have c5 : ∀ w, Calls Try.prog 20 #[.int .i64 a, .int .i64 b, .int .i64 0, .int .i64 0] w fun e w' => e = .returned (.tuple #[.int .i64 0, .bool false]) ∧ Qw w w' := fun w => by
        have := muldivW a b 0 0 (by omega) (by omega) (by omega) (by omega) (by omega) (by omega) w
        rw [(md_zero a b 0).1, (md_zero a b 0).2] at this; exact this
      have c6 : ∀ w, Calls Try.prog 27 #[.int .i64 2147483649, .int .i64 1, .int .i64 1, .int .i64 0] w fun e w' => e = .returned (.tuple #[.int .i64 0, .bool false]) ∧ Qw w w' := fun w => by
        have := overW 2147483649 1 1 0 (by omega) (by omega) (by omega) (by omega) (by omega) (by omega) w
        rw [(ov_big 2147483649 1 1 0 (by decide)).1, (ov_big 2147483649 1 1 0 (by decide)).2] at this; exact this
      have C1 := Lib.hid c1; have C2 := Lib.hid c2; have C3 := Lib.hid c3; have C4 := Lib.hid c4; have C5 := Lib.hid c5; have C6 := Lib.hid c6
      clear c1 c2 c3 c4 c5 c6
      go_enter Try.func16, Try.ntmps16
      go_wp2_with (first | (go_at_call 20; ((with_reducible refine (C1.out _).mono ?_); rintro e w' ⟨rfl, h⟩; replace q0 := Qw.trans q0 h; clear h)) | (go_at_call 20; ((with_reducible refine (C5.out _).mono ?_); rintro e w' ⟨rfl, h⟩; replace q0 := Qw.trans q0 h; clear h)) | (go_at_call 23; ((with_reducible refine (C2.out _).mono ?_); rintro e w' ⟨rfl, h⟩; replace q0 := Qw.trans q0 h; clear h)) | (go_at_call 25; ((with_reducible refine (C3.out _).mono ?_); rintro e w' ⟨rfl, h⟩; replace q0 := Qw.trans q0 h; clear h)) | (go_at_call 27; ((with_reducible refine (C4.out _).mono ?_); rintro e w' ⟨rfl, h⟩; replace q0 := Qw.trans q0 h; clear h)) | (go_at_call 27; ((with_reducible refine (C6.out _).mono ?_); rintro e w' ⟨rfl, h⟩; replace q0 := Qw.trans q0 h; clear h)) | (go_at_call 17; ((with_reducible refine (awakeW _).mono ?_); rintro e w' ⟨rfl, h⟩; replace q0 := Qw.trans q0 h; clear h)))
      go_ret
      exact ⟨rfl, q0⟩
  · have d1 : decide (0 ≤ m) = false := decide_eq_false k1
    have hm : m < 0 ∨ 2 < m := by omega
    have c1 : ∀ w, Calls Try.prog 20 #[.int .i64 a, .int .i64 b, .int .i64 n, .int .i64 (m)] w fun e w' => e = .returned (.tuple #[.int .i64 0, .bool false]) ∧ Qw w w' := fun w => by
      have := muldivW a b n (m) (by omega) (by omega) (by omega) (by omega) (by omega) (by omega) w
      rw [(md_bad a b n _ hm).1, (md_bad a b n _ hm).2] at this; exact this
    have c2 : ∀ w, Calls Try.prog 23 #[.int .i64 a, .int .i64 (m)] w fun e w' => e = .returned (.tuple #[.int .i64 0, .bool false]) ∧ Qw w w' := fun w => by
      have := sqrtW a (m) (by omega) (by omega) w
      rw [(rt_bad a 1 _ hm).1, (rt_bad a 1 _ hm).2] at this; exact this
    have c3 : ∀ w, Calls Try.prog 25 #[.int .i64 a, .int .i64 b, .int .i64 (m)] w fun e w' => e = .returned (.tuple #[.int .i64 0, .bool false]) ∧ Qw w w' := fun w => by
      have := rootW a b (m) (by omega) (by omega) (by omega) (by omega) w
      rw [(rt_bad a b _ hm).1, (rt_bad a b _ hm).2] at this; exact this
    have c4 : ∀ w, Calls Try.prog 27 #[.int .i64 a, .int .i64 b, .int .i64 n, .int .i64 (m)] w fun e w' => e = .returned (.tuple #[.int .i64 0, .bool false]) ∧ Qw w w' := fun w => by
      have := overW a b n (m) (by omega) (by omega) (by omega) (by omega) (by omega) (by omega) w
      rw [(ov_bad a b n _ hm).1, (ov_bad a b n _ hm).2] at this; exact this
    have c5 : ∀ w, Calls Try.prog 20 #[.int .i64 a, .int .i64 b, .int .i64 0, .int .i64 0] w fun e w' => e = .returned (.tuple #[.int .i64 0, .bool false]) ∧ Qw w w' := fun w => by
      have := muldivW a b 0 0 (by omega) (by omega) (by omega) (by omega) (by omega) (by omega) w
      rw [(md_zero a b 0).1, (md_zero a b 0).2] at this; exact this
    have c6 : ∀ w, Calls Try.prog 27 #[.int .i64 2147483649, .int .i64 1, .int .i64 1, .int .i64 0] w fun e w' => e = .returned (.tuple #[.int .i64 0, .bool false]) ∧ Qw w w' := fun w => by
      have := overW 2147483649 1 1 0 (by omega) (by omega) (by omega) (by omega) (by omega) (by omega) w
      rw [(ov_big 2147483649 1 1 0 (by decide)).1, (ov_big 2147483649 1 1 0 (by decide)).2] at this; exact this
    have C1 := Lib.hid c1; have C2 := Lib.hid c2; have C3 := Lib.hid c3; have C4 := Lib.hid c4; have C5 := Lib.hid c5; have C6 := Lib.hid c6
    clear c1 c2 c3 c4 c5 c6
    go_enter Try.func16, Try.ntmps16
    go_wp2_with (first | (go_at_call 20; ((with_reducible refine (C1.out _).mono ?_); rintro e w' ⟨rfl, h⟩; replace q0 := Qw.trans q0 h; clear h)) | (go_at_call 20; ((with_reducible refine (C5.out _).mono ?_); rintro e w' ⟨rfl, h⟩; replace q0 := Qw.trans q0 h; clear h)) | (go_at_call 23; ((with_reducible refine (C2.out _).mono ?_); rintro e w' ⟨rfl, h⟩; replace q0 := Qw.trans q0 h; clear h)) | (go_at_call 25; ((with_reducible refine (C3.out _).mono ?_); rintro e w' ⟨rfl, h⟩; replace q0 := Qw.trans q0 h; clear h)) | (go_at_call 27; ((with_reducible refine (C4.out _).mono ?_); rintro e w' ⟨rfl, h⟩; replace q0 := Qw.trans q0 h; clear h)) | (go_at_call 27; ((with_reducible refine (C6.out _).mono ?_); rintro e w' ⟨rfl, h⟩; replace q0 := Qw.trans q0 h; clear h)) | (go_at_call 17; ((with_reducible refine (awakeW _).mono ?_); rintro e w' ⟨rfl, h⟩; replace q0 := Qw.trans q0 h; clear h)))
    go_ret
    exact ⟨rfl, q0⟩

/-! ### the row -/
theorem own_wideRefuses : ownKnob Try.prog.godebug = none := by kernel_rfl
set_option maxRecDepth 100000 in
theorem lifted_wideRefuses (os : Os) (started : os.Started) (H : Type) (enc : TypeId × Value → H) :
    ReturnsInHanded {} Try.checked os 16 .any (Rows.wideRefusesSpec.pre6 enc Try.prog Try.f16 Rows.wideRefusesRow.domain false) (Rows.wideRefusesSpec.post enc Try.prog Try.f16 false true false false) := by
  refine returnsInHanded_of_change (C := Try.checked) own_wideRefuses started (by kernel_rfl) Try.func16
    (ChangeSpec.witness6 (enc := enc) (C := Try.checked) false ⟨#[], #[.int .i64 0, .int .i64 0, .int .i64 0, .int .i64 0], []⟩ 8 (by kernel_rfl) (by kernel_rfl) (by kernel_rfl) (by kernel_rfl)) ?_
  intro W base args ds gs before hval0 hW hcnd _
  have hval : ∀ (j : Nat) t v, Try.f16.params[j]? = some t → args[j]? = some v → Value.okWide Try.prog W .any base t v := hval0
  have hW' := hW
  obtain ⟨p, q, hA0, hV, rfl, hfz, hnd⟩ := hW
  have hA : DataW.TrodAll enc Try.prog W 0 (fun _ => true) true Try.f16.params.toList args.toList ds p := hA0
  rw [Try.params16] at hA hval
  obtain ⟨v0, vs0, d0, ds0, p0, q0, hargs, rfl, rfl, h0, r0⟩ := trodAll_cons hA
  obtain ⟨v1, vs1, d1, ds1, p1, q1, rfl, rfl, rfl, h1, r1⟩ := trodAll_cons r0
  obtain ⟨v2, vs2, d2, ds2, p2, q2, rfl, rfl, rfl, h2, r2⟩ := trodAll_cons r1
  obtain ⟨v3, vs3, d3, ds3, p3, q3, rfl, rfl, rfl, h3, r3⟩ := trodAll_cons r2
  obtain ⟨rfl, rfl, rfl⟩ := trodAll_nil r3
  obtain rfl : args = #[v0, v1, v2, v3] := by cases args; simp_all
  obtain ⟨rfl, rfl⟩ := trodVars_none hV
  obtain ⟨a0, rfl, rfl, rfl, w0⟩ := open_int Try.underlying3 (hval 0 3 v0 rfl rfl) h0
  obtain ⟨a1, rfl, rfl, rfl, w1⟩ := open_int Try.underlying3 (hval 1 3 v1 rfl rfl) h1
  obtain ⟨a2, rfl, rfl, rfl, w2⟩ := open_int Try.underlying3 (hval 2 3 v2 rfl rfl) h2
  obtain ⟨a3, rfl, rfl, rfl, w3⟩ := open_int Try.underlying3 (hval 3 3 v3 rfl rfl) h3
  obtain ⟨x0, y0⟩ := i64_of_wf w0
  obtain ⟨x1, y1⟩ := i64_of_wf w1
  obtain ⟨x2, y2⟩ := i64_of_wf w2
  obtain ⟨x3, y3⟩ := i64_of_wf w3
  clear hA0 hval0
  simp only [List.append_nil] at hW'
  refine (walk_wideRefuses a0 a1 a2 a3 x0 y0 x1 y1 x2 y2 x3 y3 W).mono fun e W' ⟨he, bel⟩ => ?_
  subst he
  exact ⟨_, rfl, _, _, _, [], _, [], hW', trodAll_mk1 (shut_bool Try.underlying4 _), (trodAll_cons_mk (shut_int Try.underlying3 w0) (trodAll_cons_mk (shut_int Try.underlying3 w1) (trodAll_cons_mk (shut_int Try.underlying3 w2) (trodAll_cons_mk (shut_int Try.underlying3 w3) trodAll_mk0)))), rfl, Below.frame bel _, fun h => by cases h⟩

/-- The statement. -/
theorem wideRefuses_holds : Rows.WideRefusesSaid :=
  OpenClaim.holds_of_wide 16 Try.f16 rfl rfl rfl rfl rfl rfl rfl ⟨rfl, rfl, rfl, rfl, rfl⟩ rfl rfl rfl rfl rfl (by kernel_rfl) Try.func16 (by kernel_rfl)
    (of_decide_eq_true (by kernel_rfl)) (by unfold Func.isWrapper; first | (rw [if_pos (by decide +kernel)]; kernel_rfl) | (rw [if_neg (by decide +kernel)]; exact ⟨rfl, rfl⟩))
    (fun os started H enc _ => lifted_wideRefuses os started H enc)

end Go.Proofs.Ytihdmhdhdlbifaa
