/- WideOrder: Cmp is antisymmetric, factors may be exchanged, and equal factors compare like the others.
   Conditions: none; every input. -/
import Derived.Test.YtihdmhdhdlbifaaFrame
import Derived.Test.YtihdmhdhdlbifaaPlain
set_option linter.unusedVariables false
set_option linter.unusedSimpArgs false
namespace Go.Proofs.Ytihdmhdhdlbifaa
open Go.ChangeShapes Go.WideShapes Go.ChangeAt Go.RowKit

theorem walk_wideOrder (a b c d : Int) (a1 : -9223372036854775808 ≤ a) (a2 : a ≤ 9223372036854775807) (b1 : -9223372036854775808 ≤ b) (b2 : b ≤ 9223372036854775807) (c1 : -9223372036854775808 ≤ c) (c2 : c ≤ 9223372036854775807) (d1 : -9223372036854775808 ≤ d) (d2 : d ≤ 9223372036854775807) (w : World) :
    Calls Try.prog 14 #[.int .i64 a, .int .i64 b, .int .i64 c, .int .i64 d] w fun e w' => e = .returned (.bool true) ∧ Below w.heap.size w w' := by
  have q0 := Qw.refl w
  have e1 : cmpI (c * d) (a * b) = -cmpI (a * b) (c * d) := cmpI_swap _ _
  have e2 : cmpI (b * a) (d * c) = cmpI (a * b) (c * d) := by rw [Int.mul_comm b a, Int.mul_comm d c]
  have e3 : cmpI (a * b) (b * a) = 0 := by rw [Int.mul_comm b a, cmpI_zero]
  obtain ⟨r1, r2⟩ := cmpI_range (a * b) (c * d)
  have es : (a = 0 ∨ b = c → cmpI (a * b) (a * c) = 0) ∧ (a ≠ 0 → b ≠ c → (decide (0 < a) = decide (c < b)) → cmpI (a * b) (a * c) = 1) ∧ (a ≠ 0 → b ≠ c → (decide (0 < a) ≠ decide (c < b)) → cmpI (a * b) (a * c) = -1) := order_plain a b c
  have c1 : ∀ w, Calls Try.prog 18 #[.int .i64 a, .int .i64 b, .int .i64 c, .int .i64 d] w fun e w' => e = .returned (.int .i64 (cmpI (a * b) (c * d))) ∧ Qw w w' := fun w => cmpW a b c d (by omega) (by omega) (by omega) (by omega) (by omega) (by omega) (by omega) (by omega) w
  have c2 : ∀ w, Calls Try.prog 18 #[.int .i64 c, .int .i64 d, .int .i64 a, .int .i64 b] w fun e w' => e = .returned (.int .i64 (-cmpI (a * b) (c * d))) ∧ Qw w w' := fun w => by
    have := cmpW c d a b (by omega) (by omega) (by omega) (by omega) (by omega) (by omega) (by omega) (by omega) w
    rw [e1] at this; exact this
  have c3 : ∀ w, Calls Try.prog 18 #[.int .i64 b, .int .i64 a, .int .i64 d, .int .i64 c] w fun e w' => e = .returned (.int .i64 (cmpI (a * b) (c * d))) ∧ Qw w w' := fun w => by
    have := cmpW b a d c (by omega) (by omega) (by omega) (by omega) (by omega) (by omega) (by omega) (by omega) w
    rw [e2] at this; exact this
  have c4 : ∀ w, Calls Try.prog 18 #[.int .i64 a, .int .i64 b, .int .i64 b, .int .i64 a] w fun e w' => e = .returned (.int .i64 0) ∧ Qw w w' := fun w => by
    have := cmpW a b b a (by omega) (by omega) (by omega) (by omega) (by omega) (by omega) (by omega) (by omega) w
    rw [e3] at this; exact this
  have c5 : ∀ w, Calls Try.prog 18 #[.int .i64 a, .int .i64 b, .int .i64 a, .int .i64 c] w fun e w' => e = .returned (.int .i64 (cmpI (a * b) (a * c))) ∧ Qw w w' := fun w => cmpW a b a c (by omega) (by omega) (by omega) (by omega) (by omega) (by omega) (by omega) (by omega) w
  clear e1 e2 e3
  generalize cmpI (a * b) (c * d) = x at *
  generalize cmpI (a * b) (a * c) = s at *
  have x1 : decide (x < -1) = false := decide_eq_false (by omega)
  have x2 : decide (1 < x) = false := decide_eq_false (by omega)
  have C1 := Lib.hid c1; have C2 := Lib.hid c2; have C3 := Lib.hid c3; have C4 := Lib.hid c4; have C5 := Lib.hid c5
  clear c1 c2 c3 c4 c5
  obtain ⟨s1, s2, s3⟩ := es
  by_cases ka : a = 0
  · have s0 := s1 (.inl ka)
    subst ka s0
    clear s1 s2 s3
    go_enter Try.func14, Try.ntmps14
    go_wp2_with (first | (go_at_call 18; ((with_reducible refine (C1.out _).mono ?_); rintro e w' ⟨rfl, h⟩; replace q0 := Qw.trans q0 h; clear h)) | (go_at_call 18; ((with_reducible refine (C2.out _).mono ?_); rintro e w' ⟨rfl, h⟩; replace q0 := Qw.trans q0 h; clear h)) | (go_at_call 18; ((with_reducible refine (C3.out _).mono ?_); rintro e w' ⟨rfl, h⟩; replace q0 := Qw.trans q0 h; clear h)) | (go_at_call 18; ((with_reducible refine (C4.out _).mono ?_); rintro e w' ⟨rfl, h⟩; replace q0 := Qw.trans q0 h; clear h)) | (go_at_call 18; ((with_reducible refine (C5.out _).mono ?_); rintro e w' ⟨rfl, h⟩; replace q0 := Qw.trans q0 h; clear h)) | (go_at_call 17; ((with_reducible refine (awakeW _).mono ?_); rintro e w' ⟨rfl, h⟩; replace q0 := Qw.trans q0 h; clear h)))
    go_ret
    exact ⟨rfl, q0⟩
  by_cases kb : b = c
  · have s0 := s1 (.inr kb)
    have ba : (a == 0) = false := beq_eq_false_iff_ne.2 ka
    subst kb s0
    clear s1 s2 s3 ka
    go_enter Try.func14, Try.ntmps14
    go_wp2_with (first | (go_at_call 18; ((with_reducible refine (C1.out _).mono ?_); rintro e w' ⟨rfl, h⟩; replace q0 := Qw.trans q0 h; clear h)) | (go_at_call 18; ((with_reducible refine (C2.out _).mono ?_); rintro e w' ⟨rfl, h⟩; replace q0 := Qw.trans q0 h; clear h)) | (go_at_call 18; ((with_reducible refine (C3.out _).mono ?_); rintro e w' ⟨rfl, h⟩; replace q0 := Qw.trans q0 h; clear h)) | (go_at_call 18; ((with_reducible refine (C4.out _).mono ?_); rintro e w' ⟨rfl, h⟩; replace q0 := Qw.trans q0 h; clear h)) | (go_at_call 18; ((with_reducible refine (C5.out _).mono ?_); rintro e w' ⟨rfl, h⟩; replace q0 := Qw.trans q0 h; clear h)) | (go_at_call 17; ((with_reducible refine (awakeW _).mono ?_); rintro e w' ⟨rfl, h⟩; replace q0 := Qw.trans q0 h; clear h)))
    go_ret
    exact ⟨rfl, q0⟩
  have ba : (a == 0) = false := beq_eq_false_iff_ne.2 ka
  have bb : (b == c) = false := beq_eq_false_iff_ne.2 kb
  by_cases kc : decide (0 < a) = decide (c < b)
  · have s0 := s2 ka kb kc
    have bc : (decide (0 < a) == decide (c < b)) = true := by rw [kc]; simp
    subst s0
    clear s1 s2 s3 ka kb kc
    go_enter Try.func14, Try.ntmps14
    go_wp2_with (first | (go_at_call 18; ((with_reducible refine (C1.out _).mono ?_); rintro e w' ⟨rfl, h⟩; replace q0 := Qw.trans q0 h; clear h)) | (go_at_call 18; ((with_reducible refine (C2.out _).mono ?_); rintro e w' ⟨rfl, h⟩; replace q0 := Qw.trans q0 h; clear h)) | (go_at_call 18; ((with_reducible refine (C3.out _).mono ?_); rintro e w' ⟨rfl, h⟩; replace q0 := Qw.trans q0 h; clear h)) | (go_at_call 18; ((with_reducible refine (C4.out _).mono ?_); rintro e w' ⟨rfl, h⟩; replace q0 := Qw.trans q0 h; clear h)) | (go_at_call 18; ((with_reducible refine (C5.out _).mono ?_); rintro e w' ⟨rfl, h⟩; replace q0 := Qw.trans q0 h; clear h)) | (go_at_call 17; ((with_reducible refine (awakeW _).mono ?_); rintro e w' ⟨rfl, h⟩; replace q0 := Qw.trans q0 h; clear h)))
    go_ret
    exact ⟨rfl, q0⟩
  · have s0 := s3 ka kb kc
    have bc : (decide (0 < a) == decide (c < b)) = false := by simpa using kc
    subst s0
    clear s1 s2 s3 ka kb kc
    go_enter Try.func14, Try.ntmps14
    go_wp2_with (first | (go_at_call 18; ((with_reducible refine (C1.out _).mono ?_); rintro e w' ⟨rfl, h⟩; replace q0 := Qw.trans q0 h; clear h)) | (go_at_call 18; ((with_reducible refine (C2.out _).mono ?_); rintro e w' ⟨rfl, h⟩; replace q0 := Qw.trans q0 h; clear h)) | (go_at_call 18; ((with_reducible refine (C3.out _).mono ?_); rintro e w' ⟨rfl, h⟩; replace q0 := Qw.trans q0 h; clear h)) | (go_at_call 18; ((with_reducible refine (C4.out _).mono ?_); rintro e w' ⟨rfl, h⟩; replace q0 := Qw.trans q0 h; clear h)) | (go_at_call 18; ((with_reducible refine (C5.out _).mono ?_); rintro e w' ⟨rfl, h⟩; replace q0 := Qw.trans q0 h; clear h)) | (go_at_call 17; ((with_reducible refine (awakeW _).mono ?_); rintro e w' ⟨rfl, h⟩; replace q0 := Qw.trans q0 h; clear h)))
    go_ret
    exact ⟨rfl, q0⟩

/-! ### the row -/
theorem own_wideOrder : ownKnob Try.prog.godebug = none := by kernel_rfl
set_option maxRecDepth 100000 in
theorem lifted_wideOrder (os : Os) (started : os.Started) (H : Type) (enc : TypeId × Value → H) :
    ReturnsInHanded {} Try.checked os 14 .any (Rows.wideOrderSpec.pre6 enc Try.prog Try.f14 Rows.wideOrderRow.domain false) (Rows.wideOrderSpec.post enc Try.prog Try.f14 false true false false) := by
  refine returnsInHanded_of_change (C := Try.checked) own_wideOrder started (by kernel_rfl) Try.func14
    (ChangeSpec.witness6 (enc := enc) (C := Try.checked) false ⟨#[], #[.int .i64 0, .int .i64 0, .int .i64 0, .int .i64 0], []⟩ 8 (by kernel_rfl) (by kernel_rfl) (by kernel_rfl) (by kernel_rfl)) ?_
  intro W base args ds gs before hval0 hW hcnd _
  have hval : ∀ (j : Nat) t v, Try.f14.params[j]? = some t → args[j]? = some v → Value.okWide Try.prog W .any base t v := hval0
  have hW' := hW
  obtain ⟨p, q, hA0, hV, rfl, hfz, hnd⟩ := hW
  have hA : DataW.TrodAll enc Try.prog W 0 (fun _ => true) true Try.f14.params.toList args.toList ds p := hA0
  rw [Try.params14] at hA hval
  obtain ⟨v0, vs0, d0, ds0, p0, q0, hargs, rfl, rfl, h0, r0⟩ := trodAll_cons hA
  obtain ⟨v1, vs1, d1, ds1, p1, q1, rfl, rfl, rfl, h1, r1⟩ := trodAll_cons r0
  obtain ⟨v2, vs2, d2, ds2, p2, q2, rfl, rfl, rfl, h2, r2⟩ := trodAll_cons r1
  obtain ⟨v3, vs3, d3, ds3, p3, q3, rfl, rfl, rfl, h3, r3⟩ := trodAll_cons r2
  obtain ⟨rfl, rfl, rfl⟩ := trodAll_nil r3
  obtain rfl : args = #[v0, v1, v2, v3] := by cases args; simp_all
  obtain ⟨rfl, rfl⟩ := trodVars_none hV
  obtain ⟨a0, rfl, rfl, rfl, w0⟩ := open_int Try.underlying3 (hval 0 3 v0 rfl rfl) h0
  obtain ⟨a1, rfl, rfl, rfl, w1⟩ := open_int Try.underlying3 (hval 1 3 v1 rfl rfl) h1
  obtain ⟨a2, rfl, rfl, rfl, w2⟩ := open_int Try.underlying3 (hval 2 3 v2 rfl rfl) h2
  obtain ⟨a3, rfl, rfl, rfl, w3⟩ := open_int Try.underlying3 (hval 3 3 v3 rfl rfl) h3
  obtain ⟨x0, y0⟩ := i64_of_wf w0
  obtain ⟨x1, y1⟩ := i64_of_wf w1
  obtain ⟨x2, y2⟩ := i64_of_wf w2
  obtain ⟨x3, y3⟩ := i64_of_wf w3
  clear hA0 hval0
  simp only [List.append_nil] at hW'
  refine (walk_wideOrder a0 a1 a2 a3 x0 y0 x1 y1 x2 y2 x3 y3 W).mono fun e W' ⟨he, bel⟩ => ?_
  subst he
  exact ⟨_, rfl, _, _, _, [], _, [], hW', trodAll_mk1 (shut_bool Try.underlying4 _), (trodAll_cons_mk (shut_int Try.underlying3 w0) (trodAll_cons_mk (shut_int Try.underlying3 w1) (trodAll_cons_mk (shut_int Try.underlying3 w2) (trodAll_cons_mk (shut_int Try.underlying3 w3) trodAll_mk0)))), rfl, Below.frame bel _, fun h => by cases h⟩

/-- The statement. -/
theorem wideOrder_holds : Rows.WideOrderSaid :=
  OpenClaim.holds_of_wide 14 Try.f14 rfl rfl rfl rfl rfl rfl rfl ⟨rfl, rfl, rfl, rfl, rfl⟩ rfl rfl rfl rfl rfl (by kernel_rfl) Try.func14 (by kernel_rfl)
    (of_decide_eq_true (by kernel_rfl)) (by unfold Func.isWrapper; first | (rw [if_pos (by decide +kernel)]; kernel_rfl) | (rw [if_neg (by decide +kernel)]; exact ⟨rfl, rfl⟩))
    (fun os started H enc _ => lifted_wideOrder os started H enc)

end Go.Proofs.Ytihdmhdhdlbifaa
