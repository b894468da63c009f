/- WideSquares: Root of a square is exact, and Over with a square is a quotient.
   Conditions: none; every input. -/
import Derived.Test.YtihdmhdhdlbifaaFrame
import Derived.Test.YtihdmhdhdlbifaaPlainB
set_option linter.unusedVariables false
set_option linter.unusedSimpArgs false
namespace Go.Proofs.Ytihdmhdhdlbifaa
open Go.ChangeShapes Go.WideShapes Go.ChangeAt Go.RowKit

theorem walk_wideSquares (a b n m : Int) (a1 : -9223372036854775808 ≤ a) (a2 : a ≤ 9223372036854775807) (b1 : -9223372036854775808 ≤ b) (b2 : b ≤ 9223372036854775807) (n1 : -9223372036854775808 ≤ n) (n2 : n ≤ 9223372036854775807) (m1 : -9223372036854775808 ≤ m) (m2 : m ≤ 9223372036854775807) (w : World) :
    Calls Try.prog 13 #[.int .i64 a, .int .i64 b, .int .i64 n, .int .i64 m] w fun e w' => e = .returned (.bool true) ∧ Below w.heap.size w w' := by
  have q0 := Qw.refl w
  have u0 : 0 ≤ a % 4294967297 := Int.emod_nonneg _ (by omega)
  have u1 : a % 4294967297 < 4294967297 := Int.emod_lt_of_pos _ (by omega)
  have t0 : 0 ≤ b % 4294967297 := Int.emod_nonneg _ (by omega)
  have t1 : b % 4294967297 < 4294967297 := Int.emod_lt_of_pos _ (by omega)
  have s0 : 0 ≤ n % 2147483648 := Int.emod_nonneg _ (by omega)
  have s1 : n % 2147483648 < 2147483648 := Int.emod_lt_of_pos _ (by omega)
  have r0 : 0 ≤ m % 3 := Int.emod_nonneg _ (by omega)
  have r1 : m % 3 < 3 := Int.emod_lt_of_pos _ (by omega)
  obtain ⟨A, eA⟩ : ∃ A, -2147483648 + a % 4294967297 = A := ⟨_, rfl⟩
  obtain ⟨B, eB⟩ : ∃ B, -2147483648 + b % 4294967297 = B := ⟨_, rfl⟩
  obtain ⟨N, eN⟩ : ∃ N, 1 + n % 2147483648 = N := ⟨_, rfl⟩
  obtain ⟨M, eM⟩ : ∃ M, m % 3 = M := ⟨_, rfl⟩
  have A1 : -2147483648 ≤ A := by omega
  have A2 : A ≤ 2147483648 := by omega
  have B1 : -2147483648 ≤ B := by omega
  have B2 : B ≤ 2147483648 := by omega
  have N1 : 1 ≤ N := by omega
  have N2 : N ≤ 2147483648 := by omega
  have M1 : 0 ≤ M := by omega
  have M2 : M ≤ 2 := by omega
  have bA : ∀ w, Calls Try.prog 29 #[.int .i64 a, .int .i64 (-2147483648), .int .i64 2147483648] w fun e w' => e = .returned (.int .i64 A) ∧ w = w' := fun w => by
    have := betweenW a (-2147483648) 2147483648 (by omega) (by omega) (by omega) (by omega) (by omega) (by omega) w
    rw [show (2147483648 : Int) - -2147483648 + 1 = 4294967297 from by decide, eA] at this; exact this
  have bB : ∀ w, Calls Try.prog 29 #[.int .i64 b, .int .i64 (-2147483648), .int .i64 2147483648] w fun e w' => e = .returned (.int .i64 B) ∧ w = w' := fun w => by
    have := betweenW b (-2147483648) 2147483648 (by omega) (by omega) (by omega) (by omega) (by omega) (by omega) w
    rw [show (2147483648 : Int) - -2147483648 + 1 = 4294967297 from by decide, eB] at this; exact this
  have bN : ∀ w, Calls Try.prog 29 #[.int .i64 n, .int .i64 1, .int .i64 2147483648] w fun e w' => e = .returned (.int .i64 N) ∧ w = w' := fun w => by
    have := betweenW n 1 2147483648 (by omega) (by omega) (by omega) (by omega) (by omega) (by omega) w
    rw [show (2147483648 : Int) - 1 + 1 = 2147483648 from by decide, eN] at this; exact this
  have bM : ∀ w, Calls Try.prog 22 #[.int .i64 m, .int .i64 3] w fun e w' => e = .returned (.int .i64 M) ∧ w = w' := fun w => by
    have := modW m 3 (by omega) (by omega) (by omega) (by omega) w
    rw [eM] at this; exact this
  have FA := Lib.hid bA; have FB := Lib.hid bB; have FN := Lib.hid bN; have FM := Lib.hid bM
  clear bA bB bN bM eA eB eN eM u0 u1 t0 t1 s0 s1 r0 r1
  obtain ⟨q1, q2, q3⟩ := squares_plain A B N M A1 A2 B1 B2 N1 N2 M1 M2
  have sq1 : 1 * 1 ≤ N * N := Int.mul_le_mul N1 N1 (by omega) (by omega)
  have sq2 : N * N ≤ 2147483648 * 2147483648 := Int.mul_le_mul N2 N2 (by omega) (by omega)
  have c1 := fun w => overW A B (N * N) M (by omega) (by omega) (by omega) (by omega) (by omega) (by omega) w
  have c2 := fun w => muldivW A B N M (by omega) (by omega) (by omega) (by omega) (by omega) (by omega) w
  rw [q1, q3] at c1
  rw [q2] at c2
  generalize mdv A B N M = v at *
  have C1 := Lib.hid c1; have C2 := Lib.hid c2
  clear c1 c2 q1 q2 q3
  have c3 := fun w => rootW a a M (by omega) (by omega) (by omega) (by omega) w
  by_cases ca : a < 0
  · have da : decide (0 ≤ a) = false := decide_eq_false (by omega)
    rw [show rtv a a M = 0 from if_pos (.inl ca), show rtok a a M = false from if_pos (.inl ca)] at c3
    have C3 := Lib.hid c3
    clear c3
    go_enter Try.func13, Try.ntmps13
    go_wp2_with (first | (go_at_call 27; ((with_reducible refine (C1.out _).mono ?_); rintro e w' ⟨rfl, h⟩; replace q0 := Qw.trans q0 h; clear h)) | (go_at_call 20; ((with_reducible refine (C2.out _).mono ?_); rintro e w' ⟨rfl, h⟩; replace q0 := Qw.trans q0 h; clear h)) | (go_at_call 25; ((with_reducible refine (C3.out _).mono ?_); rintro e w' ⟨rfl, h⟩; replace q0 := Qw.trans q0 h; clear h)) | (go_at_call 29; first | ((with_reducible refine (FA.out _).mono ?_); rintro e w' ⟨rfl, rfl⟩) | ((with_reducible refine (FB.out _).mono ?_); rintro e w' ⟨rfl, rfl⟩) | ((with_reducible refine (FN.out _).mono ?_); rintro e w' ⟨rfl, rfl⟩)) | (go_at_call 22; first | ((with_reducible refine (FM.out _).mono ?_); rintro e w' ⟨rfl, rfl⟩)) | (go_at_call 17; ((with_reducible refine (awakeW _).mono ?_); rintro e w' ⟨rfl, h⟩; replace q0 := Qw.trans q0 h; clear h)))
    go_ret
    exact ⟨rfl, q0⟩
  · have da : decide (0 ≤ a) = true := decide_eq_true (by omega)
    obtain ⟨z1, z2⟩ := root_square a M (by omega) a2 M1 M2
    rw [z1, z2] at c3
    have C3 := Lib.hid c3
    clear c3 z1 z2
    go_enter Try.func13, Try.ntmps13
    go_wp2_with (first | (go_at_call 27; ((with_reducible refine (C1.out _).mono ?_); rintro e w' ⟨rfl, h⟩; replace q0 := Qw.trans q0 h; clear h)) | (go_at_call 20; ((with_reducible refine (C2.out _).mono ?_); rintro e w' ⟨rfl, h⟩; replace q0 := Qw.trans q0 h; clear h)) | (go_at_call 25; ((with_reducible refine (C3.out _).mono ?_); rintro e w' ⟨rfl, h⟩; replace q0 := Qw.trans q0 h; clear h)) | (go_at_call 29; first | ((with_reducible refine (FA.out _).mono ?_); rintro e w' ⟨rfl, rfl⟩) | ((with_reducible refine (FB.out _).mono ?_); rintro e w' ⟨rfl, rfl⟩) | ((with_reducible refine (FN.out _).mono ?_); rintro e w' ⟨rfl, rfl⟩)) | (go_at_call 22; first | ((with_reducible refine (FM.out _).mono ?_); rintro e w' ⟨rfl, rfl⟩)) | (go_at_call 17; ((with_reducible refine (awakeW _).mono ?_); rintro e w' ⟨rfl, h⟩; replace q0 := Qw.trans q0 h; clear h)))
    go_ret
    exact ⟨rfl, q0⟩

/-! ### the row -/
theorem own_wideSquares : ownKnob Try.prog.godebug = none := by kernel_rfl
set_option maxRecDepth 100000 in
theorem lifted_wideSquares (os : Os) (started : os.Started) (H : Type) (enc : TypeId × Value → H) :
    ReturnsInHanded {} Try.checked os 13 .any (Rows.wideSquaresSpec.pre6 enc Try.prog Try.f13 Rows.wideSquaresRow.domain false) (Rows.wideSquaresSpec.post enc Try.prog Try.f13 false true false false) := by
  refine returnsInHanded_of_change (C := Try.checked) own_wideSquares started (by kernel_rfl) Try.func13
    (ChangeSpec.witness6 (enc := enc) (C := Try.checked) false ⟨#[], #[.int .i64 0, .int .i64 0, .int .i64 0, .int .i64 0], []⟩ 8 (by kernel_rfl) (by kernel_rfl) (by kernel_rfl) (by kernel_rfl)) ?_
  intro W base args ds gs before hval0 hW hcnd _
  have hval : ∀ (j : Nat) t v, Try.f13.params[j]? = some t → args[j]? = some v → Value.okWide Try.prog W .any base t v := hval0
  have hW' := hW
  obtain ⟨p, q, hA0, hV, rfl, hfz, hnd⟩ := hW
  have hA : DataW.TrodAll enc Try.prog W 0 (fun _ => true) true Try.f13.params.toList args.toList ds p := hA0
  rw [Try.params13] at hA hval
  obtain ⟨v0, vs0, d0, ds0, p0, q0, hargs, rfl, rfl, h0, r0⟩ := trodAll_cons hA
  obtain ⟨v1, vs1, d1, ds1, p1, q1, rfl, rfl, rfl, h1, r1⟩ := trodAll_cons r0
  obtain ⟨v2, vs2, d2, ds2, p2, q2, rfl, rfl, rfl, h2, r2⟩ := trodAll_cons r1
  obtain ⟨v3, vs3, d3, ds3, p3, q3, rfl, rfl, rfl, h3, r3⟩ := trodAll_cons r2
  obtain ⟨rfl, rfl, rfl⟩ := trodAll_nil r3
  obtain rfl : args = #[v0, v1, v2, v3] := by cases args; simp_all
  obtain ⟨rfl, rfl⟩ := trodVars_none hV
  obtain ⟨a0, rfl, rfl, rfl, w0⟩ := open_int Try.underlying3 (hval 0 3 v0 rfl rfl) h0
  obtain ⟨a1, rfl, rfl, rfl, w1⟩ := open_int Try.underlying3 (hval 1 3 v1 rfl rfl) h1
  obtain ⟨a2, rfl, rfl, rfl, w2⟩ := open_int Try.underlying3 (hval 2 3 v2 rfl rfl) h2
  obtain ⟨a3, rfl, rfl, rfl, w3⟩ := open_int Try.underlying3 (hval 3 3 v3 rfl rfl) h3
  obtain ⟨x0, y0⟩ := i64_of_wf w0
  obtain ⟨x1, y1⟩ := i64_of_wf w1
  obtain ⟨x2, y2⟩ := i64_of_wf w2
  obtain ⟨x3, y3⟩ := i64_of_wf w3
  clear hA0 hval0
  simp only [List.append_nil] at hW'
  refine (walk_wideSquares a0 a1 a2 a3 x0 y0 x1 y1 x2 y2 x3 y3 W).mono fun e W' ⟨he, bel⟩ => ?_
  subst he
  exact ⟨_, rfl, _, _, _, [], _, [], hW', trodAll_mk1 (shut_bool Try.underlying4 _), (trodAll_cons_mk (shut_int Try.underlying3 w0) (trodAll_cons_mk (shut_int Try.underlying3 w1) (trodAll_cons_mk (shut_int Try.underlying3 w2) (trodAll_cons_mk (shut_int Try.underlying3 w3) trodAll_mk0)))), rfl, Below.frame bel _, fun h => by cases h⟩

/-- The statement. -/
theorem wideSquares_holds : Rows.WideSquaresSaid :=
  OpenClaim.holds_of_wide 13 Try.f13 rfl rfl rfl rfl rfl rfl rfl ⟨rfl, rfl, rfl, rfl, rfl⟩ rfl rfl rfl rfl rfl (by kernel_rfl) Try.func13 (by kernel_rfl)
    (of_decide_eq_true (by kernel_rfl)) (by unfold Func.isWrapper; first | (rw [if_pos (by decide +kernel)]; kernel_rfl) | (rw [if_neg (by decide +kernel)]; exact ⟨rfl, rfl⟩))
    (fun os started H enc _ => lifted_wideSquares os started H enc)

end Go.Proofs.Ytihdmhdhdlbifaa
