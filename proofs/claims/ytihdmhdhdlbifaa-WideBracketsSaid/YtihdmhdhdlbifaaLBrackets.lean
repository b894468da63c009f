/- WideBrackets: a number lies between the squares of its rounded roots.
   Conditions: none; every input. -/
import Derived.Test.YtihdmhdhdlbifaaFrame
import Derived.Test.YtihdmhdhdlbifaaPlain
set_option linter.unusedVariables false
set_option linter.unusedSimpArgs false
namespace Go.Proofs.Ytihdmhdhdlbifaa
open Go.ChangeShapes Go.WideShapes Go.ChangeAt Go.RowKit

theorem walk_wideBrackets (n : Int) (n1 : -9223372036854775808 ≤ n) (n2 : n ≤ 9223372036854775807) (w : World) :
    Calls Try.prog 11 #[.int .i64 n] w fun e w' => e = .returned (.bool true) ∧ Below w.heap.size w w' := by
  have q0 := Qw.refl w
  by_cases hn : n < 0
  · have dn : decide (n < 0) = true := decide_eq_true hn
    have c0 : ∀ w, Calls Try.prog 23 #[.int .i64 n, .int .i64 0] w fun e w' => e = .returned (.tuple #[.int .i64 0, .bool false]) ∧ Qw w w' := fun w => by
      have := sqrtW n 0 (by omega) (by omega) w
      rw [show rtv n 1 0 = 0 from if_pos (.inl hn), show rtok n 1 0 = false from if_pos (.inl hn)] at this; exact this
    have C0 := Lib.hid c0
    clear c0
    go_enter Try.func11, Try.ntmps11
    go_wp2_with (first | (go_at_call 23; ((with_reducible refine (C0.out _).mono ?_); rintro e w' ⟨rfl, h⟩; replace q0 := Qw.trans q0 h; clear h)) | (go_at_call 17; ((with_reducible refine (awakeW _).mono ?_); rintro e w' ⟨rfl, h⟩; replace q0 := Qw.trans q0 h; clear h)))
    go_ret
    exact ⟨rfl, q0⟩
  have dn : decide (n < 0) = false := decide_eq_false hn
  obtain ⟨r, r0, r1, v0, k1, k2, hh⟩ := brackets_plain n (by omega) n2
  have o0 := (sqrt_plain n 0 (by omega) n2 (by omega) (by omega)).1
  have o1 := (sqrt_plain n 1 (by omega) n2 (by omega) (by omega)).1
  have o2 := (sqrt_plain n 2 (by omega) n2 (by omega) (by omega)).1
  have c0 := fun w => sqrtW n 0 n1 n2 w
  have c1 := fun w => sqrtW n 1 n1 n2 w
  have c2 := fun w => sqrtW n 2 n1 n2 w
  rw [v0, o0] at c0
  rw [o1] at c1
  rw [o2] at c2
  generalize rtv n 1 1 = y at *
  generalize rtv n 1 2 = z at *
  have c3 := fun w => cmpW r r n 1 (by omega) (by omega) (by omega) (by omega) (by omega) (by omega) (by omega) (by omega) w
  have c4 := fun w => cmpW (r + 1) (r + 1) n 1 (by omega) (by omega) (by omega) (by omega) (by omega) (by omega) (by omega) (by omega) w
  generalize cmpI (r * r) (n * 1) = k at *
  generalize cmpI ((r + 1) * (r + 1)) (n * 1) = l at *
  have d0 : decide (r < 0) = false := decide_eq_false (by omega)
  have d1 : decide (k ≤ 0) = true := decide_eq_true k1
  have d2 : decide (0 < l) = true := decide_eq_true k2
  have C0 := Lib.hid c0; have C1 := Lib.hid c1; have C2 := Lib.hid c2; have C3 := Lib.hid c3; have C4 := Lib.hid c4
  clear c0 c1 c2 c3 c4 v0 o0 o1 o2
  rcases hh with ⟨rfl, rfl, k3⟩ | ⟨rfl, hz⟩
  · have d3 : decide (0 ≤ k) = true := decide_eq_true k3
    go_enter Try.func11, Try.ntmps11
    go_wp2_with (first | (go_at_call 23; ((with_reducible refine (C0.out _).mono ?_); rintro e w' ⟨rfl, h⟩; replace q0 := Qw.trans q0 h; clear h)) | (go_at_call 23; ((with_reducible refine (C1.out _).mono ?_); rintro e w' ⟨rfl, h⟩; replace q0 := Qw.trans q0 h; clear h)) | (go_at_call 23; ((with_reducible refine (C2.out _).mono ?_); rintro e w' ⟨rfl, h⟩; replace q0 := Qw.trans q0 h; clear h)) | (go_at_call 18; ((with_reducible refine (C3.out _).mono ?_); rintro e w' ⟨rfl, h⟩; replace q0 := Qw.trans q0 h; clear h)) | (go_at_call 18; ((with_reducible refine (C4.out _).mono ?_); rintro e w' ⟨rfl, h⟩; replace q0 := Qw.trans q0 h; clear h)) | (go_at_call 17; ((with_reducible refine (awakeW _).mono ?_); rintro e w' ⟨rfl, h⟩; replace q0 := Qw.trans q0 h; clear h)))
    go_ret
    exact ⟨rfl, q0⟩
  · have b1 : (r + 1 == r) = false := beq_eq_false_iff_ne.2 (by omega)
    have b2 : (r == r + 1) = false := beq_eq_false_iff_ne.2 (by omega)
    have d3 : decide (0 ≤ l) = true := decide_eq_true (by omega)
    rcases hz with rfl | rfl
    · go_enter Try.func11, Try.ntmps11
      go_wp2_with (first | (go_at_call 23; ((with_reducible refine (C0.out _).mono ?_); rintro e w' ⟨rfl, h⟩; replace q0 := Qw.trans q0 h; clear h)) | (go_at_call 23; ((with_reducible refine (C1.out _).mono ?_); rintro e w' ⟨rfl, h⟩; replace q0 := Qw.trans q0 h; clear h)) | (go_at_call 23; ((with_reducible refine (C2.out _).mono ?_); rintro e w' ⟨rfl, h⟩; replace q0 := Qw.trans q0 h; clear h)) | (go_at_call 18; ((with_reducible refine (C3.out _).mono ?_); rintro e w' ⟨rfl, h⟩; replace q0 := Qw.trans q0 h; clear h)) | (go_at_call 18; ((with_reducible refine (C4.out _).mono ?_); rintro e w' ⟨rfl, h⟩; replace q0 := Qw.trans q0 h; clear h)) | (go_at_call 17; ((with_reducible refine (awakeW _).mono ?_); rintro e w' ⟨rfl, h⟩; replace q0 := Qw.trans q0 h; clear h)))
      go_ret
      exact ⟨rfl, q0⟩
    · go_enter Try.func11, Try.ntmps11
      go_wp2_with (first | (go_at_call 23; ((with_reducible refine (C0.out _).mono ?_); rintro e w' ⟨rfl, h⟩; replace q0 := Qw.trans q0 h; clear h)) | (go_at_call 23; ((with_reducible refine (C1.out _).mono ?_); rintro e w' ⟨rfl, h⟩; replace q0 := Qw.trans q0 h; clear h)) | (go_at_call 23; ((with_reducible refine (C2.out _).mono ?_); rintro e w' ⟨rfl, h⟩; replace q0 := Qw.trans q0 h; clear h)) | (go_at_call 18; ((with_reducible refine (C3.out _).mono ?_); rintro e w' ⟨rfl, h⟩; replace q0 := Qw.trans q0 h; clear h)) | (go_at_call 18; ((with_reducible refine (C4.out _).mono ?_); rintro e w' ⟨rfl, h⟩; replace q0 := Qw.trans q0 h; clear h)) | (go_at_call 17; ((with_reducible refine (awakeW _).mono ?_); rintro e w' ⟨rfl, h⟩; replace q0 := Qw.trans q0 h; clear h)))
      go_ret
      exact ⟨rfl, q0⟩

/-! ### the row -/
theorem own_wideBrackets : ownKnob Try.prog.godebug = none := by kernel_rfl
set_option maxRecDepth 100000 in
theorem lifted_wideBrackets (os : Os) (started : os.Started) (H : Type) (enc : TypeId × Value → H) :
    ReturnsInHanded {} Try.checked os 11 .any (Rows.wideBracketsSpec.pre6 enc Try.prog Try.f11 Rows.wideBracketsRow.domain false) (Rows.wideBracketsSpec.post enc Try.prog Try.f11 false true false false) := by
  refine returnsInHanded_of_change (C := Try.checked) own_wideBrackets started (by kernel_rfl) Try.func11
    (ChangeSpec.witness6 (enc := enc) (C := Try.checked) false ⟨#[], #[.int .i64 0], []⟩ 8 (by kernel_rfl) (by kernel_rfl) (by kernel_rfl) (by kernel_rfl)) ?_
  intro W base args ds gs before hval0 hW hcnd _
  have hval : ∀ (j : Nat) t v, Try.f11.params[j]? = some t → args[j]? = some v → Value.okWide Try.prog W .any base t v := hval0
  have hW' := hW
  obtain ⟨p, q, hA0, hV, rfl, hfz, hnd⟩ := hW
  have hA : DataW.TrodAll enc Try.prog W 0 (fun _ => true) true Try.f11.params.toList args.toList ds p := hA0
  rw [Try.params11] at hA hval
  obtain ⟨v0, vs0, d0, ds0, p0, q0, hargs, rfl, rfl, h0, r0⟩ := trodAll_cons hA
  obtain ⟨rfl, rfl, rfl⟩ := trodAll_nil r0
  obtain rfl : args = #[v0] := by cases args; simp_all
  obtain ⟨rfl, rfl⟩ := trodVars_none hV
  obtain ⟨a0, rfl, rfl, rfl, w0⟩ := open_int Try.underlying3 (hval 0 3 v0 rfl rfl) h0
  obtain ⟨x0, y0⟩ := i64_of_wf w0
  clear hA0 hval0
  simp only [List.append_nil] at hW'
  refine (walk_wideBrackets a0 x0 y0 W).mono fun e W' ⟨he, bel⟩ => ?_
  subst he
  exact ⟨_, rfl, _, _, _, [], _, [], hW', trodAll_mk1 (shut_bool Try.underlying4 _), (trodAll_cons_mk (shut_int Try.underlying3 w0) trodAll_mk0), rfl, Below.frame bel _, fun h => by cases h⟩

/-- The statement. -/
theorem wideBrackets_holds : Rows.WideBracketsSaid :=
  OpenClaim.holds_of_wide 11 Try.f11 rfl rfl rfl rfl rfl rfl rfl ⟨rfl, rfl, rfl, rfl, rfl⟩ rfl rfl rfl rfl rfl (by kernel_rfl) Try.func11 (by kernel_rfl)
    (of_decide_eq_true (by kernel_rfl)) (by unfold Func.isWrapper; first | (rw [if_pos (by decide +kernel)]; kernel_rfl) | (rw [if_neg (by decide +kernel)]; exact ⟨rfl, rfl⟩))
    (fun os started H enc _ => lifted_wideBrackets os started H enc)

end Go.Proofs.Ytihdmhdhdlbifaa
