
/- FixedRemainders: a remainder is less than the divisor and differs from the dividend by a multiple.
   Conditions: the listed tables lie as the program's own text lays them (the card ties them); every input. -/
import Derived.Test.YthfgpmdgklphkaaDoorFrameL
import Derived.Test.YthfgpmdgklphkaaDoorFxL
import Derived.Test.YthfgpmdgklphkaaDoorFxM
set_option linter.unusedVariables false
set_option linter.unusedSimpArgs false
namespace Go.Proofs.YthfgpmdgklphkaaDoor
open Go.ChangeShapes Go.WideShapes Go.ChangeAt Go.RowKit

theorem walk_fixedRemainders (a : Int) (a1 : -9223372036854775808 ≤ a) (a2 : a ≤ 9223372036854775807) (b : Int) (b1 : -9223372036854775808 ≤ b) (b2 : b ≤ 9223372036854775807) (w : World) (ht : Tb w) : Calls Tryd.prog 13 #[.int .i64 a, .int .i64 b] w fun e w' => e = .returned (.bool true) ∧ Below w.heap.size w w' := by
  have q0 := Qw.refl w
  have HT := Lib.hid ht
  clear ht
  obtain ⟨A1, A2⟩ := nb_bd a
  obtain ⟨B1, B2⟩ := nb_bd b
  have n1 := fun w => numF a a1 a2 w
  have n2 := fun w => numF b b1 b2 w
  have N1 := Lib.hid n1
  have N2 := Lib.hid n2
  clear n1 n2
  generalize nb a = A at *
  generalize nb b = B at *
  have k1 := fun w => fxMod A B w
  obtain ⟨z, nz⟩ := mod_cases A B (vld_t A1 A2) (vld_t B1 B2)
  by_cases hB : B = 0
  · obtain ⟨e1, e2⟩ := z hB
    rw [e1, e2] at k1
    have K1 := Lib.hid k1
    have zb : (B == 0) = true := by rw [beq_iff_eq]; exact hB
    clear k1 e1 e2 z nz hB
    go_enter Tryd.func13, Tryd.ntmps13
    go_wp2_with (first | (go_at_call 18; ((with_reducible refine (awakeF _ (HT.out.kept q0)).mono ?_); rintro e w' ⟨rfl, h⟩; replace q0 := Qw.trans q0 h; clear h)) | (go_at_call 23; ((with_reducible refine (N1.out _).mono ?_); rintro e w' ⟨rfl, rfl⟩)) | (go_at_call 23; ((with_reducible refine (N2.out _).mono ?_); rintro e w' ⟨rfl, rfl⟩)) | (go_at_call 51; ((with_reducible refine (K1.out _).mono ?_); rintro e w' ⟨rfl, rfl⟩)))
    go_ret
    exact ⟨rfl, q0⟩
  · obtain ⟨e1, e2⟩ := nz hB
    rw [e1, e2] at k1
    have K1 := Lib.hid k1
    have zb : (B == 0) = false := beq_eq_false_iff_ne.2 hB
    have r0 : 0 ≤ A % B := Int.emod_nonneg _ hB
    have d := Int.emod_add_mul_ediv A B
    have r1 : A % B < max B (-B) := by
      by_cases c : 0 < B
      · have := Int.emod_lt_of_pos A c; omega
      · have := Int.emod_lt_of_pos A (show 0 < -B by omega); rw [Int.emod_neg] at this; omega
    have dv : (A - A % B).tmod B = 0 := Int.tmod_eq_zero_of_dvd ⟨A / B, by omega⟩
    have dv2 : (A - A % B) % B = 0 := Int.emod_eq_zero_of_dvd ⟨A / B, by omega⟩
    have l : A % B ≤ 1000000000000000 := by omega
    have dw := Lib.hid d
    clear k1 e1 e2 z nz hB d
    generalize A % B = R at *
    have r2 : decide (R < max B (-B)) = true := decide_eq_true r1
    go_enter Tryd.func13, Tryd.ntmps13
    go_wp2_with (first | (go_at_call 18; ((with_reducible refine (awakeF _ (HT.out.kept q0)).mono ?_); rintro e w' ⟨rfl, h⟩; replace q0 := Qw.trans q0 h; clear h)) | (go_at_call 23; ((with_reducible refine (N1.out _).mono ?_); rintro e w' ⟨rfl, rfl⟩)) | (go_at_call 23; ((with_reducible refine (N2.out _).mono ?_); rintro e w' ⟨rfl, rfl⟩)) | (go_at_call 51; ((with_reducible refine (K1.out _).mono ?_); rintro e w' ⟨rfl, rfl⟩)))
    go_ret
    exact ⟨ret_bl (by first | rfl | simp [dv, dv2]), q0⟩

/-! ### the row and the card -/
theorem reads_fixedRemainders (os : Os) {H : Type} (enc : TypeId × Value → H) : ∃ places, DataW.whole enc Tryd.prog ((laidWorldL os).forCall (fun _ _ => 0) ⟨#[], #[.int .i64 0, .int .i64 0], []⟩).memory Tryd.f13.params.toList Rows.fixedRemaindersSpec.vars false #[(.int .i64 0 : Value), .int .i64 0].toList 8 = some ([.lit (.int .i64 0), .lit (.int .i64 0)], [], places) :=
  ⟨[], by kernel_rfl⟩
set_option maxRecDepth 100000 in
theorem lifted_fixedRemainders (os : Os) (started : os.Started) (H : Type) (enc : TypeId × Value → H) (F : Stop.Interp) :
    ReturnsInHanded {} Tryd.checked os 13 .any ((OpenSpec.ofChange Rows.fixedRemaindersSpec).preRow enc Tryd.prog Tryd.f13 Rows.fixedRemaindersRow.domain false Rows.fixedRemaindersRow.laid) (((OpenSpec.ofChange Rows.fixedRemaindersSpec).at F).post enc Tryd.prog Tryd.f13 false true false false) := by
  obtain ⟨places, hx⟩ := reads_fixedRemainders os enc
  refine returnsInHanded_of_row (C := Tryd.checked) (s := OpenSpec.ofChange Rows.fixedRemaindersSpec) ownL started (by kernel_rfl) Tryd.func13
    (witness_row_at (enc := enc) (C := Tryd.checked) false (laidWorldL os) #[.int .i64 0, .int .i64 0] rfl (by kernel_rfl) (by kernel_rfl) (by kernel_rfl)
      (OpenSpec.preRow_of_cond 8 hx (by kernel_rfl) (fun k hk => by cases hk) (by kernel_rfl) (laid_metL os _))) ?_
  intro W base args ds gs before hval0 hW _ _ _ hL _ _
  have ht : Tb W := tableL hL
  have hval : ∀ (j : Nat) t v, Tryd.f13.params[j]? = some t → args[j]? = some v → Value.okWide Tryd.prog W .any base t v := hval0
  have hW' := hW
  obtain ⟨p, q, hA0, hV, rfl, hfz, hnd⟩ := hW
  have hA : DataW.TrodAll enc Tryd.prog W 0 (fun _ => true) true Tryd.f13.params.toList args.toList ds p := hA0
  rw [Tryd.params13] at hA hval
  obtain ⟨v0, vs0, d0, ds0, p0, q0, hargs, rfl, rfl, h0, r0⟩ := trodAll_cons hA
  obtain ⟨v1, vs1, d1, ds1, p1, q1, rfl, rfl, rfl, h1, r1⟩ := trodAll_cons r0
  obtain ⟨rfl, rfl, rfl⟩ := trodAll_nil r1
  obtain rfl : args = #[v0, v1] := by cases args; simp_all
  obtain ⟨rfl, rfl⟩ := trodVars_none hV
  obtain ⟨a0, rfl, rfl, rfl, w0⟩ := open_int Tryd.underlying3 (hval 0 3 v0 rfl rfl) h0
  obtain ⟨x0, y0⟩ := i64_of_wf w0
  obtain ⟨a1, rfl, rfl, rfl, w1⟩ := open_int Tryd.underlying3 (hval 1 3 v1 rfl rfl) h1
  obtain ⟨x1, y1⟩ := i64_of_wf w1
  clear hA0 hval0 hL
  simp only [List.append_nil] at hW'
  refine (walk_fixedRemainders a0 x0 y0 a1 x1 y1 W ht).mono fun e W' ⟨he, bel⟩ => ?_
  subst he
  exact ⟨_, rfl, _, _, _, [], _, [], hW', trodAll_mk1 (shut_bool Tryd.underlying4 _), (trodAll_cons_mk (shut_int Tryd.underlying3 w0) (trodAll_cons_mk (shut_int Tryd.underlying3 w1) trodAll_mk0)), rfl, Below.frame bel _, fun h => by cases h⟩

theorem fixedRemainders_said : Rows.FixedRemaindersSaid :=
  OpenClaim.holds_of_cond 13 Tryd.f13 rfl rfl rfl rfl rfl rfl rfl ⟨rfl, rfl, rfl, rfl, rfl⟩ rfl rfl rfl rfl rfl (by kernel_rfl) Tryd.func13 (by kernel_rfl)
    (of_decide_eq_true (by kernel_rfl)) (by unfold Func.isWrapper; first | (rw [if_pos (by decide +kernel)]; kernel_rfl) | (rw [if_neg (by decide +kernel)]; exact ⟨rfl, rfl⟩))
    (fun os started H enc _ F => by rw [OpenClaim.pre_eq_preRow]; exact lifted_fixedRemainders os started H enc F)

theorem plain_fixedRemainders (f : FuncId) (fn : Func) (hf : Tryd.pinned.checked.prog.funcNamed "cnc/cnclaw02.FixedRemainders" = some f) (hfn : Tryd.pinned.checked.prog.funcs[f]? = some fn) :
    false = Tryd.pinned.checked.prog.looks [] ∧ ∀ (j : Nat) t, fn.params[j]? = some t → Tryd.pinned.checked.prog.wantsStandIn t = false := by
  obtain rfl : f = 13 := Option.some.inj ((show Tryd.prog.funcNamed "cnc/cnclaw02.FixedRemainders" = some 13 by kernel_rfl).symm.trans hf) |>.symm
  obtain rfl : fn = Tryd.f13 := (Option.some.inj (Tryd.func13.symm.trans hfn)).symm
  refine ⟨by kernel_rfl, fun j t ht => ?_⟩
  rw [Tryd.params13] at ht
  obtain rfl : t = 3 := by simpa using Array.mem_of_getElem? ht
  exact (show Tryd.prog.wantsStandIn 3 = false by kernel_rfl)

/-- The statement. -/
theorem fixedRemainders_card : Rows.FixedRemaindersCardSaid :=
  Claim7.holds_tied_plain_at .later [] _ _ _ _ fixedRemainders_said (fun _ h => by cases h) (by kernel_rfl) (fun _ h => by cases h) fixedRemainders_row_tie rfl ⟨rfl, rfl⟩ (by kernel_rfl) rfl plain_fixedRemainders (by kernel_rfl)

end Go.Proofs.YthfgpmdgklphkaaDoor
