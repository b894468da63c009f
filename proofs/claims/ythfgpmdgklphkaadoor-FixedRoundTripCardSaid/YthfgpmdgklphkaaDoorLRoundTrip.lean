
/- FixedRoundTrip: Parse reads what Format writes.
   Conditions: the listed tables lie as the program's own text lays them (the card ties them); every input. -/
import Derived.Test.YthfgpmdgklphkaaDoorFrameL
import Derived.Test.YthfgpmdgklphkaaDoorFxL
import Derived.Test.YthfgpmdgklphkaaDoorFxM
set_option linter.unusedVariables false
set_option linter.unusedSimpArgs false
namespace Go.Proofs.YthfgpmdgklphkaaDoor
open Go.ChangeShapes Go.WideShapes Go.ChangeAt Go.RowKit

theorem minusF (m : Int) (h : 0 < m) (w : World) : Calls Tryd.prog 45 #[.int .i64 m] w fun e w' => e = .returned (.string ⟨[45].toArray⟩) ∧ w = w' := by
  go_enter Tryd.func45, Tryd.ntmps45
  go_wp2
  go_ret
  exact ⟨rfl, rfl⟩
theorem minusZ (w : World) : Calls Tryd.prog 45 #[.int .i64 0] w fun e w' => e = .returned (.string { data := #[] }) ∧ w = w' := by
  go_enter Tryd.func45, Tryd.ntmps45
  go_wp2
  go_ret
  exact ⟨rfl, rfl⟩

theorem walk_fixedRoundTrip (n : Int) (n1 : -9223372036854775808 ≤ n) (n2 : n ≤ 9223372036854775807) (w : World) (ht : Tb w) : Calls Tryd.prog 9 #[.int .i64 n] w fun e w' => e = .returned (.bool true) ∧ Below w.heap.size w w' := by
  have q0 := Qw.refl w
  have HT := Lib.hid ht
  clear ht
  have n1 := fun w => betweenW n 0 999999999999999 n1 n2 (by omega) (by omega) (by omega) (by omega) w
  obtain ⟨A1, A2⟩ := btw_bd n 0 999999999999999 (by omega)
  have N1 := Lib.hid n1
  clear n1
  generalize 0 + n % (999999999999999 - 0 + 1) = m at *
  have fa := fun w => fxFormat m w
  have fb := fun w => fxFormat (-m) w
  have e1 : fmtl m = fmtp m := by unfold fmtl; rw [if_pos (vld_t (by omega) (by omega)), if_neg (by omega)]
  have fp := fmt_parse m A1 (by omega)
  have ln := fmtp_len m A1 (by omega)
  rw [e1] at fa
  obtain ⟨X, hX⟩ : ∃ X : ByteArray, X = ⟨(fmtp m).toArray⟩ := ⟨_, rfl⟩
  rw [← hX] at fa
  have xs : X.size ≤ 1010 := by rw [hX, mk_size]; exact ln
  have pa := fun w => fxParse X (Nat.le_trans xs (by decide)) w
  rw [show X.data.toList = fmtp m by rw [hX], fp.1, fp.2] at pa
  by_cases hm : 0 < m
  · have e2 : fmtl (-m) = [45] ++ fmtp m := by unfold fmtl; rw [if_pos (vld_t (by omega) (by omega)), if_pos (by omega), Int.neg_neg]; rfl
    rw [e2, ← str_append, ← hX] at fb
    have mi := fun w => minusF m hm w
    have FA := Lib.hid fa
    have FB := Lib.hid fb
    have PA := Lib.hid pa
    have MI := Lib.hid mi
    clear fa fb pa mi e1 e2 fp ln hX
    go_enter Tryd.func9, Tryd.ntmps9
    go_wp2_with (first | (go_at_call 18; ((with_reducible refine (awakeF _ (HT.out.kept q0)).mono ?_); rintro e w' ⟨rfl, h⟩; replace q0 := Qw.trans q0 h; clear h)) | (go_at_call 30; ((with_reducible refine (N1.out _).mono ?_); rintro e w' ⟨rfl, rfl⟩)) | (go_at_call 26; ((with_reducible refine (FA.out _ (HT.out.kept q0)).mono ?_); rintro e w' ⟨rfl, h⟩; replace q0 := Qw.trans q0 h; clear h)) | (go_at_call 26; ((with_reducible refine (FB.out _ (HT.out.kept q0)).mono ?_); rintro e w' ⟨rfl, h⟩; replace q0 := Qw.trans q0 h; clear h)) | (go_at_call 21; ((with_reducible refine (PA.out _).mono ?_); rintro e w' ⟨rfl, rfl⟩)) | (go_at_call 45; ((with_reducible refine (MI.out _).mono ?_); rintro e w' ⟨rfl, rfl⟩)))
    go_ret
    exact ⟨ret_bl (by first | rfl | simp), q0⟩
  · obtain rfl : m = 0 := by omega
    rw [show -(0 : Int) = 0 by decide, e1, ← hX] at fb
    have mi := fun w => minusZ w
    have FA := Lib.hid fa
    have FB := FA
    have PA := Lib.hid pa
    have MI := Lib.hid mi
    have xe : ({ data := #[] } : ByteArray) ++ X = X := by apply ByteArray.ext; simp
    clear fa fb pa mi e1 fp ln hX
    go_enter Tryd.func9, Tryd.ntmps9
    go_wp2_with (first | (go_at_call 18; ((with_reducible refine (awakeF _ (HT.out.kept q0)).mono ?_); rintro e w' ⟨rfl, h⟩; replace q0 := Qw.trans q0 h; clear h)) | (go_at_call 30; ((with_reducible refine (N1.out _).mono ?_); rintro e w' ⟨rfl, rfl⟩)) | (go_at_call 26; ((with_reducible refine (FA.out _ (HT.out.kept q0)).mono ?_); rintro e w' ⟨rfl, h⟩; replace q0 := Qw.trans q0 h; clear h)) | (go_at_call 26; ((with_reducible refine (FB.out _ (HT.out.kept q0)).mono ?_); rintro e w' ⟨rfl, h⟩; replace q0 := Qw.trans q0 h; clear h)) | (go_at_call 21; ((with_reducible refine (PA.out _).mono ?_); rintro e w' ⟨rfl, rfl⟩)) | (go_at_call 45; ((with_reducible refine (MI.out _).mono ?_); rintro e w' ⟨rfl, rfl⟩)))
    go_ret
    exact ⟨ret_bl (by first | rfl | simp), q0⟩

/-! ### the row and the card -/
theorem reads_fixedRoundTrip (os : Os) {H : Type} (enc : TypeId × Value → H) : ∃ places, DataW.whole enc Tryd.prog ((laidWorldL os).forCall (fun _ _ => 0) ⟨#[], #[.int .i64 0], []⟩).memory Tryd.f9.params.toList Rows.fixedRoundTripSpec.vars false #[(.int .i64 0 : Value)].toList 8 = some ([.lit (.int .i64 0)], [], places) :=
  ⟨[], by kernel_rfl⟩
set_option maxRecDepth 100000 in
theorem lifted_fixedRoundTrip (os : Os) (started : os.Started) (H : Type) (enc : TypeId × Value → H) (F : Stop.Interp) :
    ReturnsInHanded {} Tryd.checked os 9 .any ((OpenSpec.ofChange Rows.fixedRoundTripSpec).preRow enc Tryd.prog Tryd.f9 Rows.fixedRoundTripRow.domain false Rows.fixedRoundTripRow.laid) (((OpenSpec.ofChange Rows.fixedRoundTripSpec).at F).post enc Tryd.prog Tryd.f9 false true false false) := by
  obtain ⟨places, hx⟩ := reads_fixedRoundTrip os enc
  refine returnsInHanded_of_row (C := Tryd.checked) (s := OpenSpec.ofChange Rows.fixedRoundTripSpec) ownL started (by kernel_rfl) Tryd.func9
    (witness_row_at (enc := enc) (C := Tryd.checked) false (laidWorldL os) #[.int .i64 0] rfl (by kernel_rfl) (by kernel_rfl) (by kernel_rfl)
      (OpenSpec.preRow_of_cond 8 hx (by kernel_rfl) (fun k hk => by cases hk) (by kernel_rfl) (laid_metL os _))) ?_
  intro W base args ds gs before hval0 hW _ _ _ hL _ _
  have ht : Tb W := tableL hL
  have hval : ∀ (j : Nat) t v, Tryd.f9.params[j]? = some t → args[j]? = some v → Value.okWide Tryd.prog W .any base t v := hval0
  have hW' := hW
  obtain ⟨p, q, hA0, hV, rfl, hfz, hnd⟩ := hW
  have hA : DataW.TrodAll enc Tryd.prog W 0 (fun _ => true) true Tryd.f9.params.toList args.toList ds p := hA0
  rw [Tryd.params9] at hA hval
  obtain ⟨v0, vs0, d0, ds0, p0, q0, hargs, rfl, rfl, h0, r0⟩ := trodAll_cons hA
  obtain ⟨rfl, rfl, rfl⟩ := trodAll_nil r0
  obtain rfl : args = #[v0] := by cases args; simp_all
  obtain ⟨rfl, rfl⟩ := trodVars_none hV
  obtain ⟨a0, rfl, rfl, rfl, w0⟩ := open_int Tryd.underlying3 (hval 0 3 v0 rfl rfl) h0
  obtain ⟨x0, y0⟩ := i64_of_wf w0
  clear hA0 hval0 hL
  simp only [List.append_nil] at hW'
  refine (walk_fixedRoundTrip a0 x0 y0 W ht).mono fun e W' ⟨he, bel⟩ => ?_
  subst he
  exact ⟨_, rfl, _, _, _, [], _, [], hW', trodAll_mk1 (shut_bool Tryd.underlying4 _), (trodAll_cons_mk (shut_int Tryd.underlying3 w0) trodAll_mk0), rfl, Below.frame bel _, fun h => by cases h⟩

theorem fixedRoundTrip_said : Rows.FixedRoundTripSaid :=
  OpenClaim.holds_of_cond 9 Tryd.f9 rfl rfl rfl rfl rfl rfl rfl ⟨rfl, rfl, rfl, rfl, rfl⟩ rfl rfl rfl rfl rfl (by kernel_rfl) Tryd.func9 (by kernel_rfl)
    (of_decide_eq_true (by kernel_rfl)) (by unfold Func.isWrapper; first | (rw [if_pos (by decide +kernel)]; kernel_rfl) | (rw [if_neg (by decide +kernel)]; exact ⟨rfl, rfl⟩))
    (fun os started H enc _ F => by rw [OpenClaim.pre_eq_preRow]; exact lifted_fixedRoundTrip os started H enc F)

theorem plain_fixedRoundTrip (f : FuncId) (fn : Func) (hf : Tryd.pinned.checked.prog.funcNamed "cnc/cnclaw02.FixedRoundTrip" = some f) (hfn : Tryd.pinned.checked.prog.funcs[f]? = some fn) :
    false = Tryd.pinned.checked.prog.looks [] ∧ ∀ (j : Nat) t, fn.params[j]? = some t → Tryd.pinned.checked.prog.wantsStandIn t = false := by
  obtain rfl : f = 9 := Option.some.inj ((show Tryd.prog.funcNamed "cnc/cnclaw02.FixedRoundTrip" = some 9 by kernel_rfl).symm.trans hf) |>.symm
  obtain rfl : fn = Tryd.f9 := (Option.some.inj (Tryd.func9.symm.trans hfn)).symm
  refine ⟨by kernel_rfl, fun j t ht => ?_⟩
  rw [Tryd.params9] at ht
  obtain rfl : t = 3 := by simpa using Array.mem_of_getElem? ht
  exact (show Tryd.prog.wantsStandIn 3 = false by kernel_rfl)

/-- The statement. -/
theorem fixedRoundTrip_card : Rows.FixedRoundTripCardSaid :=
  Claim7.holds_tied_plain_at .later [] _ _ _ _ fixedRoundTrip_said (fun _ h => by cases h) (by kernel_rfl) (fun _ h => by cases h) fixedRoundTrip_row_tie rfl ⟨rfl, rfl⟩ (by kernel_rfl) rfl plain_fixedRoundTrip (by kernel_rfl)

end Go.Proofs.YthfgpmdgklphkaaDoor
