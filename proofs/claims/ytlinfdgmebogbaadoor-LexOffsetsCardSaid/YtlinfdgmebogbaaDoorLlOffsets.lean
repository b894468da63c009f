
/- LexOffsets of layer 5: the tokens of any text of at most 200 bytes, and of any line that a tape gives, stand in ascending order at their offsets, and what stands there is what they say; or there is an error at an offset of the text.
   Conditions: the listed table lies as the program's own text lays it (the card ties it); every input. -/
import Derived.Test.YtlinfdgmebogbaaDoorFrameJ
import Derived.Test.YtlinfdgmebogbaaDoorLoA
import Derived.Test.YtlinfdgmebogbaaDoorLoB
set_option linter.unusedVariables false
set_option linter.unusedSimpArgs false
namespace Go.Proofs.YtlinfdgmebogbaaDoor
open Go.ChangeShapes Go.WideShapes Go.ChangeAt Go.RowKit

set_option maxRecDepth 100000 in
set_option maxHeartbeats 2000000 in
theorem walk_lexOffsets (s : ByteArray) (hs : s.size ≤ maxLen) (v : Value) (zs : List Int) (w : World) (hv : IntsB w.heap.size w v zs) (ht : Tn w) :
    Calls Tryd.prog 6 #[.string s, v] w fun e w' => e = .returned (.bool true) ∧ Qw w w' := by
  have hm : s.size ≤ 9223372036854775807 := hs
  by_cases h2 : s.size ≤ 200
  · by_cases hl : zs.length ≤ 120
    · by_cases hr : 0 < nxt zs 0 3
      · exact offsets_A s hm v zs w hv ht h2 hl hr
      · exact offsets_B s hm v zs w hv ht h2 hl hr
    · have HV := Lib.hid hv
      have HT := Lib.hid ht
      have QQ := Lib.hid (Qw.refl w)
      clear hv ht
      have d1 : decide ((200 : Int) < (s.size : Int)) = false := decide_eq_false (by omega)
      have d2 : decide (zs.length ≤ 120) = false := decide_eq_false hl
      go_enter Tryd.func6, Tryd.ntmps6
      go_wp2_with (first | (go_at_call 10; ((with_reducible refine (lightF _ _ _ _ HV.out).mono ?_); rintro e w' ⟨rfl, rfl⟩)) | (go_at_call 11; ((with_reducible refine (awakeL _ (HT.out.kept QQ.out)).mono ?_); rintro e w9 ⟨rfl, q⟩; replace QQ := Lib.hid (QQ.out.trans q); clear q)))
      go_ret
      exact ⟨rfl, QQ.out⟩
  · have HV := Lib.hid hv
    have HT := Lib.hid ht
    have QQ := Lib.hid (Qw.refl w)
    clear hv ht
    have d1 : decide ((200 : Int) < (s.size : Int)) = true := decide_eq_true (by omega)
    go_enter Tryd.func6, Tryd.ntmps6
    go_wp2_with (first | (go_at_call 10; ((with_reducible refine (lightF _ _ _ _ HV.out).mono ?_); rintro e w' ⟨rfl, rfl⟩)) | (go_at_call 11; ((with_reducible refine (awakeL _ (HT.out.kept QQ.out)).mono ?_); rintro e w9 ⟨rfl, q⟩; replace QQ := Lib.hid (QQ.out.trans q); clear q)))
    go_ret
    exact ⟨rfl, QQ.out⟩

/-! ### the row and the card -/
theorem reads_lexOffsets (os : Os) {H : Type} (enc : TypeId × Value → H) : ∃ places, DataW.whole enc Tryd.prog ((laidWorldN os).forCall (fun _ _ => 0) ⟨#[], #[.string { data := #[] }, .slice none 0 0], []⟩).memory Tryd.f6.params.toList Rows.lexOffsetsSpec.vars false #[(.string { data := #[] } : Value), .slice none 0 0].toList 8 = some ([.lit (.string []), .nil], [], places) :=
  ⟨[], by kernel_rfl⟩
set_option maxRecDepth 100000 in
theorem lifted_lexOffsets (os : Os) (started : os.Started) (H : Type) (enc : TypeId × Value → H) (F : Stop.Interp) :
    ReturnsInHanded {} Tryd.checked os 6 .any ((OpenSpec.ofChange Rows.lexOffsetsSpec).preRow enc Tryd.prog Tryd.f6 Rows.lexOffsetsRow.domain false Rows.lexOffsetsRow.laid) (((OpenSpec.ofChange Rows.lexOffsetsSpec).at F).post enc Tryd.prog Tryd.f6 false true false false) := by
  obtain ⟨places, hx⟩ := reads_lexOffsets os enc
  refine returnsInHanded_of_row (C := Tryd.checked) (s := OpenSpec.ofChange Rows.lexOffsetsSpec) ownN started (by kernel_rfl) Tryd.func6
    (witness_row_at (enc := enc) (C := Tryd.checked) false (laidWorldN os) #[.string { data := #[] }, .slice none 0 0] rfl (by kernel_rfl) (by kernel_rfl) (by kernel_rfl)
      (OpenSpec.preRow_of_cond 8 hx (by kernel_rfl) (fun k hk => by cases hk) (by kernel_rfl) (laid_metN os _))) ?_
  intro W base args ds gs before hval0 hW _ _ _ hL _ _
  have ht : Tn W := tableN hL
  have hval : ∀ (j : Nat) t v, Tryd.f6.params[j]? = some t → args[j]? = some v → Value.okWide Tryd.prog W .any base t v := hval0
  have hW' := hW
  obtain ⟨p, q, hA0, hV, rfl, hfz, hnd⟩ := hW
  have hA : DataW.TrodAll enc Tryd.prog W 0 (fun _ => true) true Tryd.f6.params.toList args.toList ds p := hA0
  rw [Tryd.params6] at hA hval
  obtain ⟨v0, vs0, d0, ds0, p0, q0, hargs, rfl, rfl, h0, r0⟩ := trodAll_cons hA
  obtain ⟨v1, vs1, d1, ds1, p1, q1, rfl, rfl, rfl, h1, r1⟩ := trodAll_cons r0
  obtain ⟨rfl, rfl, rfl⟩ := trodAll_nil r1
  obtain rfl : args = #[v0, v1] := by cases args; simp_all
  obtain ⟨rfl, rfl⟩ := trodVars_none hV
  obtain ⟨a0, rfl, rfl, rfl, w0⟩ := Go.ChangeMaps.open_string Tryd.underlying9 (hval 0 9 v0 rfl rfl) h0
  obtain ⟨u1, hu1⟩ := in_ints (hval 1 22 v1 rfl rfl) h1
  clear hA0 hval0 hL
  simp only [List.append_nil] at hW'
  refine (walk_lexOffsets a0 w0 v1 u1 W hu1 ht).mono fun e W' ⟨he, bel⟩ => ?_
  subst he
  exact ⟨_, rfl, _, _, _, [], _, [], hW', trodAll_mk1 (shut_bool Tryd.underlying4 _), (trodAll_cons_mk (Go.ChangeMaps.shut_string Tryd.underlying9 w0) (trodAll_cons_mk (out_ints h1 bel (fun x hx => hW'.lt x (by first | exact hx | simp [hx]))) trodAll_mk0)), rfl, Below.frame bel _, fun h => by cases h⟩

theorem lexOffsets_said : Rows.LexOffsetsSaid :=
  OpenClaim.holds_of_cond 6 Tryd.f6 rfl rfl rfl rfl rfl rfl rfl ⟨rfl, rfl, rfl, rfl, rfl⟩ rfl rfl rfl rfl rfl (by kernel_rfl) Tryd.func6 (by kernel_rfl)
    (of_decide_eq_true (by kernel_rfl)) (by unfold Func.isWrapper; first | (rw [if_pos (by decide +kernel)]; kernel_rfl) | (rw [if_neg (by decide +kernel)]; exact ⟨rfl, rfl⟩))
    (fun os started H enc _ F => by rw [OpenClaim.pre_eq_preRow]; exact lifted_lexOffsets os started H enc F)

theorem plain_lexOffsets (f : FuncId) (fn : Func) (hf : Tryd.pinned.checked.prog.funcNamed "cnc/cnclaw05.LexOffsets" = some f) (hfn : Tryd.pinned.checked.prog.funcs[f]? = some fn) :
    false = Tryd.pinned.checked.prog.looks [] ∧ ∀ (j : Nat) t, fn.params[j]? = some t → Tryd.pinned.checked.prog.wantsStandIn t = false := by
  obtain rfl : f = 6 := Option.some.inj ((show Tryd.prog.funcNamed "cnc/cnclaw05.LexOffsets" = some 6 by kernel_rfl).symm.trans hf) |>.symm
  obtain rfl : fn = Tryd.f6 := (Option.some.inj (Tryd.func6.symm.trans hfn)).symm
  refine ⟨by kernel_rfl, fun j t ht => ?_⟩
  rw [Tryd.params6] at ht
  have hm : t = 9 ∨ t = 22 := by simpa using Array.mem_of_getElem? ht
  rcases hm with rfl | rfl
  · exact (show Tryd.prog.wantsStandIn 9 = false by kernel_rfl)
  · exact (show Tryd.prog.wantsStandIn 22 = false by kernel_rfl)

/-- The statement. -/
theorem lexOffsets_card : Rows.LexOffsetsCardSaid :=
  Claim7.holds_tied_plain_at .later [] _ _ _ _ lexOffsets_said (fun _ h => by cases h) (by kernel_rfl) (fun _ h => by cases h) lexOffsets_row_tie rfl ⟨rfl, rfl⟩ (by kernel_rfl) rfl plain_lexOffsets (by kernel_rfl)

end Go.Proofs.YtlinfdgmebogbaaDoor
