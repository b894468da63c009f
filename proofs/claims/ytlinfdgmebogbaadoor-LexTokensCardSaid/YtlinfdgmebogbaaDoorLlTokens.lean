
/- LexTokens of layer 5: Tokens returns the specified tokens, or the offset of the first error, for any text of at most 200 bytes and for any line that a tape gives.
   Conditions: the listed table lies as the program's own text lays it (the card ties it); every input. -/
import Derived.Test.YtlinfdgmebogbaaDoorFrameJ
import Derived.Test.YtlinfdgmebogbaaDoorLmA
import Derived.Test.YtlinfdgmebogbaaDoorLyB
import Derived.Test.YtlinfdgmebogbaaDoorLrD
import Derived.Test.YtlinfdgmebogbaaDoorLsA
set_option linter.unusedVariables false
set_option linter.unusedSimpArgs false
namespace Go.Proofs.YtlinfdgmebogbaaDoor
open Go.ChangeShapes Go.WideShapes Go.ChangeAt Go.RowKit

set_option maxRecDepth 100000 in
set_option maxHeartbeats 2000000 in
theorem walk_lexTokens (s : ByteArray) (hs : s.size ≤ maxLen) (v : Value) (zs : List Int) (w : World) (hv : IntsB w.heap.size w v zs) (ht : Tn w) :
    Calls Tryd.prog 3 #[.string s, v] w fun e w' => e = .returned (.bool true) ∧ Qw w w' := by
  have hm : s.size ≤ 9223372036854775807 := hs
  have HV := Lib.hid hv
  have HT := Lib.hid ht
  have QQ := Lib.hid (Qw.refl w)
  clear hv ht
  by_cases h2 : s.size ≤ 200
  · have d1 : decide ((200 : Int) < (s.size : Int)) = false := decide_eq_false (by omega)
    by_cases hl : zs.length ≤ 120
    · have d2 : decide (zs.length ≤ 120) = true := decide_eq_true hl
      have CS := Lib.hid (lxTokens s (by omega))
      have RS := Lib.hid (lrTokens s (by omega))
      have CL := Lib.hid (fun (S : ByteArray) (h : S.size ≤ 200) => lxTokens S (by omega))
      have RL := Lib.hid (fun (S : ByteArray) (h : S.size ≤ 200) => lrTokens S (by omega))
      go_enter Tryd.func3, Tryd.ntmps3
      go_wp2_with (first | (go_at_call 10; ((with_reducible refine (lightF _ _ _ _ HV.out).mono ?_); rintro e w' ⟨rfl, rfl⟩)) | (go_at_call 13; ((with_reducible refine (newF _ _ _ (HV.out.now QQ.out)).mono ?_); rintro e w1 ⟨rfl, hT, q⟩; have TP := Lib.hid hT; have QN := Lib.hid q; clear hT q)) | (go_at_call 12; ((with_reducible refine (lineF _ _ _ _ _ TP.out).mono ?_); rintro e w2 ⟨⟨S, rfl, zS⟩, q⟩; replace q := new_line QN.out q; replace QQ := Lib.hid (QQ.out.trans q); clear q)) | (go_at_call 14; ((with_reducible refine (CS.out _ (HT.out.kept QQ.out)).mono ?_); rintro e w3 ⟨⟨va, rfl, h⟩, q⟩; replace QQ := Lib.hid (QQ.out.trans q); have HA := Lib.hid h; clear h; clear q)) | (go_at_call 15; ((with_reducible refine (RS.out _).mono ?_); rintro e w4 ⟨⟨vb, rfl, h⟩, q⟩; replace QQ := Lib.hid (QQ.out.trans q); replace HA := Lib.hid (HA.out.next q); have HB := Lib.hid h; clear h; clear q)) | (go_at_call 14; ((with_reducible refine (CL.out S zS _ (HT.out.kept QQ.out)).mono ?_); rintro e w5 ⟨⟨vc, rfl, h⟩, q⟩; replace QQ := Lib.hid (QQ.out.trans q); replace HA := Lib.hid (HA.out.next q); replace HB := Lib.hid (HB.out.next q); have HC := Lib.hid h; clear h; clear q)) | (go_at_call 15; ((with_reducible refine (RL.out S zS _).mono ?_); rintro e w6 ⟨⟨vd, rfl, h⟩, q⟩; replace QQ := Lib.hid (QQ.out.trans q); replace HA := Lib.hid (HA.out.next q); replace HB := Lib.hid (HB.out.next q); replace HC := Lib.hid (HC.out.next q); have HD := Lib.hid h; clear h; clear q)) | (go_at_call 11; ((with_reducible refine (awakeL _ (HT.out.kept QQ.out)).mono ?_); rintro e w7 ⟨rfl, q⟩; replace QQ := Lib.hid (QQ.out.trans q); replace HA := Lib.hid (HA.out.next q); replace HB := Lib.hid (HB.out.next q); replace HC := Lib.hid (HC.out.next q); replace HD := Lib.hid (HD.out.next q); clear q)) | (go_at_call 16; ((with_reducible refine (sameT _ _ _ _ _ HA.out HB.out (Nat.le_refl _)).mono ?_); rintro e w8 ⟨rfl, q⟩; replace QQ := Lib.hid (QQ.out.trans q); replace HA := Lib.hid (HA.out.next q); replace HB := Lib.hid (HB.out.next q); replace HC := Lib.hid (HC.out.next q); replace HD := Lib.hid (HD.out.next q); clear q)) | (go_at_call 16; ((with_reducible refine (sameT _ _ _ _ _ HC.out HD.out (Nat.le_refl _)).mono ?_); rintro e w9 ⟨rfl, q⟩; replace QQ := Lib.hid (QQ.out.trans q); replace HA := Lib.hid (HA.out.next q); replace HB := Lib.hid (HB.out.next q); replace HC := Lib.hid (HC.out.next q); replace HD := Lib.hid (HD.out.next q); clear q)))
      go_ret
      exact ⟨rfl, QQ.out⟩
    · have d2 : decide (zs.length ≤ 120) = false := decide_eq_false hl
      go_enter Tryd.func3, Tryd.ntmps3
      go_wp2_with (first | (go_at_call 10; ((with_reducible refine (lightF _ _ _ _ HV.out).mono ?_); rintro e w' ⟨rfl, rfl⟩)) | (go_at_call 11; ((with_reducible refine (awakeL _ (HT.out.kept QQ.out)).mono ?_); rintro e w9 ⟨rfl, q⟩; replace QQ := Lib.hid (QQ.out.trans q); clear q)))
      go_ret
      exact ⟨rfl, QQ.out⟩
  · have d1 : decide ((200 : Int) < (s.size : Int)) = true := decide_eq_true (by omega)
    go_enter Tryd.func3, Tryd.ntmps3
    go_wp2_with (first | (go_at_call 10; ((with_reducible refine (lightF _ _ _ _ HV.out).mono ?_); rintro e w' ⟨rfl, rfl⟩)) | (go_at_call 11; ((with_reducible refine (awakeL _ (HT.out.kept QQ.out)).mono ?_); rintro e w9 ⟨rfl, q⟩; replace QQ := Lib.hid (QQ.out.trans q); clear q)))
    go_ret
    exact ⟨rfl, QQ.out⟩

/-! ### the row and the card -/
theorem reads_lexTokens (os : Os) {H : Type} (enc : TypeId × Value → H) : ∃ places, DataW.whole enc Tryd.prog ((laidWorldN os).forCall (fun _ _ => 0) ⟨#[], #[.string { data := #[] }, .slice none 0 0], []⟩).memory Tryd.f3.params.toList Rows.lexTokensSpec.vars false #[(.string { data := #[] } : Value), .slice none 0 0].toList 8 = some ([.lit (.string []), .nil], [], places) :=
  ⟨[], by kernel_rfl⟩
set_option maxRecDepth 100000 in
theorem lifted_lexTokens (os : Os) (started : os.Started) (H : Type) (enc : TypeId × Value → H) (F : Stop.Interp) :
    ReturnsInHanded {} Tryd.checked os 3 .any ((OpenSpec.ofChange Rows.lexTokensSpec).preRow enc Tryd.prog Tryd.f3 Rows.lexTokensRow.domain false Rows.lexTokensRow.laid) (((OpenSpec.ofChange Rows.lexTokensSpec).at F).post enc Tryd.prog Tryd.f3 false true false false) := by
  obtain ⟨places, hx⟩ := reads_lexTokens os enc
  refine returnsInHanded_of_row (C := Tryd.checked) (s := OpenSpec.ofChange Rows.lexTokensSpec) ownN started (by kernel_rfl) Tryd.func3
    (witness_row_at (enc := enc) (C := Tryd.checked) false (laidWorldN os) #[.string { data := #[] }, .slice none 0 0] rfl (by kernel_rfl) (by kernel_rfl) (by kernel_rfl)
      (OpenSpec.preRow_of_cond 8 hx (by kernel_rfl) (fun k hk => by cases hk) (by kernel_rfl) (laid_metN os _))) ?_
  intro W base args ds gs before hval0 hW _ _ _ hL _ _
  have ht : Tn W := tableN hL
  have hval : ∀ (j : Nat) t v, Tryd.f3.params[j]? = some t → args[j]? = some v → Value.okWide Tryd.prog W .any base t v := hval0
  have hW' := hW
  obtain ⟨p, q, hA0, hV, rfl, hfz, hnd⟩ := hW
  have hA : DataW.TrodAll enc Tryd.prog W 0 (fun _ => true) true Tryd.f3.params.toList args.toList ds p := hA0
  rw [Tryd.params3] at hA hval
  obtain ⟨v0, vs0, d0, ds0, p0, q0, hargs, rfl, rfl, h0, r0⟩ := trodAll_cons hA
  obtain ⟨v1, vs1, d1, ds1, p1, q1, rfl, rfl, rfl, h1, r1⟩ := trodAll_cons r0
  obtain ⟨rfl, rfl, rfl⟩ := trodAll_nil r1
  obtain rfl : args = #[v0, v1] := by cases args; simp_all
  obtain ⟨rfl, rfl⟩ := trodVars_none hV
  obtain ⟨a0, rfl, rfl, rfl, w0⟩ := Go.ChangeMaps.open_string Tryd.underlying9 (hval 0 9 v0 rfl rfl) h0
  obtain ⟨u1, hu1⟩ := in_ints (hval 1 22 v1 rfl rfl) h1
  clear hA0 hval0 hL
  simp only [List.append_nil] at hW'
  refine (walk_lexTokens a0 w0 v1 u1 W hu1 ht).mono fun e W' ⟨he, bel⟩ => ?_
  subst he
  exact ⟨_, rfl, _, _, _, [], _, [], hW', trodAll_mk1 (shut_bool Tryd.underlying4 _), (trodAll_cons_mk (Go.ChangeMaps.shut_string Tryd.underlying9 w0) (trodAll_cons_mk (out_ints h1 bel (fun x hx => hW'.lt x (by first | exact hx | simp [hx]))) trodAll_mk0)), rfl, Below.frame bel _, fun h => by cases h⟩

theorem lexTokens_said : Rows.LexTokensSaid :=
  OpenClaim.holds_of_cond 3 Tryd.f3 rfl rfl rfl rfl rfl rfl rfl ⟨rfl, rfl, rfl, rfl, rfl⟩ rfl rfl rfl rfl rfl (by kernel_rfl) Tryd.func3 (by kernel_rfl)
    (of_decide_eq_true (by kernel_rfl)) (by unfold Func.isWrapper; first | (rw [if_pos (by decide +kernel)]; kernel_rfl) | (rw [if_neg (by decide +kernel)]; exact ⟨rfl, rfl⟩))
    (fun os started H enc _ F => by rw [OpenClaim.pre_eq_preRow]; exact lifted_lexTokens os started H enc F)

theorem plain_lexTokens (f : FuncId) (fn : Func) (hf : Tryd.pinned.checked.prog.funcNamed "cnc/cnclaw05.LexTokens" = some f) (hfn : Tryd.pinned.checked.prog.funcs[f]? = some fn) :
    false = Tryd.pinned.checked.prog.looks [] ∧ ∀ (j : Nat) t, fn.params[j]? = some t → Tryd.pinned.checked.prog.wantsStandIn t = false := by
  obtain rfl : f = 3 := Option.some.inj ((show Tryd.prog.funcNamed "cnc/cnclaw05.LexTokens" = some 3 by kernel_rfl).symm.trans hf) |>.symm
  obtain rfl : fn = Tryd.f3 := (Option.some.inj (Tryd.func3.symm.trans hfn)).symm
  refine ⟨by kernel_rfl, fun j t ht => ?_⟩
  rw [Tryd.params3] at ht
  have hm : t = 9 ∨ t = 22 := by simpa using Array.mem_of_getElem? ht
  rcases hm with rfl | rfl
  · exact (show Tryd.prog.wantsStandIn 9 = false by kernel_rfl)
  · exact (show Tryd.prog.wantsStandIn 22 = false by kernel_rfl)

/-- The statement. -/
theorem lexTokens_card : Rows.LexTokensCardSaid :=
  Claim7.holds_tied_plain_at .later [] _ _ _ _ lexTokens_said (fun _ h => by cases h) (by kernel_rfl) (fun _ h => by cases h) lexTokens_row_tie rfl ⟨rfl, rfl⟩ (by kernel_rfl) rfl plain_lexTokens (by kernel_rfl)

end Go.Proofs.YtlinfdgmebogbaaDoor
