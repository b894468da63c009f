
/- FixedParse: Parse accepts exactly the specified texts, with their numbers.
   Conditions: the listed tables lie as the program's own text lays them (the card ties them); every input. -/
import Derived.Test.YthfgpmdgklphkaaDoorFrameL
import Derived.Test.YthfgpmdgklphkaaDoorFxL
import Derived.Test.YthfgpmdgklphkaaDoorFxM
import Derived.Test.YthfgpmdgklphkaaDoorText
import Derived.Test.YthfgpmdgklphkaaDoorFrameI
set_option linter.unusedVariables false
set_option linter.unusedSimpArgs false
namespace Go.Proofs.YthfgpmdgklphkaaDoor
open Go.ChangeShapes Go.WideShapes Go.ChangeAt Go.RowKit

set_option maxRecDepth 100000 in
theorem walk_fixedParse (s : ByteArray) (hs : s.size ≤ maxLen) (v : Value) (zs : List Int) (w : World) (hz : IntsB w.heap.size w v zs) (ht : Tb w) : Calls Tryd.prog 3 #[.string s, v] w fun e w' => e = .returned (.bool true) ∧ Below w.heap.size w w' := by
  have q0 := Qw.refl w
  have HT := Lib.hid ht
  clear ht
  have hm : s.size ≤ 9223372036854775807 := hs
  have lg := fun w' (h : Qw w w') => lightF v zs w.heap.size w' (hz.kept h (Nat.le_refl _))
  have nw := newF v zs w hz
  have tx := fun w' h => textF w.heap.size v zs 0 w' h
  have pa := fun w => fxParse s hs w
  have ra := fun w => rxParse s hs w
  have tl := txl_len zs 0
  obtain ⟨T, hT⟩ : ∃ T : ByteArray, T = ⟨(txl zs 0).toArray⟩ := ⟨_, rfl⟩
  have ts : T.size ≤ 1011 := by rw [hT, mk_size]; exact tl
  rw [← hT] at tx
  have pb := fun w => fxParse T (Nat.le_trans ts (by decide)) w
  have rb := fun w => rxParse T (Nat.le_trans ts (by decide)) w
  generalize prv s.data.toList = a at *
  generalize pre s.data.toList = b at *
  generalize prv T.data.toList = c at *
  generalize pre T.data.toList = d at *
  have NW := Lib.hid nw
  have TX := Lib.hid tx
  have PA := Lib.hid pa
  have PB := Lib.hid pb
  have RA := Lib.hid ra
  have RB := Lib.hid rb
  have LG := Lib.hid lg
  clear nw tx pa pb ra rb lg tl hT hz
  by_cases h1 : 100 < s.size
  · have h1i : (100 : Int) < (s.size : Int) := by omega
    have h1b : decide ((100 : Int) < (s.size : Int)) = true := decide_eq_true h1i
    go_enter Tryd.func3, Tryd.ntmps3
    go_wp2_with fail
    refine (awakeF _ (HT.out.kept q0)).mono ?_
    rintro e w' ⟨rfl, h⟩
    replace q0 := Qw.trans q0 h
    go_wp2
    go_ret
    exact ⟨rfl, q0⟩
  · have h1' : s.size ≤ 100 := by omega
    by_cases h2 : zs.length ≤ 120
    · have d2 : decide (zs.length ≤ 120) = true := decide_eq_true h2
      go_enter Tryd.func3, Tryd.ntmps3
      go_wp2_with fail
      refine (LG.out _ q0).mono ?_
      rintro e w' ⟨rfl, rfl⟩
      go_wp2_with fail
      refine NW.out.mono ?_
      rintro e w1 ⟨rfl, h1, q1⟩
      have TP := Lib.hid h1
      clear h1
      go_wp2_with fail
      refine (TX.out _ TP.out).mono ?_
      rintro e w2 ⟨rfl, _, q2⟩
      replace q0 : Qw w w2 := Below.trans q1 q2
      go_wp2_with fail
      refine (PA.out _).mono ?_
      rintro e w' ⟨rfl, rfl⟩
      go_wp2_with fail
      refine (RA.out _).mono ?_
      rintro e w' ⟨rfl, rfl⟩
      go_wp2_with fail
      refine (PB.out _).mono ?_
      rintro e w' ⟨rfl, rfl⟩
      go_wp2_with fail
      refine (RB.out _).mono ?_
      rintro e w' ⟨rfl, rfl⟩
      go_wp2_with fail
      refine (awakeF _ (HT.out.kept q0)).mono ?_
      rintro e w' ⟨rfl, h⟩
      replace q0 := Qw.trans q0 h
      go_wp2
      go_ret
      exact ⟨ret_bl (by first | rfl | simp), q0⟩
    · have d2 : decide (zs.length ≤ 120) = false := decide_eq_false h2
      go_enter Tryd.func3, Tryd.ntmps3
      go_wp2_with (first | (go_at_call 18; ((with_reducible refine (awakeF _ (HT.out.kept q0)).mono ?_); rintro e w' ⟨rfl, h⟩; replace q0 := Qw.trans q0 h; clear h)) | (go_at_call 17; ((with_reducible refine (LG.out _ q0).mono ?_); rintro e w' ⟨rfl, rfl⟩)) | (go_at_call 20; ((with_reducible refine (NW.out).mono ?_); rintro e w' ⟨rfl, h1, h⟩; have TP := Lib.hid h1; clear h1; replace q0 := Qw.trans q0 h; clear h)) | (go_at_call 19; ((with_reducible refine (TX.out _ TP.out).mono ?_); rintro e w' ⟨rfl, h1, h⟩; clear h1; replace q0 := Below.trans q0 h; clear h)) | (go_at_call 21; ((with_reducible refine (PA.out _).mono ?_); rintro e w' ⟨rfl, rfl⟩)) | (go_at_call 21; ((with_reducible refine (PB.out _).mono ?_); rintro e w' ⟨rfl, rfl⟩)) | (go_at_call 22; ((with_reducible refine (RA.out _).mono ?_); rintro e w' ⟨rfl, rfl⟩)) | (go_at_call 22; ((with_reducible refine (RB.out _).mono ?_); rintro e w' ⟨rfl, rfl⟩)))
      go_ret
      exact ⟨rfl, q0⟩

/-! ### the row and the card -/
theorem reads_fixedParse (os : Os) {H : Type} (enc : TypeId × Value → H) : ∃ places, DataW.whole enc Tryd.prog ((laidWorldL os).forCall (fun _ _ => 0) ⟨#[], #[.string { data := #[] }, .slice none 0 0], []⟩).memory Tryd.f3.params.toList Rows.fixedParseSpec.vars false #[(.string { data := #[] } : Value), .slice none 0 0].toList 8 = some ([.lit (.string []), .nil], [], places) :=
  ⟨[], by kernel_rfl⟩
set_option maxRecDepth 100000 in
theorem lifted_fixedParse (os : Os) (started : os.Started) (H : Type) (enc : TypeId × Value → H) (F : Stop.Interp) :
    ReturnsInHanded {} Tryd.checked os 3 .any ((OpenSpec.ofChange Rows.fixedParseSpec).preRow enc Tryd.prog Tryd.f3 Rows.fixedParseRow.domain false Rows.fixedParseRow.laid) (((OpenSpec.ofChange Rows.fixedParseSpec).at F).post enc Tryd.prog Tryd.f3 false true false false) := by
  obtain ⟨places, hx⟩ := reads_fixedParse os enc
  refine returnsInHanded_of_row (C := Tryd.checked) (s := OpenSpec.ofChange Rows.fixedParseSpec) ownL started (by kernel_rfl) Tryd.func3
    (witness_row_at (enc := enc) (C := Tryd.checked) false (laidWorldL os) #[.string { data := #[] }, .slice none 0 0] rfl (by kernel_rfl) (by kernel_rfl) (by kernel_rfl)
      (OpenSpec.preRow_of_cond 8 hx (by kernel_rfl) (fun k hk => by cases hk) (by kernel_rfl) (laid_metL os _))) ?_
  intro W base args ds gs before hval0 hW _ _ _ hL _ _
  have ht : Tb W := tableL hL
  have hval : ∀ (j : Nat) t v, Tryd.f3.params[j]? = some t → args[j]? = some v → Value.okWide Tryd.prog W .any base t v := hval0
  have hW' := hW
  obtain ⟨p, q, hA0, hV, rfl, hfz, hnd⟩ := hW
  have hA : DataW.TrodAll enc Tryd.prog W 0 (fun _ => true) true Tryd.f3.params.toList args.toList ds p := hA0
  rw [Tryd.params3] at hA hval
  obtain ⟨v0, vs0, d0, ds0, p0, q0, hargs, rfl, rfl, h0, r0⟩ := trodAll_cons hA
  obtain ⟨v1, vs1, d1, ds1, p1, q1, rfl, rfl, rfl, h1, r1⟩ := trodAll_cons r0
  obtain ⟨rfl, rfl, rfl⟩ := trodAll_nil r1
  obtain rfl : args = #[v0, v1] := by cases args; simp_all
  obtain ⟨rfl, rfl⟩ := trodVars_none hV
  obtain ⟨a0, rfl, rfl, rfl, w0⟩ := Go.ChangeMaps.open_string Tryd.underlying9 (hval 0 9 v0 rfl rfl) h0
  obtain ⟨u1, hu1⟩ := in_ints (hval 1 22 v1 rfl rfl) h1
  clear hA0 hval0 hL
  simp only [List.append_nil] at hW'
  refine (walk_fixedParse a0 w0 v1 u1 W hu1 ht).mono fun e W' ⟨he, bel⟩ => ?_
  subst he
  exact ⟨_, rfl, _, _, _, [], _, [], hW', trodAll_mk1 (shut_bool Tryd.underlying4 _), (trodAll_cons_mk (Go.ChangeMaps.shut_string Tryd.underlying9 w0) (trodAll_cons_mk (out_ints h1 bel (fun x hx => hW'.lt x (by first | exact hx | simp [hx]))) trodAll_mk0)), rfl, Below.frame bel _, fun h => by cases h⟩

theorem fixedParse_said : Rows.FixedParseSaid :=
  OpenClaim.holds_of_cond 3 Tryd.f3 rfl rfl rfl rfl rfl rfl rfl ⟨rfl, rfl, rfl, rfl, rfl⟩ rfl rfl rfl rfl rfl (by kernel_rfl) Tryd.func3 (by kernel_rfl)
    (of_decide_eq_true (by kernel_rfl)) (by unfold Func.isWrapper; first | (rw [if_pos (by decide +kernel)]; kernel_rfl) | (rw [if_neg (by decide +kernel)]; exact ⟨rfl, rfl⟩))
    (fun os started H enc _ F => by rw [OpenClaim.pre_eq_preRow]; exact lifted_fixedParse os started H enc F)

theorem plain_fixedParse (f : FuncId) (fn : Func) (hf : Tryd.pinned.checked.prog.funcNamed "cnc/cnclaw02.FixedParse" = some f) (hfn : Tryd.pinned.checked.prog.funcs[f]? = some fn) :
    false = Tryd.pinned.checked.prog.looks [] ∧ ∀ (j : Nat) t, fn.params[j]? = some t → Tryd.pinned.checked.prog.wantsStandIn t = false := by
  obtain rfl : f = 3 := Option.some.inj ((show Tryd.prog.funcNamed "cnc/cnclaw02.FixedParse" = some 3 by kernel_rfl).symm.trans hf) |>.symm
  obtain rfl : fn = Tryd.f3 := (Option.some.inj (Tryd.func3.symm.trans hfn)).symm
  refine ⟨by kernel_rfl, fun j t ht => ?_⟩
  rw [Tryd.params3] at ht
  have hm : t = 9 ∨ t = 22 := by simpa using Array.mem_of_getElem? ht
  rcases hm with rfl | rfl
  · exact (show Tryd.prog.wantsStandIn 9 = false by kernel_rfl)
  · exact (show Tryd.prog.wantsStandIn 22 = false by kernel_rfl)

/-- The statement. -/
theorem fixedParse_card : Rows.FixedParseCardSaid :=
  Claim7.holds_tied_plain_at .later [] _ _ _ _ fixedParse_said (fun _ h => by cases h) (by kernel_rfl) (fun _ h => by cases h) fixedParse_row_tie rfl ⟨rfl, rfl⟩ (by kernel_rfl) rfl plain_fixedParse (by kernel_rfl)

end Go.Proofs.YthfgpmdgklphkaaDoor
