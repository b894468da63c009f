
/- LexSpaces of layer 5: spaces, tabs and comments between the tokens of a line that a tape gives, without errors and semicolons, do not change the tokens.
   Conditions: the listed table lies as the program's own text lays it (the card ties it); every input. -/
import Derived.Test.YtlinfdgmebogbaaDoorFrameJ
import Derived.Test.YtlinfdgmebogbaaDoorLmA
import Derived.Test.YtlinfdgmebogbaaDoorLyB
import Derived.Test.YtlinfdgmebogbaaDoorLsA
import Derived.Test.YtlinfdgmebogbaaDoorLsB
import Derived.Test.YtlinfdgmebogbaaDoorQdeep
set_option linter.unusedVariables false
set_option linter.unusedSimpArgs false
namespace Go.Proofs.YtlinfdgmebogbaaDoor
open Go.ChangeShapes Go.WideShapes Go.ChangeAt Go.RowKit

set_option maxRecDepth 100000 in
set_option maxHeartbeats 4000000 in
theorem walk_lexSpaces (v : Value) (zs : List Int) (w : World) (hv : IntsB w.heap.size w v zs) (ht : Tn w) :
    Calls Tryd.prog 5 #[v] w fun e w' => e = .returned (.bool true) ∧ Qw w w' := by
  have HV := Lib.hid hv
  have HT := Lib.hid ht
  have QQ := Lib.hid (Qw.refl w)
  clear hv ht
  by_cases hl : zs.length ≤ 120
  · have d2 : decide (zs.length ≤ 120) = true := decide_eq_true hl
    go_enter Tryd.func5, Tryd.ntmps5
    go_wp2_with (first | (go_at_call 10; ((with_reducible refine (lightF _ _ _ _ HV.out).mono ?_); rintro e w' ⟨rfl, rfl⟩)) | (go_at_call 13; ((with_reducible refine (newF _ _ _ (HV.out.now QQ.out)).mono ?_); rintro e w1 ⟨rfl, hT, q⟩; have TP := Lib.hid hT; have QN := Lib.hid q; clear hT q)) | (go_at_call 12; ((with_reducible refine (lineF _ _ _ _ _ TP.out).mono ?_); rintro e w2 ⟨⟨S, rfl, zS⟩, q⟩; replace q := new_line QN.out q; replace QQ := Lib.hid (QQ.out.trans q); clear q)))
    go_loop [4] (fun kv => ∃ k : Nat, k ≤ S.size ∧ (∀ j (_ : j < k) (h : j < S.size), S[j] ≠ 59) ∧ kv = .int .i64 (k : Int)) (fun kv => S.size - (intOf kv).toNat)
    case atStart => exact ⟨0, by omega, fun j hj => by omega, rfl⟩
    case round =>
      obtain ⟨k, hk, hn, rfl⟩ := hrel
      have HN := Lib.hid hn
      clear hn
      by_cases hlt : k < S.size
      · by_cases h59 : S[k] = 59
        · have b2 : ((S[k].toNat : Int) == 59) = true := by rw [h59]; rfl
          clear h59
          go_wp2_with (first | (go_at_call 11; ((with_reducible refine (awakeL _ (HT.out.kept QQ.out)).mono ?_); rintro e w9 ⟨rfl, q⟩; replace QQ := Lib.hid (QQ.out.trans q); clear q)))
          go_ret
          exact ⟨rfl, QQ.out⟩
        · have b2 : ((S[k].toNat : Int) == 59) = false := beq_eq_false_iff_ne.2 (fun h => h59 (UInt8.toNat_inj.1 (by have : (59 : UInt8).toNat = 59 := rfl; omega)))
          have N2 := Lib.hid (no59_more HN.out hlt h59)
          clear h59
          go_wp2
          go_round
          case rel => exact ⟨k + 1, by omega, N2.out, by go_num⟩
          case measure => simp [intOf]; omega
      · obtain rfl : k = S.size := by omega
        have H59 := Lib.hid (no59 fun j h => HN.out j h h)
        clear HN
        have ca := lxTokens S (by omega)
        have sl := size_len S
        rcases lx_cases S.data.toList with ⟨ts, hx⟩ | ⟨x, hx⟩
        · obtain ⟨x1, x2, x3⟩ := res_ok hx
          rw [x3, x1] at ca
          obtain ⟨u1, hu1, al1⟩ := Lx.spaces S.data.toList [32] H59.out Lx.between_space ts 0 (Nat.zero_le _) hx 0
          obtain ⟨u2, hu2, al2⟩ := Lx.spaces S.data.toList [9, 40, 120, 41] H59.out Lx.between_note ts 0 (Nat.zero_le _) hx 0
          obtain ⟨p1, p2, p3⟩ := res_ok hu1
          obtain ⟨r1, r2, r3⟩ := res_ok hu2
          have c1 : ∀ X : ByteArray, X.data.toList = Lx.spc S.data.toList [32] ts → X.size ≤ 1000 → ∀ w, Tn w → Calls Tryd.prog 14 #[.string X] w fun e w' => (∃ v, e = .returned (.tuple #[v, .int .i64 (X.size : Int), .int .i64 0]) ∧ ToksB w'.heap.size w' v u1) ∧ Qw w w' := fun X h hz w ht => by
            have k := lxTokens X (by omega) w ht
            rw [h, p1, p2, p3, ← h, size_len] at k
            exact k
          have c2 : ∀ X : ByteArray, X.data.toList = Lx.spc S.data.toList [9, 40, 120, 41] ts → X.size ≤ 1000 → ∀ w, Tn w → Calls Tryd.prog 14 #[.string X] w fun e w' => (∃ v, e = .returned (.tuple #[v, .int .i64 (X.size : Int), .int .i64 0]) ∧ ToksB w'.heap.size w' v u2) ∧ Qw w w' := fun X h hz w ht => by
            have k := lxTokens X (by omega) w ht
            rw [h, r1, r2, r3, ← h, size_len] at k
            exact k
          have y := Lx.lx_join Lx.sep32 H59.out hx (v := [59, 32, 71, 49, 32, 46, 46])
          rw [Lx.lx_skip (Lx.act_semi), List.drop_length, Lx.lx_nil] at y
          simp only [Lx.Res.pre, List.append_nil] at y
          obtain ⟨y1, y2, y3⟩ := res_ok y
          have ld : (S ++ (⟨#[32, 59, 32, 71, 49, 32, 46, 46]⟩ : ByteArray)).data.toList = S.data.toList ++ 32 :: [59, 32, 71, 49, 32, 46, 46] := by rw [cat_list]; try rfl
          have o8 : (ByteArray.mk #[32, 59, 32, 71, 49, 32, 46, 46]).size = 8 := rfl
          have cd := fun w ht => lxTokens (S ++ ⟨#[32, 59, 32, 71, 49, 32, 46, 46]⟩) (by rw [ByteArray.size_append]; omega) w ht
          rw [ld, y1, y3] at cd
          obtain ⟨ln, of⟩ := Lx.offs S.data.toList ts 0 (Nat.zero_le _) hx
          rw [sl] at ln
          have OF := Lib.hid of
          have SL := Lib.hid sl
          have A1 := Lib.hid al1.symm
          have A2 := Lib.hid al2.symm
          have CA := Lib.hid ca
          have C1 := Lib.hid c1
          have C2 := Lib.hid c2
          have CD := Lib.hid cd
          replace hx := Lib.hid hx
          have s32 : (ByteArray.mk #[32]).size ≤ 4 := by decide
          have s40 : (ByteArray.mk #[9, 40, 120, 41]).size ≤ 4 := by decide
          clear ca c1 c2 cd x1 x2 x3 hu1 hu2 al1 al2 p1 p2 p3 r1 r2 r3 y y1 y2 y3 ld of sl
          go_wp2_with (first | (go_at_call 14; ((with_reducible refine (CA.out _ (HT.out.kept QQ.out)).mono ?_); rintro e w3 ⟨⟨va, rfl, h⟩, q⟩; obtain ⟨aa, ca, rfl, la, ma, h⟩ := toks_form h; have HA := Lib.hid h; clear h; replace QQ := Lib.hid (QQ.out.trans q); clear q)))
          go_loopw [8] (fun iv wr => ∃ i : Nat, i ≤ ts.length ∧ iv = .int .i64 (i : Int) ∧ ToksB wr.heap.size wr (.slice aa ts.length ca) ts ∧ Qw w wr) (fun iv _ => ts.length - (intOf iv).toNat)
          case atStart => exact ⟨0, by omega, rfl, HA.out, QQ.out⟩
          case round =>
            obtain ⟨i, hi, rfl, hA, hQ⟩ := hrel
            replace HA := Lib.hid hA
            replace QQ := Lib.hid hQ
            clear hA hQ
            by_cases hlt : i < ts.length
            · obtain ⟨a', cap', ee, l1, l2, h3⟩ := HA.out
              injection ee with e1 e2 e3
              subst e1 e3
              rcases h3 with h | ⟨bb, off, rfl, hb2, hc⟩
              · rw [h] at hlt; simp at hlt
              · have c2 := (hc i hlt).2.2.1
                obtain ⟨_, hco, _⟩ := OF.out i hlt
                obtain ⟨hp, _⟩ := hco
                rw [SL.out] at hp
                have k' : (i : Int) < (ts.length : Int) := by omega
                cases i with
                | zero =>
                  rw [Nat.zero_mul, Nat.add_zero] at c2
                  clear hc
                  generalize ts[0].p = p at *
                  have d1 : decide ((p : Int) < 0) = false := decide_eq_false (by omega)
                  have d2 : decide (S.size ≤ p) = false := decide_eq_false (by omega)
                  go_wp2
                  refine region_deep (by kernel_rfl) (by as_aux_lemma => kernel_rfl) ?_
                  repeat (go_big_quiet_step (fail))
                  refine wpQuiet_nil ?_
                  intro _ hw'
                  obtain ⟨nq, hw''⟩ := hw'
                  subst hw''
                  go_wp2
                  go_roundw
                  case rel => exact ⟨0 + 1, by omega, by go_num, HA.out.next (Qw.drewN wr nq), QQ.out.trans (Qw.drewN wr nq)⟩
                  case measure => simp [intOf]; omega
                | succ j =>
                  have c1 := (hc j (by omega)).2.2.1
                  obtain ⟨_, _, hn⟩ := OF.out j (by omega)
                  have lt := hn (by omega)
                  clear hc hn
                  generalize ts[j + 1].p = p at *
                  generalize ts[j].p = p0 at *
                  have d1 : decide ((p : Int) < 0) = false := decide_eq_false (by omega)
                  have d2 : decide (S.size ≤ p) = false := decide_eq_false (by omega)
                  have d3 : decide (p ≤ p0) = false := decide_eq_false (by omega)
                  have d4 : decide ((0 : Int) < (j : Int) + 1) = true := decide_eq_true (by omega)
                  have e1 : IntKind.i64.wrap ((j : Int) + 1 - 1) = (j : Int) := (IntWalk.i64_in ((j : Int) + 1 - 1) (by omega)).trans (by omega)
                  have jl : (j : Int) < (ts.length : Int) := by omega
                  have jl2 : (j : Int) + 1 < (ts.length : Int) := by omega
                  go_wp2
                  refine region_deep (by kernel_rfl) (by as_aux_lemma => kernel_rfl) ?_
                  repeat (go_big_quiet_step (fail))
                  refine wpQuiet_nil ?_
                  intro _ hw'
                  obtain ⟨nq, hw''⟩ := hw'
                  subst hw''
                  go_wp2
                  go_roundw
                  case rel => exact ⟨j + 1 + 1, by omega, by go_num, HA.out.next (Qw.drewN wr nq), QQ.out.trans (Qw.drewN wr nq)⟩
                  case measure => simp [intOf]; omega
            · obtain rfl : i = ts.length := by omega
              go_wp2_with (first | (go_at_call 11; ((with_reducible refine (awakeL _ (HT.out.kept QQ.out)).mono ?_); rintro e w9 ⟨rfl, q⟩; replace QQ := Lib.hid (QQ.out.trans q); replace HA := Lib.hid (HA.out.next q); replace HB := Lib.hid (HB.out.next q); replace HC := Lib.hid (HC.out.next q); replace HD := Lib.hid (HD.out.next q); clear q)) | (go_at_call 20; ((with_reducible refine (spacedT _ _ _ _ _ _ HA.out hx.out (by omega) s32).mono ?_); rintro e w' ⟨⟨X1, rfl, hX, zX⟩, rfl⟩; have HX1 := Lib.hid hX; have SX1 := Lib.hid zX; clear hX zX)) | (go_at_call 20; ((with_reducible refine (spacedT _ _ _ _ _ _ HA.out hx.out (by omega) s40).mono ?_); rintro e w' ⟨⟨X2, rfl, hX, zX⟩, rfl⟩; have HX2 := Lib.hid hX; have SX2 := Lib.hid zX; clear hX zX)) | (go_at_call 14; ((with_reducible refine ((C1.out X1 HX1.out SX1.out) _ (HT.out.kept QQ.out)).mono ?_); rintro e w4 ⟨⟨vb, rfl, h⟩, q⟩; replace QQ := Lib.hid (QQ.out.trans q); replace HA := Lib.hid (HA.out.next q); have HB := Lib.hid h; clear h; clear q)) | (go_at_call 14; ((with_reducible refine ((C2.out X2 HX2.out SX2.out) _ (HT.out.kept QQ.out)).mono ?_); rintro e w5 ⟨⟨vc, rfl, h⟩, q⟩; replace QQ := Lib.hid (QQ.out.trans q); replace HA := Lib.hid (HA.out.next q); replace HB := Lib.hid (HB.out.next q); have HC := Lib.hid h; clear h; clear q)) | (go_at_call 14; ((with_reducible refine (CD.out _ (HT.out.kept QQ.out)).mono ?_); rintro e w6 ⟨⟨vd, rfl, h⟩, q⟩; replace QQ := Lib.hid (QQ.out.trans q); replace HA := Lib.hid (HA.out.next q); replace HB := Lib.hid (HB.out.next q); replace HC := Lib.hid (HC.out.next q); have HD := Lib.hid h; clear h; clear q)) | (go_at_call 21; ((with_reducible refine (alikeT _ _ _ _ A1.out _ _ HA.out HB.out (Nat.le_refl _)).mono ?_); rintro e w10 ⟨rfl, q⟩; replace QQ := Lib.hid (QQ.out.trans q); replace HA := Lib.hid (HA.out.next q); replace HB := Lib.hid (HB.out.next q); replace HC := Lib.hid (HC.out.next q); replace HD := Lib.hid (HD.out.next q); clear q)) | (go_at_call 21; ((with_reducible refine (alikeT _ _ _ _ A2.out _ _ HA.out HC.out (Nat.le_refl _)).mono ?_); rintro e w11 ⟨rfl, q⟩; replace QQ := Lib.hid (QQ.out.trans q); replace HA := Lib.hid (HA.out.next q); replace HB := Lib.hid (HB.out.next q); replace HC := Lib.hid (HC.out.next q); replace HD := Lib.hid (HD.out.next q); clear q)) | (go_at_call 16; ((with_reducible refine (sameT _ _ _ _ _ HA.out HD.out (Nat.le_refl _)).mono ?_); rintro e w12 ⟨rfl, q⟩; replace QQ := Lib.hid (QQ.out.trans q); replace HA := Lib.hid (HA.out.next q); replace HB := Lib.hid (HB.out.next q); replace HC := Lib.hid (HC.out.next q); replace HD := Lib.hid (HD.out.next q); clear q)))
              all_goals
                go_ret
                exact ⟨rfl, QQ.out⟩
        · obtain ⟨x1, x2, x3⟩ := res_bad hx
          rw [x3] at ca
          have CA := Lib.hid ca
          clear ca hx x1 x2 x3
          go_wp2_with (first | (go_at_call 11; ((with_reducible refine (awakeL _ (HT.out.kept QQ.out)).mono ?_); rintro e w9 ⟨rfl, q⟩; replace QQ := Lib.hid (QQ.out.trans q); clear q)) | (go_at_call 14; ((with_reducible refine (CA.out _ (HT.out.kept QQ.out)).mono ?_); rintro e w3 ⟨⟨va, rfl, h⟩, q⟩; clear h; replace QQ := Lib.hid (QQ.out.trans q); clear q)))
          go_ret
          exact ⟨rfl, QQ.out⟩
  · have d2 : decide (zs.length ≤ 120) = false := decide_eq_false hl
    go_enter Tryd.func5, Tryd.ntmps5
    go_wp2_with (first | (go_at_call 10; ((with_reducible refine (lightF _ _ _ _ HV.out).mono ?_); rintro e w' ⟨rfl, rfl⟩)) | (go_at_call 11; ((with_reducible refine (awakeL _ (HT.out.kept QQ.out)).mono ?_); rintro e w9 ⟨rfl, q⟩; replace QQ := Lib.hid (QQ.out.trans q); clear q)))
    go_ret
    exact ⟨rfl, QQ.out⟩

/-! ### the row and the card -/
theorem reads_lexSpaces (os : Os) {H : Type} (enc : TypeId × Value → H) : ∃ places, DataW.whole enc Tryd.prog ((laidWorldN os).forCall (fun _ _ => 0) ⟨#[], #[.slice none 0 0], []⟩).memory Tryd.f5.params.toList Rows.lexSpacesSpec.vars false #[(.slice none 0 0 : Value)].toList 8 = some ([.nil], [], places) :=
  ⟨[], by kernel_rfl⟩
set_option maxRecDepth 100000 in
theorem lifted_lexSpaces (os : Os) (started : os.Started) (H : Type) (enc : TypeId × Value → H) (F : Stop.Interp) :
    ReturnsInHanded {} Tryd.checked os 5 .any ((OpenSpec.ofChange Rows.lexSpacesSpec).preRow enc Tryd.prog Tryd.f5 Rows.lexSpacesRow.domain false Rows.lexSpacesRow.laid) (((OpenSpec.ofChange Rows.lexSpacesSpec).at F).post enc Tryd.prog Tryd.f5 false true false false) := by
  obtain ⟨places, hx⟩ := reads_lexSpaces os enc
  refine returnsInHanded_of_row (C := Tryd.checked) (s := OpenSpec.ofChange Rows.lexSpacesSpec) ownN started (by kernel_rfl) Tryd.func5
    (witness_row_at (enc := enc) (C := Tryd.checked) false (laidWorldN os) #[.slice none 0 0] rfl (by kernel_rfl) (by kernel_rfl) (by kernel_rfl)
      (OpenSpec.preRow_of_cond 8 hx (by kernel_rfl) (fun k hk => by cases hk) (by kernel_rfl) (laid_metN os _))) ?_
  intro W base args ds gs before hval0 hW _ _ _ hL _ _
  have ht : Tn W := tableN hL
  have hval : ∀ (j : Nat) t v, Tryd.f5.params[j]? = some t → args[j]? = some v → Value.okWide Tryd.prog W .any base t v := hval0
  have hW' := hW
  obtain ⟨p, q, hA0, hV, rfl, hfz, hnd⟩ := hW
  have hA : DataW.TrodAll enc Tryd.prog W 0 (fun _ => true) true Tryd.f5.params.toList args.toList ds p := hA0
  rw [Tryd.params5] at hA hval
  obtain ⟨v0, vs0, d0, ds0, p0, q0, hargs, rfl, rfl, h0, r0⟩ := trodAll_cons hA
  obtain ⟨rfl, rfl, rfl⟩ := trodAll_nil r0
  obtain rfl : args = #[v0] := by cases args; simp_all
  obtain ⟨rfl, rfl⟩ := trodVars_none hV
  obtain ⟨u0, hu0⟩ := in_ints (hval 0 22 v0 rfl rfl) h0
  clear hA0 hval0 hL
  simp only [List.append_nil] at hW'
  refine (walk_lexSpaces v0 u0 W hu0 ht).mono fun e W' ⟨he, bel⟩ => ?_
  subst he
  exact ⟨_, rfl, _, _, _, [], _, [], hW', trodAll_mk1 (shut_bool Tryd.underlying4 _), (trodAll_cons_mk (out_ints h0 bel (fun x hx => hW'.lt x (by first | exact hx | simp [hx]))) trodAll_mk0), rfl, Below.frame bel _, fun h => by cases h⟩

theorem lexSpaces_said : Rows.LexSpacesSaid :=
  OpenClaim.holds_of_cond 5 Tryd.f5 rfl rfl rfl rfl rfl rfl rfl ⟨rfl, rfl, rfl, rfl, rfl⟩ rfl rfl rfl rfl rfl (by kernel_rfl) Tryd.func5 (by kernel_rfl)
    (of_decide_eq_true (by kernel_rfl)) (by unfold Func.isWrapper; first | (rw [if_pos (by decide +kernel)]; kernel_rfl) | (rw [if_neg (by decide +kernel)]; exact ⟨rfl, rfl⟩))
    (fun os started H enc _ F => by rw [OpenClaim.pre_eq_preRow]; exact lifted_lexSpaces os started H enc F)

theorem plain_lexSpaces (f : FuncId) (fn : Func) (hf : Tryd.pinned.checked.prog.funcNamed "cnc/cnclaw05.LexSpaces" = some f) (hfn : Tryd.pinned.checked.prog.funcs[f]? = some fn) :
    false = Tryd.pinned.checked.prog.looks [] ∧ ∀ (j : Nat) t, fn.params[j]? = some t → Tryd.pinned.checked.prog.wantsStandIn t = false := by
  obtain rfl : f = 5 := Option.some.inj ((show Tryd.prog.funcNamed "cnc/cnclaw05.LexSpaces" = some 5 by kernel_rfl).symm.trans hf) |>.symm
  obtain rfl : fn = Tryd.f5 := (Option.some.inj (Tryd.func5.symm.trans hfn)).symm
  refine ⟨by kernel_rfl, fun j t ht => ?_⟩
  rw [Tryd.params5] at ht
  obtain rfl : t = 22 := by simpa using Array.mem_of_getElem? ht
  exact (show Tryd.prog.wantsStandIn 22 = false by kernel_rfl)

/-- The statement. -/
theorem lexSpaces_card : Rows.LexSpacesCardSaid :=
  Claim7.holds_tied_plain_at .later [] _ _ _ _ lexSpaces_said (fun _ h => by cases h) (by kernel_rfl) (fun _ h => by cases h) lexSpaces_row_tie rfl ⟨rfl, rfl⟩ (by kernel_rfl) rfl plain_lexSpaces (by kernel_rfl)

end Go.Proofs.YtlinfdgmebogbaaDoor
