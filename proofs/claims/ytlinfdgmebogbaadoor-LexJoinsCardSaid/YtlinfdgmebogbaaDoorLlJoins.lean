
/- LexJoins of layer 5: the tokens of two lines that tapes give, with a space between them, are those of both, if the first one has no semicolon.
   Conditions: the listed table lies as the program's own text lays it (the card ties it); every input. -/
import Derived.Test.YtlinfdgmebogbaaDoorFrameJ
import Derived.Test.YtlinfdgmebogbaaDoorLmA
import Derived.Test.YtlinfdgmebogbaaDoorLyB
import Derived.Test.YtlinfdgmebogbaaDoorLsA
set_option linter.unusedVariables false
set_option linter.unusedSimpArgs false
namespace Go.Proofs.YtlinfdgmebogbaaDoor
open Go.ChangeShapes Go.WideShapes Go.ChangeAt Go.RowKit

set_option maxRecDepth 100000 in
set_option maxHeartbeats 4000000 in
theorem walk_lexJoins (v : Value) (zs : List Int) (u : Value) (xs : List Int) (w : World) (hv : IntsB w.heap.size w v zs) (hu : IntsB w.heap.size w u xs) (ht : Tn w) :
    Calls Tryd.prog 7 #[v, u] w fun e w' => e = .returned (.bool true) ∧ Qw w w' := by
  have HV := Lib.hid hv
  have HU := Lib.hid hu
  have HT := Lib.hid ht
  have QQ := Lib.hid (Qw.refl w)
  clear hv hu ht
  by_cases hl : zs.length ≤ 120
  · have d2 : decide (zs.length ≤ 120) = true := decide_eq_true hl
    by_cases hl2 : xs.length ≤ 120
    · have d3 : decide (xs.length ≤ 120) = true := decide_eq_true hl2
      go_enter Tryd.func7, Tryd.ntmps7
      go_wp2_with (first | (go_at_call 10; ((with_reducible refine (lightF _ _ _ _ HV.out).mono ?_); rintro e w' ⟨rfl, rfl⟩)) | (go_at_call 10; ((with_reducible refine (lightF _ _ _ _ HU.out).mono ?_); rintro e w' ⟨rfl, rfl⟩)) | (go_at_call 13; ((with_reducible refine (newF _ _ _ (HV.out.now QQ.out)).mono ?_); rintro e w1 ⟨rfl, hT, q⟩; have TP := Lib.hid hT; have QN := Lib.hid q; clear hT q)) | (go_at_call 13; ((with_reducible refine (newF _ _ _ (HU.out.now QQ.out)).mono ?_); rintro e w1 ⟨rfl, hT, q⟩; have TPU := Lib.hid hT; have QN := Lib.hid q; clear hT q)) | (go_at_call 12; ((with_reducible refine (lineF _ _ _ _ _ TP.out).mono ?_); rintro e w2 ⟨⟨S, rfl, zS⟩, q⟩; replace q := new_line QN.out q; replace QQ := Lib.hid (QQ.out.trans q); clear q)) | (go_at_call 12; ((with_reducible refine (lineF _ _ _ _ _ TPU.out).mono ?_); rintro e w2 ⟨⟨T, rfl, zT⟩, q⟩; replace q := new_line QN.out q; replace QQ := Lib.hid (QQ.out.trans q); clear q)))
      go_loop [7] (fun kv => ∃ k : Nat, k ≤ S.size ∧ (∀ j (_ : j < k) (h : j < S.size), S[j] ≠ 59) ∧ kv = .int .i64 (k : Int)) (fun kv => S.size - (intOf kv).toNat)
      case atStart => exact ⟨0, by omega, fun j hj => by omega, rfl⟩
      case round =>
        obtain ⟨k, hk, hn, rfl⟩ := hrel
        have HN := Lib.hid hn
        clear hn
        by_cases hlt : k < S.size
        · by_cases h59 : S[k] = 59
          · have b2 : ((S[k].toNat : Int) == 59) = true := by rw [h59]; rfl
            clear h59
            go_wp2_with (first | (go_at_call 11; ((with_reducible refine (awakeL _ (HT.out.kept QQ.out)).mono ?_); rintro e w9 ⟨rfl, q⟩; replace QQ := Lib.hid (QQ.out.trans q); clear q)))
            go_ret
            exact ⟨rfl, QQ.out⟩
          · have b2 : ((S[k].toNat : Int) == 59) = false := beq_eq_false_iff_ne.2 (fun h => h59 (UInt8.toNat_inj.1 (by have : (59 : UInt8).toNat = 59 := rfl; omega)))
            have N2 := Lib.hid (no59_more HN.out hlt h59)
            clear h59
            go_wp2
            go_round
            case rel => exact ⟨k + 1, by omega, N2.out, by go_num⟩
            case measure => simp [intOf]; omega
        · obtain rfl : k = S.size := by omega
          have H59 := Lib.hid (no59 fun j h => HN.out j h h)
          clear HN
          have ca := lxTokens S (by omega)
          have cb := lxTokens T (by omega)
          have cc := fun w ht => lxTokens (S ++ ⟨#[32]⟩ ++ T) (by rw [ByteArray.size_append, ByteArray.size_append]; have : (ByteArray.mk #[32]).size = 1 := rfl; omega) w ht
          have ll : (S ++ (⟨#[32]⟩ : ByteArray) ++ T).data.toList = S.data.toList ++ 32 :: T.data.toList := by rw [cat_list, cat_list, List.append_assoc]; rfl
          rw [ll] at cc
          have o1 : (ByteArray.mk #[32]).size = 1 := rfl
          have sl := size_len S
          rcases lx_cases S.data.toList with ⟨ts, hx⟩ | ⟨x, hx⟩
          · obtain ⟨x1, x2, x3⟩ := res_ok hx
            rw [x3, x1] at ca
            have y := Lx.lx_join Lx.sep32 H59.out hx (v := T.data.toList)
            rw [Nat.zero_add, sl, show S.size + 1 = 0 + (S.size + 1) by omega, Lx.lx_shift] at y
            rcases lx_cases T.data.toList with ⟨us, hz⟩ | ⟨z, hz⟩
            · obtain ⟨z1, z2, z3⟩ := res_ok hz
              rw [hz] at y
              obtain ⟨y1, y2, y3⟩ := res_ok y
              rw [z3, z1] at cb
              rw [y3, y1] at cc
              have le : ts.length + (us.map (Lx.Tok.mv (S.size + 1))).length = (ts ++ us.map (Lx.Tok.mv (S.size + 1))).length := by rw [List.length_append]
              have lu : (us.map (Lx.Tok.mv (S.size + 1))).length = us.length := List.length_map _
              have AL := Lib.hid (mv_alike us (S.size + 1))
              have CA := Lib.hid ca
              have CB := Lib.hid cb
              have CC := Lib.hid cc
              clear ca cb cc hx x1 x2 x3 hz z1 z2 z3 ll y y1 y2 y3
              generalize us.map (Lx.Tok.mv (S.size + 1)) = us' at *
              go_wp2_with (first | (go_at_call 11; ((with_reducible refine (awakeL _ (HT.out.kept QQ.out)).mono ?_); rintro e w9 ⟨rfl, q⟩; replace QQ := Lib.hid (QQ.out.trans q); replace HA := Lib.hid (HA.out.next q); replace HB := Lib.hid (HB.out.next q); replace HC := Lib.hid (HC.out.next q); clear q)) | (go_at_call 14; ((with_reducible refine (CA.out _ (HT.out.kept QQ.out)).mono ?_); rintro e w3 ⟨⟨va, rfl, h⟩, q⟩; replace QQ := Lib.hid (QQ.out.trans q); obtain ⟨aHA, capHA, rfl, lHA, mHA, h⟩ := toks_form h; have HA := Lib.hid h; clear h; clear q)) | (go_at_call 14; ((with_reducible refine (CB.out _ (HT.out.kept QQ.out)).mono ?_); rintro e w4 ⟨⟨vb, rfl, h⟩, q⟩; replace QQ := Lib.hid (QQ.out.trans q); replace HA := Lib.hid (HA.out.next q); obtain ⟨aHB, capHB, rfl, lHB, mHB, h⟩ := toks_form h; have HB := Lib.hid h; clear h; clear q)) | (go_at_call 14; ((with_reducible refine (CC.out _ (HT.out.kept QQ.out)).mono ?_); rintro e w5 ⟨⟨vc, rfl, h⟩, q⟩; replace QQ := Lib.hid (QQ.out.trans q); replace HA := Lib.hid (HA.out.next q); replace HB := Lib.hid (HB.out.next q); obtain ⟨aHC, capHC, rfl, lHC, mHC, h⟩ := toks_form h; have HC := Lib.hid h; clear h; clear q)) | (go_at_call 16; ((with_reducible refine (sameT _ _ _ _ _ (toks_pre HC.out) HA.out (Nat.le_refl _)).mono ?_); rintro e w10 ⟨rfl, q⟩; replace QQ := Lib.hid (QQ.out.trans q); replace HA := Lib.hid (HA.out.next q); replace HB := Lib.hid (HB.out.next q); replace HC := Lib.hid (HC.out.next q); clear q)) | (go_at_call 21; ((with_reducible refine (alikeT _ _ _ _ AL.out _ _ (toks_suf HC.out lu) HB.out (Nat.le_refl _)).mono ?_); rintro e w11 ⟨rfl, q⟩; replace QQ := Lib.hid (QQ.out.trans q); replace HA := Lib.hid (HA.out.next q); replace HB := Lib.hid (HB.out.next q); replace HC := Lib.hid (HC.out.next q); clear q)))
              all_goals
                go_ret
                exact ⟨rfl, QQ.out⟩
            · obtain ⟨z1, z2, z3⟩ := res_bad hz
              rw [hz] at y
              obtain ⟨y1, y2, y3⟩ := res_bad y
              rw [z3, z2] at cb
              rw [y3, y2, y1, show ((z + (S.size + 1) : Nat) : Int) = (S.size : Int) + 1 + (z : Int) by omega] at cc
              have zb : z ≤ 200 := by have := Lx.lx_bad_lt hz; have := size_len T; omega
              have CA := Lib.hid ca
              have CB := Lib.hid cb
              have CC := Lib.hid cc
              clear ca cb cc hx x1 x2 x3 hz z1 z2 z3 ll y y1 y2 y3
              go_wp2_with (first | (go_at_call 11; ((with_reducible refine (awakeL _ (HT.out.kept QQ.out)).mono ?_); rintro e w9 ⟨rfl, q⟩; replace QQ := Lib.hid (QQ.out.trans q); clear q)) | (go_at_call 14; ((with_reducible refine (CA.out _ (HT.out.kept QQ.out)).mono ?_); rintro e w3 ⟨⟨va, rfl, h⟩, q⟩; clear h; replace QQ := Lib.hid (QQ.out.trans q); clear q)) | (go_at_call 14; ((with_reducible refine (CB.out _ (HT.out.kept QQ.out)).mono ?_); rintro e w4 ⟨⟨vb, rfl, h⟩, q⟩; clear h; replace QQ := Lib.hid (QQ.out.trans q); clear q)) | (go_at_call 14; ((with_reducible refine (CC.out _ (HT.out.kept QQ.out)).mono ?_); rintro e w5 ⟨⟨vc, rfl, h⟩, q⟩; obtain ⟨ac, cc, rfl, _, _, _⟩ := toks_form h; clear h; replace QQ := Lib.hid (QQ.out.trans q); clear q)))
              go_ret
              exact ⟨rfl, QQ.out⟩
          · obtain ⟨x1, x2, x3⟩ := res_bad hx
            rw [x3] at ca
            have CA := Lib.hid ca
            have CB := Lib.hid cb
            have CC := Lib.hid cc
            clear ca cb cc hx x1 x2 x3 ll
            go_wp2_with (first | (go_at_call 11; ((with_reducible refine (awakeL _ (HT.out.kept QQ.out)).mono ?_); rintro e w9 ⟨rfl, q⟩; replace QQ := Lib.hid (QQ.out.trans q); clear q)) | (go_at_call 14; ((with_reducible refine (CA.out _ (HT.out.kept QQ.out)).mono ?_); rintro e w3 ⟨⟨va, rfl, h⟩, q⟩; clear h; replace QQ := Lib.hid (QQ.out.trans q); clear q)) | (go_at_call 14; ((with_reducible refine (CB.out _ (HT.out.kept QQ.out)).mono ?_); rintro e w4 ⟨⟨vb, rfl, h⟩, q⟩; clear h; replace QQ := Lib.hid (QQ.out.trans q); clear q)) | (go_at_call 14; ((with_reducible refine (CC.out _ (HT.out.kept QQ.out)).mono ?_); rintro e w5 ⟨⟨vc, rfl, h⟩, q⟩; clear h; replace QQ := Lib.hid (QQ.out.trans q); clear q)))
            go_ret
            exact ⟨rfl, QQ.out⟩
    · have d3 : decide (xs.length ≤ 120) = false := decide_eq_false hl2
      go_enter Tryd.func7, Tryd.ntmps7
      go_wp2_with (first | (go_at_call 10; ((with_reducible refine (lightF _ _ _ _ HV.out).mono ?_); rintro e w' ⟨rfl, rfl⟩)) | (go_at_call 10; ((with_reducible refine (lightF _ _ _ _ HU.out).mono ?_); rintro e w' ⟨rfl, rfl⟩)) | (go_at_call 11; ((with_reducible refine (awakeL _ (HT.out.kept QQ.out)).mono ?_); rintro e w9 ⟨rfl, q⟩; replace QQ := Lib.hid (QQ.out.trans q); clear q)))
      go_ret
      exact ⟨rfl, QQ.out⟩
  · have d2 : decide (zs.length ≤ 120) = false := decide_eq_false hl
    go_enter Tryd.func7, Tryd.ntmps7
    go_wp2_with (first | (go_at_call 10; ((with_reducible refine (lightF _ _ _ _ HV.out).mono ?_); rintro e w' ⟨rfl, rfl⟩)) | (go_at_call 11; ((with_reducible refine (awakeL _ (HT.out.kept QQ.out)).mono ?_); rintro e w9 ⟨rfl, q⟩; replace QQ := Lib.hid (QQ.out.trans q); clear q)))
    go_ret
    exact ⟨rfl, QQ.out⟩

/-! ### the row and the card -/
theorem reads_lexJoins (os : Os) {H : Type} (enc : TypeId × Value → H) : ∃ places, DataW.whole enc Tryd.prog ((laidWorldN os).forCall (fun _ _ => 0) ⟨#[], #[.slice none 0 0, .slice none 0 0], []⟩).memory Tryd.f7.params.toList Rows.lexJoinsSpec.vars false #[(.slice none 0 0 : Value), .slice none 0 0].toList 8 = some ([.nil, .nil], [], places) :=
  ⟨[], by kernel_rfl⟩
set_option maxRecDepth 100000 in
theorem lifted_lexJoins (os : Os) (started : os.Started) (H : Type) (enc : TypeId × Value → H) (F : Stop.Interp) :
    ReturnsInHanded {} Tryd.checked os 7 .any ((OpenSpec.ofChange Rows.lexJoinsSpec).preRow enc Tryd.prog Tryd.f7 Rows.lexJoinsRow.domain false Rows.lexJoinsRow.laid) (((OpenSpec.ofChange Rows.lexJoinsSpec).at F).post enc Tryd.prog Tryd.f7 false true false false) := by
  obtain ⟨places, hx⟩ := reads_lexJoins os enc
  refine returnsInHanded_of_row (C := Tryd.checked) (s := OpenSpec.ofChange Rows.lexJoinsSpec) ownN started (by kernel_rfl) Tryd.func7
    (witness_row_at (enc := enc) (C := Tryd.checked) false (laidWorldN os) #[.slice none 0 0, .slice none 0 0] rfl (by kernel_rfl) (by kernel_rfl) (by kernel_rfl)
      (OpenSpec.preRow_of_cond 8 hx (by kernel_rfl) (fun k hk => by cases hk) (by kernel_rfl) (laid_metN os _))) ?_
  intro W base args ds gs before hval0 hW _ _ _ hL _ _
  have ht : Tn W := tableN hL
  have hval : ∀ (j : Nat) t v, Tryd.f7.params[j]? = some t → args[j]? = some v → Value.okWide Tryd.prog W .any base t v := hval0
  have hW' := hW
  obtain ⟨p, q, hA0, hV, rfl, hfz, hnd⟩ := hW
  have hA : DataW.TrodAll enc Tryd.prog W 0 (fun _ => true) true Tryd.f7.params.toList args.toList ds p := hA0
  rw [Tryd.params7] at hA hval
  obtain ⟨v0, vs0, d0, ds0, p0, q0, hargs, rfl, rfl, h0, r0⟩ := trodAll_cons hA
  obtain ⟨v1, vs1, d1, ds1, p1, q1, rfl, rfl, rfl, h1, r1⟩ := trodAll_cons r0
  obtain ⟨rfl, rfl, rfl⟩ := trodAll_nil r1
  obtain rfl : args = #[v0, v1] := by cases args; simp_all
  obtain ⟨rfl, rfl⟩ := trodVars_none hV
  obtain ⟨u0, hu0⟩ := in_ints (hval 0 22 v0 rfl rfl) h0
  obtain ⟨u1, hu1⟩ := in_ints (hval 1 22 v1 rfl rfl) h1
  clear hA0 hval0 hL
  simp only [List.append_nil] at hW'
  refine (walk_lexJoins v0 u0 v1 u1 W hu0 hu1 ht).mono fun e W' ⟨he, bel⟩ => ?_
  subst he
  exact ⟨_, rfl, _, _, _, [], _, [], hW', trodAll_mk1 (shut_bool Tryd.underlying4 _), (trodAll_cons_mk (out_ints h0 bel (fun x hx => hW'.lt x (by first | exact hx | simp [hx]))) (trodAll_cons_mk (out_ints h1 bel (fun x hx => hW'.lt x (by first | exact hx | simp [hx]))) trodAll_mk0)), rfl, Below.frame bel _, fun h => by cases h⟩

theorem lexJoins_said : Rows.LexJoinsSaid :=
  OpenClaim.holds_of_cond 7 Tryd.f7 rfl rfl rfl rfl rfl rfl rfl ⟨rfl, rfl, rfl, rfl, rfl⟩ rfl rfl rfl rfl rfl (by kernel_rfl) Tryd.func7 (by kernel_rfl)
    (of_decide_eq_true (by kernel_rfl)) (by unfold Func.isWrapper; first | (rw [if_pos (by decide +kernel)]; kernel_rfl) | (rw [if_neg (by decide +kernel)]; exact ⟨rfl, rfl⟩))
    (fun os started H enc _ F => by rw [OpenClaim.pre_eq_preRow]; exact lifted_lexJoins os started H enc F)

theorem plain_lexJoins (f : FuncId) (fn : Func) (hf : Tryd.pinned.checked.prog.funcNamed "cnc/cnclaw05.LexJoins" = some f) (hfn : Tryd.pinned.checked.prog.funcs[f]? = some fn) :
    false = Tryd.pinned.checked.prog.looks [] ∧ ∀ (j : Nat) t, fn.params[j]? = some t → Tryd.pinned.checked.prog.wantsStandIn t = false := by
  obtain rfl : f = 7 := Option.some.inj ((show Tryd.prog.funcNamed "cnc/cnclaw05.LexJoins" = some 7 by kernel_rfl).symm.trans hf) |>.symm
  obtain rfl : fn = Tryd.f7 := (Option.some.inj (Tryd.func7.symm.trans hfn)).symm
  refine ⟨by kernel_rfl, fun j t ht => ?_⟩
  rw [Tryd.params7] at ht
  obtain rfl : t = 22 := by simpa using Array.mem_of_getElem? ht
  exact (show Tryd.prog.wantsStandIn 22 = false by kernel_rfl)

/-- The statement. -/
theorem lexJoins_card : Rows.LexJoinsCardSaid :=
  Claim7.holds_tied_plain_at .later [] _ _ _ _ lexJoins_said (fun _ h => by cases h) (by kernel_rfl) (fun _ h => by cases h) lexJoins_row_tie rfl ⟨rfl, rfl⟩ (by kernel_rfl) rfl plain_lexJoins (by kernel_rfl)

end Go.Proofs.YtlinfdgmebogbaaDoor
