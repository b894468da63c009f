
/- LexStrange of layer 5: a byte that begins no token is an error at its offset behind any line that a tape gives, has no error and no semicolon, and a space.
   Conditions: the listed table lies as the program's own text lays it (the card ties it); every input. -/
import Derived.Test.YtlinfdgmebogbaaDoorFrameJ
import Derived.Test.YtlinfdgmebogbaaDoorLmA
import Derived.Test.YtlinfdgmebogbaaDoorLyB
import Derived.Test.YtlinfdgmebogbaaDoorFxG
set_option linter.unusedVariables false
set_option linter.unusedSimpArgs false
namespace Go.Proofs.YtlinfdgmebogbaaDoor
open Go.ChangeShapes Go.WideShapes Go.ChangeAt Go.RowKit

theorem oddc_no {c : Int} (h : Lx.oddc c = false) : (c < 97 ∨ 122 < c) ∧ c < 128 ∧ 9 ≤ c ∧ (c == 37) = false ∧ (c == 36) = false ∧ (c == 10) = false ∧ (c == 46) = false ∧ (c == 40) = false ∧ (c == 41) = false := by
  unfold Lx.oddc at h
  simp only [Bool.or_eq_false_iff, Bool.and_eq_false_iff, decide_eq_false_iff_not] at h
  obtain ⟨⟨⟨⟨⟨⟨⟨⟨a, b⟩, c1⟩, d⟩, e⟩, f⟩, g⟩, i⟩, j⟩ := h
  exact ⟨by omega, by omega, by omega, d, e, f, g, i, j⟩
theorem byte_txt (C : UInt8) (w : World) : (convert 46 9 (.slice (some ⟨w.heap.size, 0, none⟩) 1 1)).run Tryd.prog (w.alloc (.cells #[.int .u8 (C.toNat : Int)] 5)) = .ok (.string (bs [C])) (w.alloc (.cells #[.int .u8 (C.toNat : Int)] 5)) :=
  run_convert_bytes_back (P := Tryd.prog) _ 46 9 5 ⟨w.heap.size, 0, none⟩ 1 [C] Tryd.underlying46 Tryd.underlying5 Tryd.underlying9 (fun j hj => by
    obtain rfl : j = 0 := by simpa using hj
    rw [Addr.add_mid, (Bx.new w #[.int .u8 (C.toNat : Int)] 5).cell]; rfl)
theorem qalloc {a b : World} (q : Qw a b) (o : Obj) : Qw a (b.alloc o) := q.trans ((Below.refl _ _).alloc (Nat.le_refl _) _)

set_option maxRecDepth 100000 in
set_option maxHeartbeats 4000000 in
theorem walk_lexStrange (v : Value) (zs : List Int) (c : Int) (c1 : 0 ≤ c) (c2 : c ≤ 255) (w : World) (hv : IntsB w.heap.size w v zs) (ht : Tn w) :
    Calls Tryd.prog 9 #[v, .int .u8 c] w fun e w' => e = .returned (.bool true) ∧ Qw w w' := by
  have HV := Lib.hid hv
  have HT := Lib.hid ht
  have QQ := Lib.hid (Qw.refl w)
  clear hv ht
  obtain ⟨C, rfl⟩ : ∃ C : UInt8, c = (C.toNat : Int) := ⟨UInt8.ofNat c.toNat, by rw [UInt8.toNat_ofNat_of_lt' (by show c.toNat < 256; omega)]; omega⟩
  by_cases hl : zs.length ≤ 120
  · have d2 : decide (zs.length ≤ 120) = true := decide_eq_true hl
    go_enter Tryd.func9, Tryd.ntmps9
    go_wp2_with (first | (go_at_call 10; ((with_reducible refine (lightF _ _ _ _ HV.out).mono ?_); rintro e w' ⟨rfl, rfl⟩)) | (go_at_call 13; ((with_reducible refine (newF _ _ _ (HV.out.now QQ.out)).mono ?_); rintro e w1 ⟨rfl, hT, q⟩; have TP := Lib.hid hT; have QN := Lib.hid q; clear hT q)) | (go_at_call 12; ((with_reducible refine (lineF _ _ _ _ _ TP.out).mono ?_); rintro e w2 ⟨⟨S, rfl, zS⟩, q⟩; replace q := new_line QN.out q; replace QQ := Lib.hid (QQ.out.trans q); clear q)))
    go_loop [6] (fun kv => ∃ k : Nat, k ≤ S.size ∧ (∀ j (_ : j < k) (h : j < S.size), S[j] ≠ 59) ∧ kv = .int .i64 (k : Int)) (fun kv => S.size - (intOf kv).toNat)
    case atStart => exact ⟨0, by omega, fun j hj => by omega, rfl⟩
    case round =>
      obtain ⟨k, hk, hn, rfl⟩ := hrel
      have HN := Lib.hid hn
      clear hn
      by_cases hlt : k < S.size
      · by_cases h59 : S[k] = 59
        · have b2 : ((S[k].toNat : Int) == 59) = true := by rw [h59]; rfl
          clear h59
          go_wp2_with (first | (go_at_call 11; ((with_reducible refine (awakeL _ (HT.out.kept QQ.out)).mono ?_); rintro e w9 ⟨rfl, q⟩; replace QQ := Lib.hid (QQ.out.trans q); clear q)))
          go_ret
          exact ⟨rfl, QQ.out⟩
        · have b2 : ((S[k].toNat : Int) == 59) = false := beq_eq_false_iff_ne.2 (fun h => h59 (UInt8.toNat_inj.1 (by have : (59 : UInt8).toNat = 59 := rfl; omega)))
          have N2 := Lib.hid (no59_more HN.out hlt h59)
          clear h59
          go_wp2
          go_round
          case rel => exact ⟨k + 1, by omega, N2.out, by go_num⟩
          case measure => simp [intOf]; omega
      · obtain rfl : k = S.size := by omega
        have H59 := Lib.hid (no59 fun j h => HN.out j h h)
        clear HN
        have ca := lxTokens S (by omega)
        have cb := fun w ht => lxTokens (S ++ ⟨#[32]⟩ ++ bs [C]) (by rw [ByteArray.size_append, ByteArray.size_append, bs_size]; have : (ByteArray.mk #[32]).size = 1 := rfl; simp only [List.length_cons, List.length_nil]; omega) w ht
        have ll : (S ++ (⟨#[32]⟩ : ByteArray) ++ bs [C]).data.toList = S.data.toList ++ 32 :: [C] := by rw [cat_list, cat_list, bs_list, List.append_assoc]; rfl
        rw [ll] at cb
        have cv := fun w => byte_txt C w
        have b1 : (bs [C]).size = 1 := by rw [bs_size]; rfl
        have sl := size_len S
        rcases lx_cases S.data.toList with ⟨ts, hx⟩ | ⟨x, hx⟩
        · obtain ⟨x1, x2, x3⟩ := res_ok hx
          rw [x3] at ca
          cases ho : Lx.oddc (C.toNat : Int)
          · obtain ⟨o1, o2, o3, o4, o5, o6, o7, o8, o9⟩ := oddc_no ho
            have CA := Lib.hid ca
            have CB := Lib.hid cb
            clear ca cb hx x1 x2 x3 ll ho
            generalize hX : bs [C] = X at *
            rcases o1 with o1 | o1
            · go_wp2_with (first | (go_at_call 11; ((with_reducible refine (awakeL _ (HT.out.kept QQ.out)).mono ?_); rintro e w9 ⟨rfl, q⟩; replace QQ := Lib.hid (QQ.out.trans q); clear q)) | (go_at_call 14; ((with_reducible refine (CA.out _ (HT.out.kept QQ.out)).mono ?_); rintro e w3 ⟨⟨va, rfl, h⟩, q⟩; clear h; replace QQ := Lib.hid (QQ.out.trans q); clear q)) | (go_at_call 14; ((with_reducible refine (CB.out _ (HT.out.kept (qalloc QQ.out _))).mono ?_); rintro e w4 ⟨⟨vb, rfl, h⟩, q⟩; clear h; replace QQ := Lib.hid ((qalloc QQ.out _).trans q); clear q)))
              go_ret
              exact ⟨rfl, QQ.out⟩
            · go_wp2_with (first | (go_at_call 11; ((with_reducible refine (awakeL _ (HT.out.kept QQ.out)).mono ?_); rintro e w9 ⟨rfl, q⟩; replace QQ := Lib.hid (QQ.out.trans q); clear q)) | (go_at_call 14; ((with_reducible refine (CA.out _ (HT.out.kept QQ.out)).mono ?_); rintro e w3 ⟨⟨va, rfl, h⟩, q⟩; clear h; replace QQ := Lib.hid (QQ.out.trans q); clear q)) | (go_at_call 14; ((with_reducible refine (CB.out _ (HT.out.kept (qalloc QQ.out _))).mono ?_); rintro e w4 ⟨⟨vb, rfl, h⟩, q⟩; clear h; replace QQ := Lib.hid ((qalloc QQ.out _).trans q); clear q)))
              go_ret
              exact ⟨rfl, QQ.out⟩
          · have y := Lx.lx_join Lx.sep32 H59.out hx (v := [C])
            rw [Lx.strange C ho, Nat.zero_add, sl] at y
            obtain ⟨y1, y2, y3⟩ := res_bad y
            rw [y2, y3, show ((S.size + 1 : Nat) : Int) = (S.size : Int) + 1 by omega] at cb
            have CA := Lib.hid ca
            have CB := Lib.hid cb
            clear ca cb hx x1 x2 x3 ll y y1 y2 y3 ho
            generalize hX : bs [C] = X at *
            go_wp2_with (first | (go_at_call 11; ((with_reducible refine (awakeL _ (HT.out.kept QQ.out)).mono ?_); rintro e w9 ⟨rfl, q⟩; replace QQ := Lib.hid (QQ.out.trans q); clear q)) | (go_at_call 14; ((with_reducible refine (CA.out _ (HT.out.kept QQ.out)).mono ?_); rintro e w3 ⟨⟨va, rfl, h⟩, q⟩; clear h; replace QQ := Lib.hid (QQ.out.trans q); clear q)) | (go_at_call 14; ((with_reducible refine (CB.out _ (HT.out.kept (qalloc QQ.out _))).mono ?_); rintro e w4 ⟨⟨vb, rfl, h⟩, q⟩; clear h; replace QQ := Lib.hid ((qalloc QQ.out _).trans q); clear q)))
            all_goals
              go_ret
              exact ⟨rfl, QQ.out⟩
        · obtain ⟨x1, x2, x3⟩ := res_bad hx
          rw [x3] at ca
          have CA := Lib.hid ca
          have CB := Lib.hid cb
          clear ca cb hx x1 x2 x3 ll
          generalize hX : bs [C] = X at *
          go_wp2_with (first | (go_at_call 11; ((with_reducible refine (awakeL _ (HT.out.kept QQ.out)).mono ?_); rintro e w9 ⟨rfl, q⟩; replace QQ := Lib.hid (QQ.out.trans q); clear q)) | (go_at_call 14; ((with_reducible refine (CA.out _ (HT.out.kept QQ.out)).mono ?_); rintro e w3 ⟨⟨va, rfl, h⟩, q⟩; clear h; replace QQ := Lib.hid (QQ.out.trans q); clear q)) | (go_at_call 14; ((with_reducible refine (CB.out _ (HT.out.kept (qalloc QQ.out _))).mono ?_); rintro e w4 ⟨⟨vb, rfl, h⟩, q⟩; clear h; replace QQ := Lib.hid ((qalloc QQ.out _).trans q); clear q)))
          all_goals
            go_ret
            exact ⟨rfl, QQ.out⟩
  · have d2 : decide (zs.length ≤ 120) = false := decide_eq_false hl
    go_enter Tryd.func9, Tryd.ntmps9
    go_wp2_with (first | (go_at_call 10; ((with_reducible refine (lightF _ _ _ _ HV.out).mono ?_); rintro e w' ⟨rfl, rfl⟩)) | (go_at_call 11; ((with_reducible refine (awakeL _ (HT.out.kept QQ.out)).mono ?_); rintro e w9 ⟨rfl, q⟩; replace QQ := Lib.hid (QQ.out.trans q); clear q)))
    go_ret
    exact ⟨rfl, QQ.out⟩

/-! ### the row and the card -/
theorem reads_lexStrange (os : Os) {H : Type} (enc : TypeId × Value → H) : ∃ places, DataW.whole enc Tryd.prog ((laidWorldN os).forCall (fun _ _ => 0) ⟨#[], #[.slice none 0 0, .int .u8 0], []⟩).memory Tryd.f9.params.toList Rows.lexStrangeSpec.vars false #[(.slice none 0 0 : Value), .int .u8 0].toList 8 = some ([.nil, .lit (.int .u8 0)], [], places) :=
  ⟨[], by kernel_rfl⟩
set_option maxRecDepth 100000 in
theorem lifted_lexStrange (os : Os) (started : os.Started) (H : Type) (enc : TypeId × Value → H) (F : Stop.Interp) :
    ReturnsInHanded {} Tryd.checked os 9 .any ((OpenSpec.ofChange Rows.lexStrangeSpec).preRow enc Tryd.prog Tryd.f9 Rows.lexStrangeRow.domain false Rows.lexStrangeRow.laid) (((OpenSpec.ofChange Rows.lexStrangeSpec).at F).post enc Tryd.prog Tryd.f9 false true false false) := by
  obtain ⟨places, hx⟩ := reads_lexStrange os enc
  refine returnsInHanded_of_row (C := Tryd.checked) (s := OpenSpec.ofChange Rows.lexStrangeSpec) ownN started (by kernel_rfl) Tryd.func9
    (witness_row_at (enc := enc) (C := Tryd.checked) false (laidWorldN os) #[.slice none 0 0, .int .u8 0] rfl (by kernel_rfl) (by kernel_rfl) (by kernel_rfl)
      (OpenSpec.preRow_of_cond 8 hx (by kernel_rfl) (fun k hk => by cases hk) (by kernel_rfl) (laid_metN os _))) ?_
  intro W base args ds gs before hval0 hW _ _ _ hL _ _
  have ht : Tn W := tableN hL
  have hval : ∀ (j : Nat) t v, Tryd.f9.params[j]? = some t → args[j]? = some v → Value.okWide Tryd.prog W .any base t v := hval0
  have hW' := hW
  obtain ⟨p, q, hA0, hV, rfl, hfz, hnd⟩ := hW
  have hA : DataW.TrodAll enc Tryd.prog W 0 (fun _ => true) true Tryd.f9.params.toList args.toList ds p := hA0
  rw [Tryd.params9] at hA hval
  obtain ⟨v0, vs0, d0, ds0, p0, q0, hargs, rfl, rfl, h0, r0⟩ := trodAll_cons hA
  obtain ⟨v1, vs1, d1, ds1, p1, q1, rfl, rfl, rfl, h1, r1⟩ := trodAll_cons r0
  obtain ⟨rfl, rfl, rfl⟩ := trodAll_nil r1
  obtain rfl : args = #[v0, v1] := by cases args; simp_all
  obtain ⟨rfl, rfl⟩ := trodVars_none hV
  obtain ⟨u0, hu0⟩ := in_ints (hval 0 22 v0 rfl rfl) h0
  obtain ⟨a1, rfl, rfl, rfl, w1⟩ := open_int Tryd.underlying5 (hval 1 5 v1 rfl rfl) h1
  obtain ⟨x1, y1⟩ := u8_of_wf w1
  clear hA0 hval0 hL
  simp only [List.append_nil] at hW'
  refine (walk_lexStrange v0 u0 a1 x1 y1 W hu0 ht).mono fun e W' ⟨he, bel⟩ => ?_
  subst he
  exact ⟨_, rfl, _, _, _, [], _, [], hW', trodAll_mk1 (shut_bool Tryd.underlying4 _), (trodAll_cons_mk (out_ints h0 bel (fun x hx => hW'.lt x (by first | exact hx | simp [hx]))) (trodAll_cons_mk (shut_int Tryd.underlying5 w1) trodAll_mk0)), rfl, Below.frame bel _, fun h => by cases h⟩

theorem lexStrange_said : Rows.LexStrangeSaid :=
  OpenClaim.holds_of_cond 9 Tryd.f9 rfl rfl rfl rfl rfl rfl rfl ⟨rfl, rfl, rfl, rfl, rfl⟩ rfl rfl rfl rfl rfl (by kernel_rfl) Tryd.func9 (by kernel_rfl)
    (of_decide_eq_true (by kernel_rfl)) (by unfold Func.isWrapper; first | (rw [if_pos (by decide +kernel)]; kernel_rfl) | (rw [if_neg (by decide +kernel)]; exact ⟨rfl, rfl⟩))
    (fun os started H enc _ F => by rw [OpenClaim.pre_eq_preRow]; exact lifted_lexStrange os started H enc F)

theorem plain_lexStrange (f : FuncId) (fn : Func) (hf : Tryd.pinned.checked.prog.funcNamed "cnc/cnclaw05.LexStrange" = some f) (hfn : Tryd.pinned.checked.prog.funcs[f]? = some fn) :
    false = Tryd.pinned.checked.prog.looks [] ∧ ∀ (j : Nat) t, fn.params[j]? = some t → Tryd.pinned.checked.prog.wantsStandIn t = false := by
  obtain rfl : f = 9 := Option.some.inj ((show Tryd.prog.funcNamed "cnc/cnclaw05.LexStrange" = some 9 by kernel_rfl).symm.trans hf) |>.symm
  obtain rfl : fn = Tryd.f9 := (Option.some.inj (Tryd.func9.symm.trans hfn)).symm
  refine ⟨by kernel_rfl, fun j t ht => ?_⟩
  rw [Tryd.params9] at ht
  have hm : t = 22 ∨ t = 5 := by simpa using Array.mem_of_getElem? ht
  rcases hm with rfl | rfl
  · exact (show Tryd.prog.wantsStandIn 22 = false by kernel_rfl)
  · exact (show Tryd.prog.wantsStandIn 5 = false by kernel_rfl)

/-- The statement. -/
theorem lexStrange_card : Rows.LexStrangeCardSaid :=
  Claim7.holds_tied_plain_at .later [] _ _ _ _ lexStrange_said (fun _ h => by cases h) (by kernel_rfl) (fun _ h => by cases h) lexStrange_row_tie rfl ⟨rfl, rfl⟩ (by kernel_rfl) rfl plain_lexStrange (by kernel_rfl)

end Go.Proofs.YtlinfdgmebogbaaDoor
