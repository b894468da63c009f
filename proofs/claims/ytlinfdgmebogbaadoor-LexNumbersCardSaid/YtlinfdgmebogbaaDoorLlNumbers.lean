
/- LexNumbers of layer 5: a letter and a number from 0 to 999999999.999999 give two tokens, the second one with the number's value; with more points behind it, an error at the number's offset.
   Conditions: the listed table lies as the program's own text lays it (the card ties it); every input. -/
import Derived.Test.YtlinfdgmebogbaaDoorFrameN
import Derived.Test.YtlinfdgmebogbaaDoorLyB
import Derived.Test.YtlinfdgmebogbaaDoorFxH
import Derived.Test.YtlinfdgmebogbaaDoorCore
set_option linter.unusedVariables false
set_option linter.unusedSimpArgs false
namespace Go.Proofs.YtlinfdgmebogbaaDoor
open Go.ChangeShapes Go.WideShapes Go.ChangeAt Go.RowKit

/-- What the second of two tokens is. -/
def Two (m : Int) (b off : Nat) (w : World) : Prop := b < w.heap.size ∧ w.cell? ⟨b, off + 4, none⟩ = some (.int .i64 2) ∧ w.cell? ⟨b, off + 4 + 1, none⟩ = some (.int .i64 m) ∧ w.cell? ⟨b, off + 4 + 2, none⟩ = some (.int .i64 1) ∧ w.cell? ⟨b, off + 4 + 3, none⟩ = some (.string ⟨#[]⟩) ∧
  w.cell? ⟨b, off + 5, none⟩ = some (.int .i64 m) ∧ w.cell? ⟨b, off + 6, none⟩ = some (.int .i64 1) ∧ w.cell? ⟨b, off + 7, none⟩ = some (.string ⟨#[]⟩)
theorem Two.next {m : Int} {b off : Nat} {w w' : World} (h : Two m b off w) (q : Qw w w') : Two m b off w' := by
  obtain ⟨h0, h1, h2, h3, h4, h5, h6, h7⟩ := h
  have k : ∀ o, w'.cell? ⟨b, o, none⟩ = w.cell? ⟨b, o, none⟩ := fun o => q.cell (p := ⟨b, o, none⟩) h0
  exact ⟨Nat.lt_of_lt_of_le h0 q.size, (k _).trans h1, (k _).trans h2, (k _).trans h3, (k _).trans h4, (k _).trans h5, (k _).trans h6, (k _).trans h7⟩
theorem two_cells {m : Int} {w : World} {v : Value} (h : ToksB w.heap.size w v [⟨1, 88, 0, []⟩, ⟨2, m, 1, []⟩]) : ∃ b off cap, v = .slice (some ⟨b, off, none⟩) 2 cap ∧ Two m b off w := by
  obtain ⟨a, cap, rfl, l1, l2, h3⟩ := h
  obtain ⟨b, off, rfl, hb, hc⟩ := h3.resolve_left (by simp)
  obtain ⟨k0, k1, k2, k3⟩ := hc 1 (by simp)
  exact ⟨b, off, cap, rfl, hb, k0, k1, k2, k3, k1, k2, k3⟩
theorem toks_nil {w : World} {v : Value} (h : ToksB w.heap.size w v []) : ∃ cap a, v = .slice a 0 cap := by
  obtain ⟨a, cap, rfl, _⟩ := h
  exact ⟨cap, a, rfl⟩

set_option maxRecDepth 100000 in
set_option maxHeartbeats 2000000 in
theorem walk_lexNumbers (n : Int) (n1 : -9223372036854775808 ≤ n) (n2 : n ≤ 9223372036854775807) (w : World) (ht : Tn w) :
    Calls Tryd.prog 8 #[.int .i64 n] w fun e w' => e = .returned (.bool true) ∧ Qw w w' := by
  have HT := Lib.hid ht
  have QQ := Lib.hid (Qw.refl w)
  clear ht
  have n1 := fun w => betweenW n 0 999999999999999 n1 n2 (by omega) (by omega) (by omega) (by omega) w
  obtain ⟨A1, A2⟩ := btwN n 0 999999999999999 (by omega)
  have N1 := Lib.hid n1
  clear n1
  generalize 0 + n % (999999999999999 - 0 + 1) = m at *
  have fm := fun w => rxFormat m w
  have e1 : fmtl m = fmtp m := by unfold fmtl; rw [if_pos (vld_t (by omega) (by omega)), if_neg (by omega)]
  rw [e1] at fm
  have ln := fmtp_len m A1 (by omega)
  obtain ⟨X, hX⟩ : ∃ X : ByteArray, X = ⟨(fmtp m).toArray⟩ := ⟨_, rfl⟩
  rw [← hX] at fm
  have xl : X.data.toList = fmtp m := by rw [hX]
  have xs : X.size ≤ 1010 := by rw [← size_len, xl]; exact ln
  have lA : ((⟨#[88]⟩ : ByteArray) ++ X).data.toList = 88 :: fmtp m := by rw [cat_list, xl]; rfl
  have lB : ((⟨#[88]⟩ : ByteArray) ++ X ++ ⟨#[46, 49, 46]⟩).data.toList = 88 :: (fmtp m ++ [46, 49, 46]) := by rw [cat_list, lA]; rfl
  obtain ⟨x1, x2, x3⟩ := res_ok (Lx.numX m A1 (by omega))
  obtain ⟨y1, y2, y3⟩ := res_bad (Lx.numY m)
  have o1 : (ByteArray.mk #[88]).size = 1 := rfl
  have o3 : (ByteArray.mk #[46, 49, 46]).size = 3 := rfl
  have cx := fun w ht => lxTokens ((⟨#[88]⟩ : ByteArray) ++ X) (by rw [ByteArray.size_append]; omega) w ht
  have cy := fun w ht => lxTokens ((⟨#[88]⟩ : ByteArray) ++ X ++ ⟨#[46, 49, 46]⟩) (by rw [ByteArray.size_append, ByteArray.size_append]; omega) w ht
  rw [lA, x1, x2, x3] at cx
  rw [lB, y1, y2, y3] at cy
  have FM := Lib.hid fm
  have CX := Lib.hid cx
  have CY := Lib.hid cy
  clear fm cx cy e1 ln hX xl lA lB x1 x2 x3 y1 y2 y3 o1 o3
  go_enter Tryd.func8, Tryd.ntmps8
  go_wp2_with (first | (go_at_call 11; ((with_reducible refine (awakeL _ (HT.out.kept QQ.out)).mono ?_); rintro e w9 ⟨rfl, q⟩; replace G := Lib.hid (G.out.next q); obtain ⟨gb, g4, g5, g6, g7, g5', g6', g7'⟩ := G.out; replace QQ := Lib.hid (QQ.out.trans q); clear q gb)) | (go_at_call 23; ((with_reducible refine (N1.out _).mono ?_); rintro e w' ⟨rfl, rfl⟩)) | (go_at_call 24; ((with_reducible refine (FM.out _).mono ?_); rintro e w' ⟨rfl, rfl⟩)) | (go_at_call 14; ((with_reducible refine (CX.out _ (HT.out.kept QQ.out)).mono ?_); rintro e w3 ⟨⟨va, rfl, h⟩, q⟩; obtain ⟨b, off, cap, rfl, g⟩ := two_cells h; have G := Lib.hid g; clear h g; replace QQ := Lib.hid (QQ.out.trans q); clear q)) | (go_at_call 14; ((with_reducible refine (CY.out _ (HT.out.kept QQ.out)).mono ?_); rintro e w4 ⟨⟨vb, rfl, h⟩, q⟩; replace G := Lib.hid (G.out.next q); obtain ⟨capb, ab, rfl⟩ := toks_nil h; clear h; replace QQ := Lib.hid (QQ.out.trans q); clear q)))
  go_ret
  exact ⟨rfl, QQ.out⟩

/-! ### the row and the card -/
theorem reads_lexNumbers (os : Os) {H : Type} (enc : TypeId × Value → H) : ∃ places, DataW.whole enc Tryd.prog ((laidWorldN os).forCall (fun _ _ => 0) ⟨#[], #[.int .i64 0], []⟩).memory Tryd.f8.params.toList Rows.lexNumbersSpec.vars false #[(.int .i64 0 : Value)].toList 8 = some ([.lit (.int .i64 0)], [], places) :=
  ⟨[], by kernel_rfl⟩
set_option maxRecDepth 100000 in
theorem lifted_lexNumbers (os : Os) (started : os.Started) (H : Type) (enc : TypeId × Value → H) (F : Stop.Interp) :
    ReturnsInHanded {} Tryd.checked os 8 .any ((OpenSpec.ofChange Rows.lexNumbersSpec).preRow enc Tryd.prog Tryd.f8 Rows.lexNumbersRow.domain false Rows.lexNumbersRow.laid) (((OpenSpec.ofChange Rows.lexNumbersSpec).at F).post enc Tryd.prog Tryd.f8 false true false false) := by
  obtain ⟨places, hx⟩ := reads_lexNumbers os enc
  refine returnsInHanded_of_row (C := Tryd.checked) (s := OpenSpec.ofChange Rows.lexNumbersSpec) ownN started (by kernel_rfl) Tryd.func8
    (witness_row_at (enc := enc) (C := Tryd.checked) false (laidWorldN os) #[.int .i64 0] rfl (by kernel_rfl) (by kernel_rfl) (by kernel_rfl)
      (OpenSpec.preRow_of_cond 8 hx (by kernel_rfl) (fun k hk => by cases hk) (by kernel_rfl) (laid_metN os _))) ?_
  intro W base args ds gs before hval0 hW _ _ _ hL _ _
  have ht : Tn W := tableN hL
  have hval : ∀ (j : Nat) t v, Tryd.f8.params[j]? = some t → args[j]? = some v → Value.okWide Tryd.prog W .any base t v := hval0
  have hW' := hW
  obtain ⟨p, q, hA0, hV, rfl, hfz, hnd⟩ := hW
  have hA : DataW.TrodAll enc Tryd.prog W 0 (fun _ => true) true Tryd.f8.params.toList args.toList ds p := hA0
  rw [Tryd.params8] at hA hval
  obtain ⟨v0, vs0, d0, ds0, p0, q0, hargs, rfl, rfl, h0, r0⟩ := trodAll_cons hA
  obtain ⟨rfl, rfl, rfl⟩ := trodAll_nil r0
  obtain rfl : args = #[v0] := by cases args; simp_all
  obtain ⟨rfl, rfl⟩ := trodVars_none hV
  obtain ⟨a0, rfl, rfl, rfl, w0⟩ := open_int Tryd.underlying3 (hval 0 3 v0 rfl rfl) h0
  obtain ⟨x0, y0⟩ := i64_of_wf w0
  clear hA0 hval0 hL
  simp only [List.append_nil] at hW'
  refine (walk_lexNumbers a0 x0 y0 W ht).mono fun e W' ⟨he, bel⟩ => ?_
  subst he
  exact ⟨_, rfl, _, _, _, [], _, [], hW', trodAll_mk1 (shut_bool Tryd.underlying4 _), (trodAll_cons_mk (shut_int Tryd.underlying3 w0) trodAll_mk0), rfl, Below.frame bel _, fun h => by cases h⟩

theorem lexNumbers_said : Rows.LexNumbersSaid :=
  OpenClaim.holds_of_cond 8 Tryd.f8 rfl rfl rfl rfl rfl rfl rfl ⟨rfl, rfl, rfl, rfl, rfl⟩ rfl rfl rfl rfl rfl (by kernel_rfl) Tryd.func8 (by kernel_rfl)
    (of_decide_eq_true (by kernel_rfl)) (by unfold Func.isWrapper; first | (rw [if_pos (by decide +kernel)]; kernel_rfl) | (rw [if_neg (by decide +kernel)]; exact ⟨rfl, rfl⟩))
    (fun os started H enc _ F => by rw [OpenClaim.pre_eq_preRow]; exact lifted_lexNumbers os started H enc F)

theorem plain_lexNumbers (f : FuncId) (fn : Func) (hf : Tryd.pinned.checked.prog.funcNamed "cnc/cnclaw05.LexNumbers" = some f) (hfn : Tryd.pinned.checked.prog.funcs[f]? = some fn) :
    false = Tryd.pinned.checked.prog.looks [] ∧ ∀ (j : Nat) t, fn.params[j]? = some t → Tryd.pinned.checked.prog.wantsStandIn t = false := by
  obtain rfl : f = 8 := Option.some.inj ((show Tryd.prog.funcNamed "cnc/cnclaw05.LexNumbers" = some 8 by kernel_rfl).symm.trans hf) |>.symm
  obtain rfl : fn = Tryd.f8 := (Option.some.inj (Tryd.func8.symm.trans hfn)).symm
  refine ⟨by kernel_rfl, fun j t ht => ?_⟩
  rw [Tryd.params8] at ht
  obtain rfl : t = 3 := by simpa using Array.mem_of_getElem? ht
  exact (show Tryd.prog.wantsStandIn 3 = false by kernel_rfl)

/-- The statement. -/
theorem lexNumbers_card : Rows.LexNumbersCardSaid :=
  Claim7.holds_tied_plain_at .later [] _ _ _ _ lexNumbers_said (fun _ h => by cases h) (by kernel_rfl) (fun _ h => by cases h) lexNumbers_row_tie rfl ⟨rfl, rfl⟩ (by kernel_rfl) rfl plain_lexNumbers (by kernel_rfl)

end Go.Proofs.YtlinfdgmebogbaaDoor
