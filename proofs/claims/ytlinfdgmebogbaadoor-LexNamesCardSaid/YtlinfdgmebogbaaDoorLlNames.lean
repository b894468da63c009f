
/- LexNames of layer 5: Name reports whether a string is one of the names, for any text of at most 100 bytes; and for the names, for some that are none, for names with a digit behind them and for the empty text.
   Conditions: the listed table lies as the program's own text lays it (the card ties it); every input. -/
import Derived.Test.YtlinfdgmebogbaaDoorFrameN
import Derived.Test.YtlinfdgmebogbaaDoorLyB
import Derived.Test.YtlinfdgmebogbaaDoorLrB
set_option linter.unusedVariables false
set_option linter.unusedSimpArgs false
namespace Go.Proofs.YtlinfdgmebogbaaDoor
open Go.ChangeShapes Go.WideShapes Go.ChangeAt Go.RowKit

/-- The names of the law. -/
def nmC : List (List UInt8) := Lx.nms ++ [[84, 72], [105, 102], [69, 78, 68, 88]]
def nmB : Array Value := (nmC.map fun n => .string (bs n)).toArray
theorem nmB_get (j : Nat) (hj : j < 27) : ∃ X : ByteArray, nmB[j]? = some (.string X) ∧ X.size ≤ 5 ∧ isnm (X ++ ⟨#[49]⟩).data.toList = false := by
  have k : ∀ j : Fin 27, (nmC.getD j.val []).length ≤ 5 ∧ isnm (nmC.getD j.val [] ++ [49]) = false := by decide +kernel
  have l : nmC.length = 27 := rfl
  refine ⟨bs (nmC.getD j []), ?_, by rw [bs_size]; exact (k ⟨j, hj⟩).1, ?_⟩
  · unfold nmB
    rw [List.getElem?_toArray, List.getElem?_map, List.getD_eq_getElem?_getD, List.getElem?_eq_getElem (by omega)]
    rfl
  · have e : (bs (nmC.getD j []) ++ (⟨#[49]⟩ : ByteArray)).data.toList = nmC.getD j [] ++ [49] := by
      rw [ByteArray.data_append, Array.toList_append, bs_list]
    rw [e]; exact (k ⟨j, hj⟩).2

set_option maxRecDepth 100000 in
set_option maxHeartbeats 2000000 in
theorem walk_lexNames (s : ByteArray) (hs : s.size ≤ maxLen) (k : Int) (k1 : -9223372036854775808 ≤ k) (k2 : k ≤ 9223372036854775807) (w : World) (ht : Tn w) :
    Calls Tryd.prog 4 #[.string s, .int .i64 k] w fun e w' => e = .returned (.bool true) ∧ Qw w w' := by
  have hm : s.size ≤ 9223372036854775807 := hs
  have HT := Lib.hid ht
  have QQ := Lib.hid (Qw.refl w)
  clear ht
  by_cases h2 : s.size ≤ 100
  · have d1 : decide ((100 : Int) < (s.size : Int)) = false := decide_eq_false (by omega)
    have md := fun w => modW k 27 k1 k2 (by omega) (by omega) w
    have m0 := Int.emod_nonneg k (show (27 : Int) ≠ 0 by omega)
    have m1 := Int.emod_lt_of_pos k (show (0 : Int) < 27 by omega)
    generalize k % 27 = r at *
    obtain ⟨R, rfl⟩ := Int.eq_ofNat_of_zero_le m0
    obtain ⟨X, hX, X5, hf⟩ := nmB_get R (by omega)
    have c0 := fun w ht => lxName ⟨#[]⟩ w ht
    rw [show isnm (ByteArray.mk #[]).data.toList = false from rfl] at c0
    have c1 := fun w ht => lxName (X ++ ⟨#[49]⟩) w ht
    rw [hf] at c1
    have MD := Lib.hid md
    have HX := Lib.hid hX
    have C0 := Lib.hid c0
    have C1 := Lib.hid c1
    clear md hX hf c0 c1
    go_enter Tryd.func4, Tryd.ntmps4
    go_wp2_with (first | (go_at_call 11; ((with_reducible refine (awakeL _ (HT.out.kept QQ.out)).mono ?_); rintro e w9 ⟨rfl, q⟩; replace QQ := Lib.hid (QQ.out.trans q); clear q)) | (go_at_call 17; ((with_reducible refine (MD.out _).mono ?_); rintro e w1 ⟨rfl, hw⟩; have b1 : Bx w1 w.heap.size nmB 9 := hw ▸ Bx.new w nmB 9; have q : Qw w w1 := hw ▸ (Below.refl _ _).alloc (Nat.le_refl _) _; replace QQ := Lib.hid q; have cx := b1.cell' R _ HX.out; clear b1 hw q)) | (go_at_call 18; ((with_reducible refine (C0.out _ (HT.out.kept QQ.out)).mono ?_); rintro e w' ⟨rfl, rfl⟩)) | (go_at_call 18; ((with_reducible refine (C1.out _ (HT.out.kept QQ.out)).mono ?_); rintro e w' ⟨rfl, rfl⟩)) | (go_at_call 18; ((with_reducible refine (lxName _ _ (HT.out.kept QQ.out)).mono ?_); rintro e w' ⟨rfl, rfl⟩)) | (go_at_call 19; ((with_reducible refine (lrName _ _).mono ?_); rintro e w9 ⟨rfl, q⟩; replace QQ := Lib.hid (QQ.out.trans q); clear q)))
    go_ret
    exact ⟨rfl, QQ.out⟩
  · have d1 : decide ((100 : Int) < (s.size : Int)) = true := decide_eq_true (by omega)
    go_enter Tryd.func4, Tryd.ntmps4
    go_wp2_with (first | (go_at_call 10; ((with_reducible refine (lightF _ _ _ _ HV.out).mono ?_); rintro e w' ⟨rfl, rfl⟩)) | (go_at_call 11; ((with_reducible refine (awakeL _ (HT.out.kept QQ.out)).mono ?_); rintro e w9 ⟨rfl, q⟩; replace QQ := Lib.hid (QQ.out.trans q); clear q)))
    go_ret
    exact ⟨rfl, QQ.out⟩

/-! ### the row and the card -/
theorem reads_lexNames (os : Os) {H : Type} (enc : TypeId × Value → H) : ∃ places, DataW.whole enc Tryd.prog ((laidWorldN os).forCall (fun _ _ => 0) ⟨#[], #[.string { data := #[] }, .int .i64 0], []⟩).memory Tryd.f4.params.toList Rows.lexNamesSpec.vars false #[(.string { data := #[] } : Value), .int .i64 0].toList 8 = some ([.lit (.string []), .lit (.int .i64 0)], [], places) :=
  ⟨[], by kernel_rfl⟩
set_option maxRecDepth 100000 in
theorem lifted_lexNames (os : Os) (started : os.Started) (H : Type) (enc : TypeId × Value → H) (F : Stop.Interp) :
    ReturnsInHanded {} Tryd.checked os 4 .any ((OpenSpec.ofChange Rows.lexNamesSpec).preRow enc Tryd.prog Tryd.f4 Rows.lexNamesRow.domain false Rows.lexNamesRow.laid) (((OpenSpec.ofChange Rows.lexNamesSpec).at F).post enc Tryd.prog Tryd.f4 false true false false) := by
  obtain ⟨places, hx⟩ := reads_lexNames os enc
  refine returnsInHanded_of_row (C := Tryd.checked) (s := OpenSpec.ofChange Rows.lexNamesSpec) ownN started (by kernel_rfl) Tryd.func4
    (witness_row_at (enc := enc) (C := Tryd.checked) false (laidWorldN os) #[.string { data := #[] }, .int .i64 0] rfl (by kernel_rfl) (by kernel_rfl) (by kernel_rfl)
      (OpenSpec.preRow_of_cond 8 hx (by kernel_rfl) (fun k hk => by cases hk) (by kernel_rfl) (laid_metN os _))) ?_
  intro W base args ds gs before hval0 hW _ _ _ hL _ _
  have ht : Tn W := tableN hL
  have hval : ∀ (j : Nat) t v, Tryd.f4.params[j]? = some t → args[j]? = some v → Value.okWide Tryd.prog W .any base t v := hval0
  have hW' := hW
  obtain ⟨p, q, hA0, hV, rfl, hfz, hnd⟩ := hW
  have hA : DataW.TrodAll enc Tryd.prog W 0 (fun _ => true) true Tryd.f4.params.toList args.toList ds p := hA0
  rw [Tryd.params4] at hA hval
  obtain ⟨v0, vs0, d0, ds0, p0, q0, hargs, rfl, rfl, h0, r0⟩ := trodAll_cons hA
  obtain ⟨v1, vs1, d1, ds1, p1, q1, rfl, rfl, rfl, h1, r1⟩ := trodAll_cons r0
  obtain ⟨rfl, rfl, rfl⟩ := trodAll_nil r1
  obtain rfl : args = #[v0, v1] := by cases args; simp_all
  obtain ⟨rfl, rfl⟩ := trodVars_none hV
  obtain ⟨a0, rfl, rfl, rfl, w0⟩ := Go.ChangeMaps.open_string Tryd.underlying9 (hval 0 9 v0 rfl rfl) h0
  obtain ⟨a1, rfl, rfl, rfl, w1⟩ := open_int Tryd.underlying3 (hval 1 3 v1 rfl rfl) h1
  obtain ⟨x1, y1⟩ := i64_of_wf w1
  clear hA0 hval0 hL
  simp only [List.append_nil] at hW'
  refine (walk_lexNames a0 w0 a1 x1 y1 W ht).mono fun e W' ⟨he, bel⟩ => ?_
  subst he
  exact ⟨_, rfl, _, _, _, [], _, [], hW', trodAll_mk1 (shut_bool Tryd.underlying4 _), (trodAll_cons_mk (Go.ChangeMaps.shut_string Tryd.underlying9 w0) (trodAll_cons_mk (shut_int Tryd.underlying3 w1) trodAll_mk0)), rfl, Below.frame bel _, fun h => by cases h⟩

theorem lexNames_said : Rows.LexNamesSaid :=
  OpenClaim.holds_of_cond 4 Tryd.f4 rfl rfl rfl rfl rfl rfl rfl ⟨rfl, rfl, rfl, rfl, rfl⟩ rfl rfl rfl rfl rfl (by kernel_rfl) Tryd.func4 (by kernel_rfl)
    (of_decide_eq_true (by kernel_rfl)) (by unfold Func.isWrapper; first | (rw [if_pos (by decide +kernel)]; kernel_rfl) | (rw [if_neg (by decide +kernel)]; exact ⟨rfl, rfl⟩))
    (fun os started H enc _ F => by rw [OpenClaim.pre_eq_preRow]; exact lifted_lexNames os started H enc F)

theorem plain_lexNames (f : FuncId) (fn : Func) (hf : Tryd.pinned.checked.prog.funcNamed "cnc/cnclaw05.LexNames" = some f) (hfn : Tryd.pinned.checked.prog.funcs[f]? = some fn) :
    false = Tryd.pinned.checked.prog.looks [] ∧ ∀ (j : Nat) t, fn.params[j]? = some t → Tryd.pinned.checked.prog.wantsStandIn t = false := by
  obtain rfl : f = 4 := Option.some.inj ((show Tryd.prog.funcNamed "cnc/cnclaw05.LexNames" = some 4 by kernel_rfl).symm.trans hf) |>.symm
  obtain rfl : fn = Tryd.f4 := (Option.some.inj (Tryd.func4.symm.trans hfn)).symm
  refine ⟨by kernel_rfl, fun j t ht => ?_⟩
  rw [Tryd.params4] at ht
  have hm : t = 9 ∨ t = 3 := by simpa using Array.mem_of_getElem? ht
  rcases hm with rfl | rfl
  · exact (show Tryd.prog.wantsStandIn 9 = false by kernel_rfl)
  · exact (show Tryd.prog.wantsStandIn 3 = false by kernel_rfl)

/-- The statement. -/
theorem lexNames_card : Rows.LexNamesCardSaid :=
  Claim7.holds_tied_plain_at .later [] _ _ _ _ lexNames_said (fun _ h => by cases h) (by kernel_rfl) (fun _ h => by cases h) lexNames_row_tie rfl ⟨rfl, rfl⟩ (by kernel_rfl) rfl plain_lexNames (by kernel_rfl)

end Go.Proofs.YtlinfdgmebogbaaDoor
