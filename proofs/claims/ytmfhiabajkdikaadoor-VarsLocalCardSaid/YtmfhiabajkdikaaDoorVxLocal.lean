
/- VarsLocal: which local variables belong to letters.
   Conditions: the listed tables lie as the program's own text lays them (the card ties them); every input. -/
import Derived.Test.YtmfhiabajkdikaaDoorFrameW
set_option linter.unusedVariables false
set_option linter.unusedSimpArgs false
namespace Go.Proofs.YtmfhiabajkdikaaDoor
open Go.ChangeShapes Go.WideShapes Go.ChangeAt Go.RowKit

set_option maxRecDepth 100000 in
set_option maxHeartbeats 4000000 in
theorem walk_varsLocal (c : Int) (c1 : -9223372036854775808 ≤ c) (c2 : c ≤ 9223372036854775807) (w : World) (hT : Tl w) :
    Calls Tryd.prog 4 #[.int .i64 c] w fun e w' => e = .returned (.bool true) ∧ Below w.heap.size w w' := by
  have HT := Lib.hid hT
  have hm := Int.emod_nonneg c (show (26 : Int) ≠ 0 by decide)
  have hm2 := Int.emod_lt_of_pos c (show (0 : Int) < 26 by decide)
  have MD := Lib.hid (fun w => modW c 26 c1 c2 (by decide) (by decide) w)
  have l1 : Vs.loc 71 = 0 := by decide +kernel
  have l2 : Vs.loc 97 = 0 := by decide +kernel
  generalize c % 26 = m at *
  have HL := Lib.hid (fun (x : Int) (w' : World) (q : Qw w w') => vaLocal x w' (hT.kept q))
  have HR := Lib.hid (fun (x : Int) (w' : World) => vrTab x w')
  have c3 := Lib.hid c1
  have c4 := Lib.hid c2
  replace l1 := Lib.hid l1
  replace l2 := Lib.hid l2
  have q0 := Lib.hid (Qw.refl w)
  clear hT c1 c2
  go_enter Tryd.func4, Tryd.ntmps4
  go_wp2_with (first
    | (go_at_call 15; ((with_reducible refine (MD.out _).mono ?_); rintro e w' ⟨rfl, rfl⟩))
    | (go_at_call 10; ((with_reducible refine (awakeV _ (HT.out.kept q0.out)).mono ?_); rintro e w' ⟨rfl, q⟩; replace q0 := Lib.hid (q0.out.trans q); clear q))
    | (go_at_call 16; ((with_reducible refine (HL.out 71 _ q0.out).mono ?_); rintro e w' ⟨rfl, rfl⟩; rw [l1.out]))
    | (go_at_call 16; ((with_reducible refine (HL.out 97 _ q0.out).mono ?_); rintro e w' ⟨rfl, rfl⟩; rw [l2.out]))
    | (go_at_call 16; ((with_reducible refine (HL.out _ _ q0.out).mono ?_); rintro e w' ⟨rfl, rfl⟩))
    | (go_at_call 17; ((with_reducible refine (HR.out _ _).mono ?_); rintro e w' ⟨rfl, q⟩; replace q0 := Lib.hid (q0.out.trans q); clear q)))
  go_ret
  exact ⟨rfl, q0.out⟩

/-! ### the row and the card -/
theorem reads_varsLocal (os : Os) {H : Type} (enc : TypeId × Value → H) : ∃ places, DataW.whole enc Tryd.prog ((laidWorldW os).forCall (fun _ _ => 0) ⟨#[], #[.int .i64 0], []⟩).memory Tryd.f4.params.toList Rows.varsLocalSpec.vars false #[(.int .i64 0 : Value)].toList 8 = some ([.lit (.int .i64 0)], [], places) :=
  ⟨[], by kernel_rfl⟩
set_option maxRecDepth 100000 in
theorem lifted_varsLocal (os : Os) (started : os.Started) (H : Type) (enc : TypeId × Value → H) (F : Stop.Interp) :
    ReturnsInHanded {} Tryd.checked os 4 .any ((OpenSpec.ofChange Rows.varsLocalSpec).preRow enc Tryd.prog Tryd.f4 Rows.varsLocalRow.domain false Rows.varsLocalRow.laid) (((OpenSpec.ofChange Rows.varsLocalSpec).at F).post enc Tryd.prog Tryd.f4 false true false false) := by
  obtain ⟨places, hx⟩ := reads_varsLocal os enc
  refine returnsInHanded_of_row (C := Tryd.checked) (s := OpenSpec.ofChange Rows.varsLocalSpec) ownW started (by kernel_rfl) Tryd.func4
    (witness_row_at (enc := enc) (C := Tryd.checked) false (laidWorldW os) #[.int .i64 0] rfl (by kernel_rfl) (by kernel_rfl) (by kernel_rfl)
      (OpenSpec.preRow_of_cond 8 hx (by kernel_rfl) (fun k hk => by cases hk) (by kernel_rfl) (laid_metW os _))) ?_
  intro W base args ds gs before hval0 hW _ _ _ hL _ _
  have ht : Tl W := tableW hL
  have hval : ∀ (j : Nat) t v, Tryd.f4.params[j]? = some t → args[j]? = some v → Value.okWide Tryd.prog W .any base t v := hval0
  have hW' := hW
  obtain ⟨p, q, hA0, hV, rfl, hfz, hnd⟩ := hW
  have hA : DataW.TrodAll enc Tryd.prog W 0 (fun _ => true) true Tryd.f4.params.toList args.toList ds p := hA0
  rw [Tryd.params4] at hA hval
  obtain ⟨v0, vs0, d0, ds0, p0, q0, hargs, rfl, rfl, h0, r0⟩ := trodAll_cons hA
  obtain ⟨rfl, rfl, rfl⟩ := trodAll_nil r0
  obtain rfl : args = #[v0] := by cases args; simp_all
  obtain ⟨rfl, rfl⟩ := trodVars_none hV
  obtain ⟨a0, rfl, rfl, rfl, w0⟩ := open_int Tryd.underlying3 (hval 0 3 v0 rfl rfl) h0
  obtain ⟨x0, y0⟩ := i64_wfW w0
  clear hA0 hval0 hL
  simp only [List.append_nil] at hW'
  refine (walk_varsLocal a0 x0 y0 W ht).mono fun e W' ⟨he, bel⟩ => ?_
  subst he
  exact ⟨_, rfl, _, _, _, [], _, [], hW', trodAll_mk1 (shut_bool Tryd.underlying4 _), (trodAll_cons_mk (shut_int Tryd.underlying3 w0) trodAll_mk0), rfl, Below.frame bel _, fun h => by cases h⟩

theorem varsLocal_said : Rows.VarsLocalSaid :=
  OpenClaim.holds_of_cond 4 Tryd.f4 rfl rfl rfl rfl rfl rfl rfl ⟨rfl, rfl, rfl, rfl, rfl⟩ rfl rfl rfl rfl rfl (by kernel_rfl) Tryd.func4 (by kernel_rfl)
    (of_decide_eq_true (by kernel_rfl)) (by unfold Func.isWrapper; first | (rw [if_pos (by decide +kernel)]; kernel_rfl) | (rw [if_neg (by decide +kernel)]; exact ⟨rfl, rfl⟩))
    (fun os started H enc _ F => by rw [OpenClaim.pre_eq_preRow]; exact lifted_varsLocal os started H enc F)

theorem plain_varsLocal (f : FuncId) (fn : Func) (hf : Tryd.pinned.checked.prog.funcNamed "cnc/cnclaw07.VarsLocal" = some f) (hfn : Tryd.pinned.checked.prog.funcs[f]? = some fn) :
    false = Tryd.pinned.checked.prog.looks [] ∧ ∀ (j : Nat) t, fn.params[j]? = some t → Tryd.pinned.checked.prog.wantsStandIn t = false := by
  obtain rfl : f = 4 := Option.some.inj ((show Tryd.prog.funcNamed "cnc/cnclaw07.VarsLocal" = some 4 by kernel_rfl).symm.trans hf) |>.symm
  obtain rfl : fn = Tryd.f4 := (Option.some.inj (Tryd.func4.symm.trans hfn)).symm
  refine ⟨by kernel_rfl, fun j t ht => ?_⟩
  rw [Tryd.params4] at ht
  obtain rfl : t = 3 := by simpa using Array.mem_of_getElem? ht
  exact (show Tryd.prog.wantsStandIn 3 = false by kernel_rfl)

/-- The statement. -/
theorem varsLocal_card : Rows.VarsLocalCardSaid :=
  Claim7.holds_tied_plain_at .later [] _ _ _ _ varsLocal_said (fun _ h => by cases h) (by kernel_rfl) (fun _ h => by cases h) varsLocal_row_tie rfl ⟨rfl, rfl⟩ (by kernel_rfl) rfl plain_varsLocal (by kernel_rfl)

end Go.Proofs.YtmfhiabajkdikaaDoor
