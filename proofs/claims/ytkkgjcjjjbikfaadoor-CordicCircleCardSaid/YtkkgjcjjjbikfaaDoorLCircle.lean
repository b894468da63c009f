
/- CordicCircle: the squares of sine and cosine add up to 1, nearly.
   Conditions: the table of the steps' angles lies as the program's own text lays it (the card ties it); every input. -/
import Derived.Test.YtkkgjcjjjbikfaaDoorFrameC
import Derived.Test.YtkkgjcjjjbikfaaDoorCoM
set_option linter.unusedVariables false
set_option linter.unusedSimpArgs false
namespace Go.Proofs.YtkkgjcjjjbikfaaDoor
open Go.ChangeShapes Go.WideShapes Go.ChangeAt Go.RowKit

set_option maxRecDepth 100000 in
set_option maxHeartbeats 1000000 in
theorem walk_cordicCircle (angle : Int) (angle1 : -9223372036854775808 ≤ angle) (angle2 : angle ≤ 9223372036854775807) (w : World) (ht : Tc w) : Calls Tryd.prog 6 #[.int .i64 angle] w fun e w' => e = .returned (.bool true) ∧ Below w.heap.size w w' := by
  have q0 := Qw.refl w
  have HT := Lib.hid ht
  clear ht
  have c1 := fun w ht => co_sincos angle angle1 angle2 w ht
  have sb := Cm.sc_bd angle
  obtain ⟨s1, s2⟩ := Cm.nm_re sb
  obtain ⟨s3, s4⟩ := Cm.nm_im sb
  have hi := Cm.sc_hi angle
  have lo := Cm.sc_lo angle
  have p0 := Cm.sq_nonneg (Cm.sc angle).1
  have p1 := Cm.sq_nonneg (Cm.sc angle).2
  clear sb
  generalize (Cm.sc angle).1 = C at *
  generalize (Cm.sc angle).2 = S at *
  have d1 : decide (2147483648 < S) = false := decide_eq_false (by omega)
  have d2 : decide (S < -2147483648) = false := decide_eq_false (by omega)
  have d3 : decide (2147483648 < C) = false := decide_eq_false (by omega)
  have d4 : decide (C < -2147483648) = false := decide_eq_false (by omega)
  generalize e1 : C * C = P at *
  generalize e2 : S * S = Q at *
  have d5 : decide (Q + P - 1152921504606846976 ≤ 1099511627776) = true := decide_eq_true (by omega)
  have d6 : decide (-1099511627776 ≤ Q + P - 1152921504606846976) = true := decide_eq_true (by omega)
  have C1 := Lib.hid c1
  clear c1
  go_enter Tryd.func6, Tryd.ntmps6
  go_wp2_with (first | (go_at_call 18; ((with_reducible refine (awakeC _ (HT.out.kept q0)).mono ?_); rintro e w' ⟨rfl, h⟩; replace q0 := Qw.trans q0 h; clear h)) | (go_at_call 14; ((with_reducible refine (C1.out _ (HT.out.kept q0)).mono ?_); rintro e w' ⟨rfl, h⟩; replace q0 := Qw.trans q0 h; clear h)))
  go_ret
  exact ⟨ret_b (by first | rfl | (simp; done)), q0⟩


/-! ### the row and the card -/
theorem reads_cordicCircle (os : Os) {H : Type} (enc : TypeId × Value → H) : ∃ places, DataW.whole enc Tryd.prog ((laidWorldC os).forCall (fun _ _ => 0) ⟨#[], #[.int .i64 0], []⟩).memory Tryd.f6.params.toList Rows.cordicCircleSpec.vars false #[(.int .i64 0 : Value)].toList 8 = some ([.lit (.int .i64 0)], [], places) :=
  ⟨[], by kernel_rfl⟩
set_option maxRecDepth 100000 in
theorem lifted_cordicCircle (os : Os) (started : os.Started) (H : Type) (enc : TypeId × Value → H) (F : Stop.Interp) :
    ReturnsInHanded {} Tryd.checked os 6 .any ((OpenSpec.ofChange Rows.cordicCircleSpec).preRow enc Tryd.prog Tryd.f6 Rows.cordicCircleRow.domain false Rows.cordicCircleRow.laid) (((OpenSpec.ofChange Rows.cordicCircleSpec).at F).post enc Tryd.prog Tryd.f6 false true false false) := by
  obtain ⟨places, hx⟩ := reads_cordicCircle os enc
  refine returnsInHanded_of_row (C := Tryd.checked) (s := OpenSpec.ofChange Rows.cordicCircleSpec) ownC started (by kernel_rfl) Tryd.func6
    (witness_row_at (enc := enc) (C := Tryd.checked) false (laidWorldC os) #[.int .i64 0] rfl (by kernel_rfl) (by kernel_rfl) (by kernel_rfl)
      (OpenSpec.preRow_of_cond 8 hx (by kernel_rfl) (fun k hk => by cases hk) (by kernel_rfl) (laid_metC os _))) ?_
  intro W base args ds gs before hval0 hW _ _ _ hL _ _
  have ht : Tc W := tableC hL
  have hval : ∀ (j : Nat) t v, Tryd.f6.params[j]? = some t → args[j]? = some v → Value.okWide Tryd.prog W .any base t v := hval0
  have hW' := hW
  obtain ⟨p, q, hA0, hV, rfl, hfz, hnd⟩ := hW
  have hA : DataW.TrodAll enc Tryd.prog W 0 (fun _ => true) true Tryd.f6.params.toList args.toList ds p := hA0
  rw [Tryd.params6] at hA hval
  obtain ⟨v0, vs0, d0, ds0, p0, q0, hargs, rfl, rfl, h0, r0⟩ := trodAll_cons hA
  obtain ⟨rfl, rfl, rfl⟩ := trodAll_nil r0
  obtain rfl : args = #[v0] := by cases args; simp_all
  obtain ⟨rfl, rfl⟩ := trodVars_none hV
  obtain ⟨a0, rfl, rfl, rfl, w0⟩ := open_int Tryd.underlying3 (hval 0 3 v0 rfl rfl) h0
  obtain ⟨x0, y0⟩ := i64_wfC w0
  clear hA0 hval0 hL
  simp only [List.append_nil] at hW'
  refine (walk_cordicCircle a0 x0 y0 W ht).mono fun e W' ⟨he, bel⟩ => ?_
  subst he
  exact ⟨_, rfl, _, _, _, [], _, [], hW', trodAll_mk1 (shut_bool Tryd.underlying4 _), (trodAll_cons_mk (shut_int Tryd.underlying3 w0) trodAll_mk0), rfl, Below.frame bel _, fun h => by cases h⟩

theorem cordicCircle_said : Rows.CordicCircleSaid :=
  OpenClaim.holds_of_cond 6 Tryd.f6 rfl rfl rfl rfl rfl rfl rfl ⟨rfl, rfl, rfl, rfl, rfl⟩ rfl rfl rfl rfl rfl (by kernel_rfl) Tryd.func6 (by kernel_rfl)
    (of_decide_eq_true (by kernel_rfl)) (by unfold Func.isWrapper; first | (rw [if_pos (by decide +kernel)]; kernel_rfl) | (rw [if_neg (by decide +kernel)]; exact ⟨rfl, rfl⟩))
    (fun os started H enc _ F => by rw [OpenClaim.pre_eq_preRow]; exact lifted_cordicCircle os started H enc F)

theorem plain_cordicCircle (f : FuncId) (fn : Func) (hf : Tryd.pinned.checked.prog.funcNamed "cnc/cnclaw03.CordicCircle" = some f) (hfn : Tryd.pinned.checked.prog.funcs[f]? = some fn) :
    false = Tryd.pinned.checked.prog.looks [] ∧ ∀ (j : Nat) t, fn.params[j]? = some t → Tryd.pinned.checked.prog.wantsStandIn t = false := by
  obtain rfl : f = 6 := Option.some.inj ((show Tryd.prog.funcNamed "cnc/cnclaw03.CordicCircle" = some 6 by kernel_rfl).symm.trans hf) |>.symm
  obtain rfl : fn = Tryd.f6 := (Option.some.inj (Tryd.func6.symm.trans hfn)).symm
  refine ⟨by kernel_rfl, fun j t ht => ?_⟩
  rw [Tryd.params6] at ht
  obtain rfl : t = 3 := by simpa using Array.mem_of_getElem? ht
  exact (show Tryd.prog.wantsStandIn 3 = false by kernel_rfl)

/-- The statement. -/
theorem cordicCircle_card : Rows.CordicCircleCardSaid :=
  Claim7.holds_tied_plain_at .later [] _ _ _ _ cordicCircle_said (fun _ h => by cases h) (by kernel_rfl) (fun _ h => by cases h) cordicCircle_row_tie rfl ⟨rfl, rfl⟩ (by kernel_rfl) rfl plain_cordicCircle (by kernel_rfl)

end Go.Proofs.YtkkgjcjjjbikfaaDoor
