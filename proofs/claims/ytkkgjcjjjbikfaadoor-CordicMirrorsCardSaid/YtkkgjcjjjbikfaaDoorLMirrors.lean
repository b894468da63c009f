
/- CordicMirrors: the opposite angle has nearly the opposite sine and the same cosine.
   Conditions: the table of the steps' angles lies as the program's own text lays it (the card ties it); every input. -/
import Derived.Test.YtkkgjcjjjbikfaaDoorFrameC
import Derived.Test.YtkkgjcjjjbikfaaDoorCoM
set_option linter.unusedVariables false
set_option linter.unusedSimpArgs false
namespace Go.Proofs.YtkkgjcjjjbikfaaDoor
open Go.ChangeShapes Go.WideShapes Go.ChangeAt Go.RowKit

set_option maxRecDepth 100000 in
set_option maxHeartbeats 1000000 in
theorem walk_cordicMirrors (angle : Int) (angle1 : -9223372036854775808 ≤ angle) (angle2 : angle ≤ 9223372036854775807) (w : World) (ht : Tc w) : Calls Tryd.prog 9 #[.int .i64 angle] w fun e w' => e = .returned (.bool true) ∧ Below w.heap.size w w' := by
  have q0 := Qw.refl w
  have HT := Lib.hid ht
  clear ht
  have n1 := fun w => modW angle 360000000 angle1 angle2 (by decide) (by decide) w
  have m0angle : 0 ≤ angle % 360000000 := by omega
  have m1angle : angle % 360000000 < 360000000 := by omega
  generalize angle % 360000000 = angle' at *
  have c1 := fun w ht => co_sincos angle' (by omega) (by omega) w ht
  have c2 := fun w ht => co_sincos (-angle') (by omega) (by omega) w ht
  have sb := Cm.sc_bd angle'
  obtain ⟨s1, s2⟩ := Cm.nm_re sb
  obtain ⟨s3, s4⟩ := Cm.nm_im sb
  have sc := Cm.sc_bd (-angle')
  obtain ⟨t1, t2⟩ := Cm.nm_re sc
  obtain ⟨t3, t4⟩ := Cm.nm_im sc
  have k := Cm.sc_mirror angle' m0angle m1angle
  obtain ⟨k1, k2⟩ := Cm.nm_re k
  obtain ⟨k3, k4⟩ := Cm.nm_im k
  clear sb sc k
  generalize (Cm.sc angle').1 = C at *
  generalize (Cm.sc angle').2 = S at *
  generalize (Cm.sc (-angle')).1 = D at *
  generalize (Cm.sc (-angle')).2 = T at *
  have c3 := fun w => cl_near S (-T) 16384 (by omega) (by omega) (by omega) (by omega) (by omega) (by omega) w
  have c4 := fun w => cl_near C D 16384 (by omega) (by omega) (by omega) (by omega) (by omega) (by omega) w
  have N1 := Lib.hid n1
  have C1 := Lib.hid c1
  have C2 := Lib.hid c2
  have C3 := Lib.hid c3
  have C4 := Lib.hid c4
  clear n1 c1 c2 c3 c4
  go_enter Tryd.func9, Tryd.ntmps9
  go_wp2_with (first | (go_at_call 18; ((with_reducible refine (awakeC _ (HT.out.kept q0)).mono ?_); rintro e w' ⟨rfl, h⟩; replace q0 := Qw.trans q0 h; clear h)) | (go_at_call 16; ((with_reducible refine (N1.out _).mono ?_); rintro e w' ⟨rfl, rfl⟩)) | (go_at_call 14; ((with_reducible refine (C1.out _ (HT.out.kept q0)).mono ?_); rintro e w' ⟨rfl, h⟩; replace q0 := Qw.trans q0 h; clear h)) | (go_at_call 14; ((with_reducible refine (C2.out _ (HT.out.kept q0)).mono ?_); rintro e w' ⟨rfl, h⟩; replace q0 := Qw.trans q0 h; clear h)) | (go_at_call 24; ((with_reducible refine (C3.out _).mono ?_); rintro e w' ⟨rfl, rfl⟩)) | (go_at_call 24; ((with_reducible refine (C4.out _).mono ?_); rintro e w' ⟨rfl, rfl⟩)))
  go_ret
  exact ⟨ret_b (by first | rfl | (simp; done)), q0⟩


/-! ### the row and the card -/
theorem reads_cordicMirrors (os : Os) {H : Type} (enc : TypeId × Value → H) : ∃ places, DataW.whole enc Tryd.prog ((laidWorldC os).forCall (fun _ _ => 0) ⟨#[], #[.int .i64 0], []⟩).memory Tryd.f9.params.toList Rows.cordicMirrorsSpec.vars false #[(.int .i64 0 : Value)].toList 8 = some ([.lit (.int .i64 0)], [], places) :=
  ⟨[], by kernel_rfl⟩
set_option maxRecDepth 100000 in
theorem lifted_cordicMirrors (os : Os) (started : os.Started) (H : Type) (enc : TypeId × Value → H) (F : Stop.Interp) :
    ReturnsInHanded {} Tryd.checked os 9 .any ((OpenSpec.ofChange Rows.cordicMirrorsSpec).preRow enc Tryd.prog Tryd.f9 Rows.cordicMirrorsRow.domain false Rows.cordicMirrorsRow.laid) (((OpenSpec.ofChange Rows.cordicMirrorsSpec).at F).post enc Tryd.prog Tryd.f9 false true false false) := by
  obtain ⟨places, hx⟩ := reads_cordicMirrors os enc
  refine returnsInHanded_of_row (C := Tryd.checked) (s := OpenSpec.ofChange Rows.cordicMirrorsSpec) ownC started (by kernel_rfl) Tryd.func9
    (witness_row_at (enc := enc) (C := Tryd.checked) false (laidWorldC os) #[.int .i64 0] rfl (by kernel_rfl) (by kernel_rfl) (by kernel_rfl)
      (OpenSpec.preRow_of_cond 8 hx (by kernel_rfl) (fun k hk => by cases hk) (by kernel_rfl) (laid_metC os _))) ?_
  intro W base args ds gs before hval0 hW _ _ _ hL _ _
  have ht : Tc W := tableC hL
  have hval : ∀ (j : Nat) t v, Tryd.f9.params[j]? = some t → args[j]? = some v → Value.okWide Tryd.prog W .any base t v := hval0
  have hW' := hW
  obtain ⟨p, q, hA0, hV, rfl, hfz, hnd⟩ := hW
  have hA : DataW.TrodAll enc Tryd.prog W 0 (fun _ => true) true Tryd.f9.params.toList args.toList ds p := hA0
  rw [Tryd.params9] at hA hval
  obtain ⟨v0, vs0, d0, ds0, p0, q0, hargs, rfl, rfl, h0, r0⟩ := trodAll_cons hA
  obtain ⟨rfl, rfl, rfl⟩ := trodAll_nil r0
  obtain rfl : args = #[v0] := by cases args; simp_all
  obtain ⟨rfl, rfl⟩ := trodVars_none hV
  obtain ⟨a0, rfl, rfl, rfl, w0⟩ := open_int Tryd.underlying3 (hval 0 3 v0 rfl rfl) h0
  obtain ⟨x0, y0⟩ := i64_wfC w0
  clear hA0 hval0 hL
  simp only [List.append_nil] at hW'
  refine (walk_cordicMirrors a0 x0 y0 W ht).mono fun e W' ⟨he, bel⟩ => ?_
  subst he
  exact ⟨_, rfl, _, _, _, [], _, [], hW', trodAll_mk1 (shut_bool Tryd.underlying4 _), (trodAll_cons_mk (shut_int Tryd.underlying3 w0) trodAll_mk0), rfl, Below.frame bel _, fun h => by cases h⟩

theorem cordicMirrors_said : Rows.CordicMirrorsSaid :=
  OpenClaim.holds_of_cond 9 Tryd.f9 rfl rfl rfl rfl rfl rfl rfl ⟨rfl, rfl, rfl, rfl, rfl⟩ rfl rfl rfl rfl rfl (by kernel_rfl) Tryd.func9 (by kernel_rfl)
    (of_decide_eq_true (by kernel_rfl)) (by unfold Func.isWrapper; first | (rw [if_pos (by decide +kernel)]; kernel_rfl) | (rw [if_neg (by decide +kernel)]; exact ⟨rfl, rfl⟩))
    (fun os started H enc _ F => by rw [OpenClaim.pre_eq_preRow]; exact lifted_cordicMirrors os started H enc F)

theorem plain_cordicMirrors (f : FuncId) (fn : Func) (hf : Tryd.pinned.checked.prog.funcNamed "cnc/cnclaw03.CordicMirrors" = some f) (hfn : Tryd.pinned.checked.prog.funcs[f]? = some fn) :
    false = Tryd.pinned.checked.prog.looks [] ∧ ∀ (j : Nat) t, fn.params[j]? = some t → Tryd.pinned.checked.prog.wantsStandIn t = false := by
  obtain rfl : f = 9 := Option.some.inj ((show Tryd.prog.funcNamed "cnc/cnclaw03.CordicMirrors" = some 9 by kernel_rfl).symm.trans hf) |>.symm
  obtain rfl : fn = Tryd.f9 := (Option.some.inj (Tryd.func9.symm.trans hfn)).symm
  refine ⟨by kernel_rfl, fun j t ht => ?_⟩
  rw [Tryd.params9] at ht
  obtain rfl : t = 3 := by simpa using Array.mem_of_getElem? ht
  exact (show Tryd.prog.wantsStandIn 3 = false by kernel_rfl)

/-- The statement. -/
theorem cordicMirrors_card : Rows.CordicMirrorsCardSaid :=
  Claim7.holds_tied_plain_at .later [] _ _ _ _ cordicMirrors_said (fun _ h => by cases h) (by kernel_rfl) (fun _ h => by cases h) cordicMirrors_row_tie rfl ⟨rfl, rfl⟩ (by kernel_rfl) rfl plain_cordicMirrors (by kernel_rfl)

end Go.Proofs.YtkkgjcjjjbikfaaDoor
