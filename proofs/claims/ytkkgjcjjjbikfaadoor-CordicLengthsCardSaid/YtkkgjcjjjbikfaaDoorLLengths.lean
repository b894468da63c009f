
/- CordicLengths: a rotation keeps the distance from the origin within 2 units.
   Conditions: the table of the steps' angles lies as the program's own text lays it (the card ties it); every input. -/
import Derived.Test.YtkkgjcjjjbikfaaDoorFrameC
import Derived.Test.YtkkgjcjjjbikfaaDoorCoM
set_option linter.unusedVariables false
set_option linter.unusedSimpArgs false
namespace Go.Proofs.YtkkgjcjjjbikfaaDoor
open Go.ChangeShapes Go.WideShapes Go.ChangeAt Go.RowKit

set_option maxRecDepth 100000 in
set_option maxHeartbeats 1000000 in
theorem walk_cordicLengths (x : Int) (x1 : -9223372036854775808 ≤ x) (x2 : x ≤ 9223372036854775807) (y : Int) (y1 : -9223372036854775808 ≤ y) (y2 : y ≤ 9223372036854775807) (angle : Int) (angle1 : -9223372036854775808 ≤ angle) (angle2 : angle ≤ 9223372036854775807) (w : World) (ht : Tc w) : Calls Tryd.prog 11 #[.int .i64 x, .int .i64 y, .int .i64 angle] w fun e w' => e = .returned (.bool true) ∧ Below w.heap.size w w' := by
  have q0 := Qw.refl w
  have HT := Lib.hid ht
  clear ht
  have n1 := fun w => betweenW x (-1048576) 1048576 x1 x2 (by decide) (by decide) (by decide) (by decide) w
  obtain ⟨l0x, l1x⟩ := btwC x (-1048576) 1048576 (by decide)
  generalize -1048576 + x % (1048576 - -1048576 + 1) = x' at *
  have n2 := fun w => betweenW y (-1048576) 1048576 y1 y2 (by decide) (by decide) (by decide) (by decide) w
  obtain ⟨l0y, l1y⟩ := btwC y (-1048576) 1048576 (by decide)
  generalize -1048576 + y % (1048576 - -1048576 + 1) = y' at *
  have c1 := fun w ht => co_rotate x' y' angle angle1 angle2 w ht
  have b := rotv_bd x' y' angle l0x l1x l0y l1y
  obtain ⟨o1, _⟩ := rotv_in x' y' angle (by omega) (by omega) (by omega) (by omega)
  obtain ⟨k1, k2⟩ := len_law x' y' angle l0x l1x l0y l1y
  rw [o1] at c1
  generalize (rotv x' y' angle).1 = A at *
  generalize (rotv x' y' angle).2 = B at *
  obtain ⟨b1, b2, b3, b4⟩ := b
  have q1 := sq_bd l0x l1x
  have q2 := sq_bd l0y l1y
  have q3 := sq_bd b1 b2
  have q4 := sq_bd b3 b4
  obtain ⟨r1, r2, r3, _⟩ := root_near (x' * x' + y' * y') (by omega) (by omega)
  obtain ⟨t1, t2, t3, _⟩ := root_near (A * A + B * B) (by omega) (by omega)
  generalize e1 : x' * x' = P1 at *
  generalize e2 : y' * y' = P2 at *
  generalize e3 : A * A = P3 at *
  generalize e4 : B * B = P4 at *
  obtain ⟨q1, q1'⟩ := q1
  obtain ⟨q2, q2'⟩ := q2
  obtain ⟨q3, q3'⟩ := q3
  obtain ⟨q4, q4'⟩ := q4
  have f1 := fun w => sqrtW (P1 + P2) 2 (by omega) (by omega) w
  have f2 := fun w => sqrtW (P3 + P4) 2 (by omega) (by omega) w
  rw [r1] at f1
  rw [t1] at f2
  generalize rtv (P1 + P2) 1 2 = M at *
  generalize rtv (P3 + P4) 1 2 = N at *
  have c4 := fun w => cl_near M N 2 (by omega) (by omega) (by omega) (by omega) (by omega) (by omega) w
  have d1 : decide (4194304 < A) = false := decide_eq_false (by omega)
  have d2 : decide (A < -4194304) = false := decide_eq_false (by omega)
  have d3 : decide (4194304 < B) = false := decide_eq_false (by omega)
  have d4 : decide (B < -4194304) = false := decide_eq_false (by omega)
  clear o1 k1 k2 r1 t1
  have N1 := Lib.hid n1
  have N2 := Lib.hid n2
  have C1 := Lib.hid c1
  have C4 := Lib.hid c4
  have F1 := Lib.hid f1
  have F2 := Lib.hid f2
  clear n1 n2 c1 c4 f1 f2
  go_enter Tryd.func11, Tryd.ntmps11
  go_wp2_with (first | (go_at_call 18; ((with_reducible refine (awakeC _ (HT.out.kept q0)).mono ?_); rintro e w' ⟨rfl, h⟩; replace q0 := Qw.trans q0 h; clear h)) | (go_at_call 17; ((with_reducible refine (N1.out _).mono ?_); rintro e w' ⟨rfl, rfl⟩)) | (go_at_call 17; ((with_reducible refine (N2.out _).mono ?_); rintro e w' ⟨rfl, rfl⟩)) | (go_at_call 19; ((with_reducible refine (C1.out _ (HT.out.kept q0)).mono ?_); rintro e w' ⟨rfl, h⟩; replace q0 := Qw.trans q0 h; clear h)) | (go_at_call 25; ((with_reducible refine (F1.out _).mono ?_); rintro e w' ⟨rfl, h⟩; replace q0 := Qw.trans q0 h; clear h)) | (go_at_call 25; ((with_reducible refine (F2.out _).mono ?_); rintro e w' ⟨rfl, h⟩; replace q0 := Qw.trans q0 h; clear h)) | (go_at_call 24; ((with_reducible refine (C4.out _).mono ?_); rintro e w' ⟨rfl, rfl⟩)))
  go_ret
  exact ⟨ret_b (by first | rfl | (simp; done)), q0⟩


/-! ### the row and the card -/
theorem reads_cordicLengths (os : Os) {H : Type} (enc : TypeId × Value → H) : ∃ places, DataW.whole enc Tryd.prog ((laidWorldC os).forCall (fun _ _ => 0) ⟨#[], #[.int .i64 0, .int .i64 0, .int .i64 0], []⟩).memory Tryd.f11.params.toList Rows.cordicLengthsSpec.vars false #[(.int .i64 0 : Value), .int .i64 0, .int .i64 0].toList 8 = some ([.lit (.int .i64 0), .lit (.int .i64 0), .lit (.int .i64 0)], [], places) :=
  ⟨[], by kernel_rfl⟩
set_option maxRecDepth 100000 in
theorem lifted_cordicLengths (os : Os) (started : os.Started) (H : Type) (enc : TypeId × Value → H) (F : Stop.Interp) :
    ReturnsInHanded {} Tryd.checked os 11 .any ((OpenSpec.ofChange Rows.cordicLengthsSpec).preRow enc Tryd.prog Tryd.f11 Rows.cordicLengthsRow.domain false Rows.cordicLengthsRow.laid) (((OpenSpec.ofChange Rows.cordicLengthsSpec).at F).post enc Tryd.prog Tryd.f11 false true false false) := by
  obtain ⟨places, hx⟩ := reads_cordicLengths os enc
  refine returnsInHanded_of_row (C := Tryd.checked) (s := OpenSpec.ofChange Rows.cordicLengthsSpec) ownC started (by kernel_rfl) Tryd.func11
    (witness_row_at (enc := enc) (C := Tryd.checked) false (laidWorldC os) #[.int .i64 0, .int .i64 0, .int .i64 0] rfl (by kernel_rfl) (by kernel_rfl) (by kernel_rfl)
      (OpenSpec.preRow_of_cond 8 hx (by kernel_rfl) (fun k hk => by cases hk) (by kernel_rfl) (laid_metC os _))) ?_
  intro W base args ds gs before hval0 hW _ _ _ hL _ _
  have ht : Tc W := tableC hL
  have hval : ∀ (j : Nat) t v, Tryd.f11.params[j]? = some t → args[j]? = some v → Value.okWide Tryd.prog W .any base t v := hval0
  have hW' := hW
  obtain ⟨p, q, hA0, hV, rfl, hfz, hnd⟩ := hW
  have hA : DataW.TrodAll enc Tryd.prog W 0 (fun _ => true) true Tryd.f11.params.toList args.toList ds p := hA0
  rw [Tryd.params11] at hA hval
  obtain ⟨v0, vs0, d0, ds0, p0, q0, hargs, rfl, rfl, h0, r0⟩ := trodAll_cons hA
  obtain ⟨v1, vs1, d1, ds1, p1, q1, rfl, rfl, rfl, h1, r1⟩ := trodAll_cons r0
  obtain ⟨v2, vs2, d2, ds2, p2, q2, rfl, rfl, rfl, h2, r2⟩ := trodAll_cons r1
  obtain ⟨rfl, rfl, rfl⟩ := trodAll_nil r2
  obtain rfl : args = #[v0, v1, v2] := by cases args; simp_all
  obtain ⟨rfl, rfl⟩ := trodVars_none hV
  obtain ⟨a0, rfl, rfl, rfl, w0⟩ := open_int Tryd.underlying3 (hval 0 3 v0 rfl rfl) h0
  obtain ⟨x0, y0⟩ := i64_wfC w0
  obtain ⟨a1, rfl, rfl, rfl, w1⟩ := open_int Tryd.underlying3 (hval 1 3 v1 rfl rfl) h1
  obtain ⟨x1, y1⟩ := i64_wfC w1
  obtain ⟨a2, rfl, rfl, rfl, w2⟩ := open_int Tryd.underlying3 (hval 2 3 v2 rfl rfl) h2
  obtain ⟨x2, y2⟩ := i64_wfC w2
  clear hA0 hval0 hL
  simp only [List.append_nil] at hW'
  refine (walk_cordicLengths a0 x0 y0 a1 x1 y1 a2 x2 y2 W ht).mono fun e W' ⟨he, bel⟩ => ?_
  subst he
  exact ⟨_, rfl, _, _, _, [], _, [], hW', trodAll_mk1 (shut_bool Tryd.underlying4 _), (trodAll_cons_mk (shut_int Tryd.underlying3 w0) (trodAll_cons_mk (shut_int Tryd.underlying3 w1) (trodAll_cons_mk (shut_int Tryd.underlying3 w2) trodAll_mk0))), rfl, Below.frame bel _, fun h => by cases h⟩

theorem cordicLengths_said : Rows.CordicLengthsSaid :=
  OpenClaim.holds_of_cond 11 Tryd.f11 rfl rfl rfl rfl rfl rfl rfl ⟨rfl, rfl, rfl, rfl, rfl⟩ rfl rfl rfl rfl rfl (by kernel_rfl) Tryd.func11 (by kernel_rfl)
    (of_decide_eq_true (by kernel_rfl)) (by unfold Func.isWrapper; first | (rw [if_pos (by decide +kernel)]; kernel_rfl) | (rw [if_neg (by decide +kernel)]; exact ⟨rfl, rfl⟩))
    (fun os started H enc _ F => by rw [OpenClaim.pre_eq_preRow]; exact lifted_cordicLengths os started H enc F)

theorem plain_cordicLengths (f : FuncId) (fn : Func) (hf : Tryd.pinned.checked.prog.funcNamed "cnc/cnclaw03.CordicLengths" = some f) (hfn : Tryd.pinned.checked.prog.funcs[f]? = some fn) :
    false = Tryd.pinned.checked.prog.looks [] ∧ ∀ (j : Nat) t, fn.params[j]? = some t → Tryd.pinned.checked.prog.wantsStandIn t = false := by
  obtain rfl : f = 11 := Option.some.inj ((show Tryd.prog.funcNamed "cnc/cnclaw03.CordicLengths" = some 11 by kernel_rfl).symm.trans hf) |>.symm
  obtain rfl : fn = Tryd.f11 := (Option.some.inj (Tryd.func11.symm.trans hfn)).symm
  refine ⟨by kernel_rfl, fun j t ht => ?_⟩
  rw [Tryd.params11] at ht
  obtain rfl : t = 3 := by simpa using Array.mem_of_getElem? ht
  exact (show Tryd.prog.wantsStandIn 3 = false by kernel_rfl)

/-- The statement. -/
theorem cordicLengths_card : Rows.CordicLengthsCardSaid :=
  Claim7.holds_tied_plain_at .later [] _ _ _ _ cordicLengths_said (fun _ h => by cases h) (by kernel_rfl) (fun _ h => by cases h) cordicLengths_row_tie rfl ⟨rfl, rfl⟩ (by kernel_rfl) rfl plain_cordicLengths (by kernel_rfl)

end Go.Proofs.YtkkgjcjjjbikfaaDoor
