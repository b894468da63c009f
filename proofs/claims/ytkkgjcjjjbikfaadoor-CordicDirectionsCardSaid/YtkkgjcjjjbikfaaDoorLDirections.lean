
/- CordicDirections: a point is its distance, turned by its direction, within 3 units.
   Conditions: the table of the steps' angles lies as the program's own text lays it (the card ties it); every input. -/
import Derived.Test.YtkkgjcjjjbikfaaDoorFrameC
import Derived.Test.YtkkgjcjjjbikfaaDoorCoM
set_option linter.unusedVariables false
set_option linter.unusedSimpArgs false
namespace Go.Proofs.YtkkgjcjjjbikfaaDoor
open Go.ChangeShapes Go.WideShapes Go.ChangeAt Go.RowKit

set_option maxRecDepth 100000 in
set_option maxHeartbeats 1000000 in
theorem walk_cordicDirections (x : Int) (x1 : -9223372036854775808 ≤ x) (x2 : x ≤ 9223372036854775807) (y : Int) (y1 : -9223372036854775808 ≤ y) (y2 : y ≤ 9223372036854775807) (w : World) (ht : Tc w) : Calls Tryd.prog 13 #[.int .i64 x, .int .i64 y] w fun e w' => e = .returned (.bool true) ∧ Below w.heap.size w w' := by
  have q0 := Qw.refl w
  have HT := Lib.hid ht
  clear ht
  have n1 := fun w => betweenW x (-1048576) 1048576 x1 x2 (by decide) (by decide) (by decide) (by decide) w
  obtain ⟨l0x, l1x⟩ := btwC x (-1048576) 1048576 (by decide)
  generalize -1048576 + x % (1048576 - -1048576 + 1) = x' at *
  have n2 := fun w => betweenW y (-1048576) 1048576 y1 y2 (by decide) (by decide) (by decide) (by decide) w
  obtain ⟨l0y, l1y⟩ := btwC y (-1048576) 1048576 (by decide)
  generalize -1048576 + y % (1048576 - -1048576 + 1) = y' at *
  have c1 := fun w ht => co_angle x' y' w ht
  by_cases h0 : x' = 0 ∧ y' = 0
  · obtain ⟨e1, e2⟩ := an_no (x := x') (y := y') (.inl h0)
    rw [e1, e2] at c1
    obtain ⟨rfl, rfl⟩ := h0
    clear e1 e2
    have N1 := Lib.hid n1
    have N2 := Lib.hid n2
    have C1 := Lib.hid c1
    clear n1 n2 c1
    go_enter Tryd.func13, Tryd.ntmps13
    go_wp2_with (first | (go_at_call 18; ((with_reducible refine (awakeC _ (HT.out.kept q0)).mono ?_); rintro e w' ⟨rfl, h⟩; replace q0 := Qw.trans q0 h; clear h)) | (go_at_call 17; ((with_reducible refine (N1.out _).mono ?_); rintro e w' ⟨rfl, rfl⟩)) | (go_at_call 17; ((with_reducible refine (N2.out _).mono ?_); rintro e w' ⟨rfl, rfl⟩)) | (go_at_call 21; ((with_reducible refine (C1.out _ (HT.out.kept q0)).mono ?_); rintro e w' ⟨rfl, h⟩; replace q0 := Qw.trans q0 h; clear h)))
    go_ret
    exact ⟨ret_b (by first | rfl | (simp; done)), q0⟩
  · have gd : ((x' == 0) = false) ∨ ((x' == 0) = true ∧ (y' == 0) = false) := by
      by_cases c : x' = 0
      · right; exact ⟨by rw [beq_iff_eq]; exact c, beq_eq_false_iff_ne.2 (fun e => h0 ⟨c, e⟩)⟩
      · left; exact beq_eq_false_iff_ne.2 c
    have ao := Cm.aok_t h0 (show -1099511627776 ≤ x' by omega) (by omega) (show -1099511627776 ≤ y' by omega) (by omega)
    have av : Cm.angv x' y' = Cm.ang x' y' := by unfold Cm.angv; rw [ao]; rfl
    rw [av, ao] at c1
    have ab : 0 ≤ Cm.ang x' y' ∧ Cm.ang x' y' < 360000000 := by unfold Cm.ang; omega
    have k := dir_law x' y' h0 l0x l1x l0y l1y
    have q1 := sq_bd l0x l1x
    have q2 := sq_bd l0y l1y
    obtain ⟨r1, _⟩ := root_near (x' * x' + y' * y') (by omega) (by omega)
    generalize Cm.ang x' y' = G at *
    generalize e1 : x' * x' = P1 at *
    generalize e2 : y' * y' = P2 at *
    obtain ⟨q1, q1'⟩ := q1
    obtain ⟨q2, q2'⟩ := q2
    obtain ⟨g1, g2⟩ := ab
    have f1 := fun w => sqrtW (P1 + P2) 2 (by omega) (by omega) w
    rw [r1] at f1
    generalize rtv (P1 + P2) 1 2 = M at *
    obtain ⟨m0, m1, k1, k2, k3, k4⟩ := k
    have c2 := fun w ht => co_rotate M 0 G (by omega) (by omega) w ht
    obtain ⟨o1, _⟩ := rotv_in M 0 G (by omega) (by omega) (by decide) (by decide)
    rw [o1] at c2
    generalize (rotv M 0 G).1 = U at *
    generalize (rotv M 0 G).2 = V at *
    have c3 := fun w => cl_near U x' 3 (by omega) (by omega) (by omega) (by omega) (by omega) (by omega) w
    have c4 := fun w => cl_near V y' 3 (by omega) (by omega) (by omega) (by omega) (by omega) (by omega) w
    clear o1 k1 k2 k3 k4 r1 ao av h0
    have N1 := Lib.hid n1
    have N2 := Lib.hid n2
    have C1 := Lib.hid c1
    have C2 := Lib.hid c2
    have C3 := Lib.hid c3
    have C4 := Lib.hid c4
    have F1 := Lib.hid f1
    clear n1 n2 c1 c2 c3 c4 f1
    rcases gd with z1 | ⟨z1, z2⟩
    all_goals
      go_enter Tryd.func13, Tryd.ntmps13
      go_wp2_with (first | (go_at_call 18; ((with_reducible refine (awakeC _ (HT.out.kept q0)).mono ?_); rintro e w' ⟨rfl, h⟩; replace q0 := Qw.trans q0 h; clear h)) | (go_at_call 17; ((with_reducible refine (N1.out _).mono ?_); rintro e w' ⟨rfl, rfl⟩)) | (go_at_call 17; ((with_reducible refine (N2.out _).mono ?_); rintro e w' ⟨rfl, rfl⟩)) | (go_at_call 21; ((with_reducible refine (C1.out _ (HT.out.kept q0)).mono ?_); rintro e w' ⟨rfl, h⟩; replace q0 := Qw.trans q0 h; clear h)) | (go_at_call 25; ((with_reducible refine (F1.out _).mono ?_); rintro e w' ⟨rfl, h⟩; replace q0 := Qw.trans q0 h; clear h)) | (go_at_call 19; ((with_reducible refine (C2.out _ (HT.out.kept q0)).mono ?_); rintro e w' ⟨rfl, h⟩; replace q0 := Qw.trans q0 h; clear h)) | (go_at_call 24; ((with_reducible refine (C3.out _).mono ?_); rintro e w' ⟨rfl, rfl⟩)) | (go_at_call 24; ((with_reducible refine (C4.out _).mono ?_); rintro e w' ⟨rfl, rfl⟩)))
      go_ret
      exact ⟨ret_b (by first | rfl | (simp; done)), q0⟩


/-! ### the row and the card -/
theorem reads_cordicDirections (os : Os) {H : Type} (enc : TypeId × Value → H) : ∃ places, DataW.whole enc Tryd.prog ((laidWorldC os).forCall (fun _ _ => 0) ⟨#[], #[.int .i64 0, .int .i64 0], []⟩).memory Tryd.f13.params.toList Rows.cordicDirectionsSpec.vars false #[(.int .i64 0 : Value), .int .i64 0].toList 8 = some ([.lit (.int .i64 0), .lit (.int .i64 0)], [], places) :=
  ⟨[], by kernel_rfl⟩
set_option maxRecDepth 100000 in
theorem lifted_cordicDirections (os : Os) (started : os.Started) (H : Type) (enc : TypeId × Value → H) (F : Stop.Interp) :
    ReturnsInHanded {} Tryd.checked os 13 .any ((OpenSpec.ofChange Rows.cordicDirectionsSpec).preRow enc Tryd.prog Tryd.f13 Rows.cordicDirectionsRow.domain false Rows.cordicDirectionsRow.laid) (((OpenSpec.ofChange Rows.cordicDirectionsSpec).at F).post enc Tryd.prog Tryd.f13 false true false false) := by
  obtain ⟨places, hx⟩ := reads_cordicDirections os enc
  refine returnsInHanded_of_row (C := Tryd.checked) (s := OpenSpec.ofChange Rows.cordicDirectionsSpec) ownC started (by kernel_rfl) Tryd.func13
    (witness_row_at (enc := enc) (C := Tryd.checked) false (laidWorldC os) #[.int .i64 0, .int .i64 0] rfl (by kernel_rfl) (by kernel_rfl) (by kernel_rfl)
      (OpenSpec.preRow_of_cond 8 hx (by kernel_rfl) (fun k hk => by cases hk) (by kernel_rfl) (laid_metC os _))) ?_
  intro W base args ds gs before hval0 hW _ _ _ hL _ _
  have ht : Tc W := tableC hL
  have hval : ∀ (j : Nat) t v, Tryd.f13.params[j]? = some t → args[j]? = some v → Value.okWide Tryd.prog W .any base t v := hval0
  have hW' := hW
  obtain ⟨p, q, hA0, hV, rfl, hfz, hnd⟩ := hW
  have hA : DataW.TrodAll enc Tryd.prog W 0 (fun _ => true) true Tryd.f13.params.toList args.toList ds p := hA0
  rw [Tryd.params13] at hA hval
  obtain ⟨v0, vs0, d0, ds0, p0, q0, hargs, rfl, rfl, h0, r0⟩ := trodAll_cons hA
  obtain ⟨v1, vs1, d1, ds1, p1, q1, rfl, rfl, rfl, h1, r1⟩ := trodAll_cons r0
  obtain ⟨rfl, rfl, rfl⟩ := trodAll_nil r1
  obtain rfl : args = #[v0, v1] := by cases args; simp_all
  obtain ⟨rfl, rfl⟩ := trodVars_none hV
  obtain ⟨a0, rfl, rfl, rfl, w0⟩ := open_int Tryd.underlying3 (hval 0 3 v0 rfl rfl) h0
  obtain ⟨x0, y0⟩ := i64_wfC w0
  obtain ⟨a1, rfl, rfl, rfl, w1⟩ := open_int Tryd.underlying3 (hval 1 3 v1 rfl rfl) h1
  obtain ⟨x1, y1⟩ := i64_wfC w1
  clear hA0 hval0 hL
  simp only [List.append_nil] at hW'
  refine (walk_cordicDirections a0 x0 y0 a1 x1 y1 W ht).mono fun e W' ⟨he, bel⟩ => ?_
  subst he
  exact ⟨_, rfl, _, _, _, [], _, [], hW', trodAll_mk1 (shut_bool Tryd.underlying4 _), (trodAll_cons_mk (shut_int Tryd.underlying3 w0) (trodAll_cons_mk (shut_int Tryd.underlying3 w1) trodAll_mk0)), rfl, Below.frame bel _, fun h => by cases h⟩

theorem cordicDirections_said : Rows.CordicDirectionsSaid :=
  OpenClaim.holds_of_cond 13 Tryd.f13 rfl rfl rfl rfl rfl rfl rfl ⟨rfl, rfl, rfl, rfl, rfl⟩ rfl rfl rfl rfl rfl (by kernel_rfl) Tryd.func13 (by kernel_rfl)
    (of_decide_eq_true (by kernel_rfl)) (by unfold Func.isWrapper; first | (rw [if_pos (by decide +kernel)]; kernel_rfl) | (rw [if_neg (by decide +kernel)]; exact ⟨rfl, rfl⟩))
    (fun os started H enc _ F => by rw [OpenClaim.pre_eq_preRow]; exact lifted_cordicDirections os started H enc F)

theorem plain_cordicDirections (f : FuncId) (fn : Func) (hf : Tryd.pinned.checked.prog.funcNamed "cnc/cnclaw03.CordicDirections" = some f) (hfn : Tryd.pinned.checked.prog.funcs[f]? = some fn) :
    false = Tryd.pinned.checked.prog.looks [] ∧ ∀ (j : Nat) t, fn.params[j]? = some t → Tryd.pinned.checked.prog.wantsStandIn t = false := by
  obtain rfl : f = 13 := Option.some.inj ((show Tryd.prog.funcNamed "cnc/cnclaw03.CordicDirections" = some 13 by kernel_rfl).symm.trans hf) |>.symm
  obtain rfl : fn = Tryd.f13 := (Option.some.inj (Tryd.func13.symm.trans hfn)).symm
  refine ⟨by kernel_rfl, fun j t ht => ?_⟩
  rw [Tryd.params13] at ht
  obtain rfl : t = 3 := by simpa using Array.mem_of_getElem? ht
  exact (show Tryd.prog.wantsStandIn 3 = false by kernel_rfl)

/-- The statement. -/
theorem cordicDirections_card : Rows.CordicDirectionsCardSaid :=
  Claim7.holds_tied_plain_at .later [] _ _ _ _ cordicDirections_said (fun _ h => by cases h) (by kernel_rfl) (fun _ h => by cases h) cordicDirections_row_tie rfl ⟨rfl, rfl⟩ (by kernel_rfl) rfl plain_cordicDirections (by kernel_rfl)

end Go.Proofs.YtkkgjcjjjbikfaaDoor
