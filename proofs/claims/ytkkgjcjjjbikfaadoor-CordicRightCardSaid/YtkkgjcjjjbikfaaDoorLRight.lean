
/- CordicRight: rotations by multiples of a quarter turn are exact.
   Conditions: the table of the steps' angles lies as the program's own text lays it (the card ties it); every input. -/
import Derived.Test.YtkkgjcjjjbikfaaDoorFrameC
import Derived.Test.YtkkgjcjjjbikfaaDoorCoM
set_option linter.unusedVariables false
set_option linter.unusedSimpArgs false
namespace Go.Proofs.YtkkgjcjjjbikfaaDoor
open Go.ChangeShapes Go.WideShapes Go.ChangeAt Go.RowKit

set_option maxRecDepth 100000 in
set_option maxHeartbeats 1000000 in
theorem walk_cordicRight (x : Int) (x1 : -9223372036854775808 ≤ x) (x2 : x ≤ 9223372036854775807) (y : Int) (y1 : -9223372036854775808 ≤ y) (y2 : y ≤ 9223372036854775807) (k : Int) (k1 : -9223372036854775808 ≤ k) (k2 : k ≤ 9223372036854775807) (w : World) (ht : Tc w) : Calls Tryd.prog 12 #[.int .i64 x, .int .i64 y, .int .i64 k] w fun e w' => e = .returned (.bool true) ∧ Below w.heap.size w w' := by
  have q0 := Qw.refl w
  have HT := Lib.hid ht
  clear ht
  have n1 := fun w => betweenW x (-4194304) 4194304 x1 x2 (by decide) (by decide) (by decide) (by decide) w
  obtain ⟨l0x, l1x⟩ := btwC x (-4194304) 4194304 (by decide)
  generalize -4194304 + x % (4194304 - -4194304 + 1) = x' at *
  have n2 := fun w => betweenW y (-4194304) 4194304 y1 y2 (by decide) (by decide) (by decide) (by decide) w
  obtain ⟨l0y, l1y⟩ := btwC y (-4194304) 4194304 (by decide)
  generalize -4194304 + y % (4194304 - -4194304 + 1) = y' at *
  have n3 := fun w => betweenW k (-40) 40 k1 k2 (by decide) (by decide) (by decide) (by decide) w
  obtain ⟨l0k, l1k⟩ := btwC k (-40) 40 (by decide)
  generalize -40 + k % (40 - -40 + 1) = k' at *
  have c1 := fun w ht => co_rotate x' y' (k' * 90000000) (by omega) (by omega) w ht
  obtain ⟨o1, _⟩ := rotv_in x' y' (k' * 90000000) l0x l1x l0y l1y
  rw [o1, right_law x' y' k' l0x l1x l0y l1y] at c1
  have c2 := fun w => modW k' 4 (by omega) (by omega) (by decide) (by decide) w
  have m0 : 0 ≤ k' % 4 := by omega
  have m1 : k' % 4 < 4 := by omega
  have qb := fun j => qt_bd (x', y') j (by dsimp only; omega) (by dsimp only; omega) (by dsimp only; omega) (by dsimp only; omega)
  generalize k' % 4 = m at *
  clear o1
  have N1 := Lib.hid n1
  have N2 := Lib.hid n2
  have N3 := Lib.hid n3
  have C1 := Lib.hid c1
  have C2 := Lib.hid c2
  have QB := Lib.hid qb
  clear n1 n2 n3 c1 c2 qb
  go_enter Tryd.func12, Tryd.ntmps12
  go_wp2_with (first | (go_at_call 18; ((with_reducible refine (awakeC _ (HT.out.kept q0)).mono ?_); rintro e w' ⟨rfl, h⟩; replace q0 := Qw.trans q0 h; clear h)) | (go_at_call 17; ((with_reducible refine (N1.out _).mono ?_); rintro e w' ⟨rfl, rfl⟩)) | (go_at_call 17; ((with_reducible refine (N2.out _).mono ?_); rintro e w' ⟨rfl, rfl⟩)) | (go_at_call 17; ((with_reducible refine (N3.out _).mono ?_); rintro e w' ⟨rfl, rfl⟩)) | (go_at_call 19; ((with_reducible refine (C1.out _ (HT.out.kept q0)).mono ?_); rintro e w' ⟨rfl, h⟩; replace q0 := Qw.trans q0 h; clear h)) | (go_at_call 16; ((with_reducible refine (C2.out _).mono ?_); rintro e w' ⟨rfl, rfl⟩)))
  go_loop [0, 1, 10] (fun a b i => ∃ j : Nat, j ≤ m.toNat ∧ i = .int .i64 (m - j) ∧ a = .int .i64 (Cm.qt j (x', y')).1 ∧ b = .int .i64 (Cm.qt j (x', y')).2) (fun _ _ i => (intOf i).toNat)
  case atStart => exact ⟨0, by omega, by simp, rfl, rfl⟩
  case round =>
    obtain ⟨j, hj, rfl, rfl, rfl⟩ := hrel
    obtain ⟨a1, a2, b1, b2⟩ := QB.out j
    by_cases c : j < m.toNat
    · have s1 : (Cm.qt (j + 1) (x', y')).1 = -(Cm.qt j (x', y')).2 := rfl
      have s2 : (Cm.qt (j + 1) (x', y')).2 = (Cm.qt j (x', y')).1 := rfl
      have S1 := Lib.hid s1
      have S2 := Lib.hid s2
      clear s1 s2
      generalize (Cm.qt j (x', y')).1 = X at *
      generalize (Cm.qt j (x', y')).2 = Y at *
      have lt : 0 < m - (j : Int) := by omega
      go_wp2
      go_round
      case rel => exact ⟨j + 1, by omega, by congr 1; omega, by rw [S1.out], by rw [S2.out]⟩
      case measure => simp [intOf]; omega
    · obtain rfl : j = m.toNat := by omega
      have ge : ¬ 0 < m - ((m.toNat : Nat) : Int) := by omega
      go_wp2_with (first | (go_at_call 18; ((with_reducible refine (awakeC _ (HT.out.kept q0)).mono ?_); rintro e w' ⟨rfl, h⟩; replace q0 := Qw.trans q0 h; clear h)))
      go_ret
      exact ⟨ret_b (by first | rfl | (simp; done)), q0⟩


/-! ### the row and the card -/
theorem reads_cordicRight (os : Os) {H : Type} (enc : TypeId × Value → H) : ∃ places, DataW.whole enc Tryd.prog ((laidWorldC os).forCall (fun _ _ => 0) ⟨#[], #[.int .i64 0, .int .i64 0, .int .i64 0], []⟩).memory Tryd.f12.params.toList Rows.cordicRightSpec.vars false #[(.int .i64 0 : Value), .int .i64 0, .int .i64 0].toList 8 = some ([.lit (.int .i64 0), .lit (.int .i64 0), .lit (.int .i64 0)], [], places) :=
  ⟨[], by kernel_rfl⟩
set_option maxRecDepth 100000 in
theorem lifted_cordicRight (os : Os) (started : os.Started) (H : Type) (enc : TypeId × Value → H) (F : Stop.Interp) :
    ReturnsInHanded {} Tryd.checked os 12 .any ((OpenSpec.ofChange Rows.cordicRightSpec).preRow enc Tryd.prog Tryd.f12 Rows.cordicRightRow.domain false Rows.cordicRightRow.laid) (((OpenSpec.ofChange Rows.cordicRightSpec).at F).post enc Tryd.prog Tryd.f12 false true false false) := by
  obtain ⟨places, hx⟩ := reads_cordicRight os enc
  refine returnsInHanded_of_row (C := Tryd.checked) (s := OpenSpec.ofChange Rows.cordicRightSpec) ownC started (by kernel_rfl) Tryd.func12
    (witness_row_at (enc := enc) (C := Tryd.checked) false (laidWorldC os) #[.int .i64 0, .int .i64 0, .int .i64 0] rfl (by kernel_rfl) (by kernel_rfl) (by kernel_rfl)
      (OpenSpec.preRow_of_cond 8 hx (by kernel_rfl) (fun k hk => by cases hk) (by kernel_rfl) (laid_metC os _))) ?_
  intro W base args ds gs before hval0 hW _ _ _ hL _ _
  have ht : Tc W := tableC hL
  have hval : ∀ (j : Nat) t v, Tryd.f12.params[j]? = some t → args[j]? = some v → Value.okWide Tryd.prog W .any base t v := hval0
  have hW' := hW
  obtain ⟨p, q, hA0, hV, rfl, hfz, hnd⟩ := hW
  have hA : DataW.TrodAll enc Tryd.prog W 0 (fun _ => true) true Tryd.f12.params.toList args.toList ds p := hA0
  rw [Tryd.params12] at hA hval
  obtain ⟨v0, vs0, d0, ds0, p0, q0, hargs, rfl, rfl, h0, r0⟩ := trodAll_cons hA
  obtain ⟨v1, vs1, d1, ds1, p1, q1, rfl, rfl, rfl, h1, r1⟩ := trodAll_cons r0
  obtain ⟨v2, vs2, d2, ds2, p2, q2, rfl, rfl, rfl, h2, r2⟩ := trodAll_cons r1
  obtain ⟨rfl, rfl, rfl⟩ := trodAll_nil r2
  obtain rfl : args = #[v0, v1, v2] := by cases args; simp_all
  obtain ⟨rfl, rfl⟩ := trodVars_none hV
  obtain ⟨a0, rfl, rfl, rfl, w0⟩ := open_int Tryd.underlying3 (hval 0 3 v0 rfl rfl) h0
  obtain ⟨x0, y0⟩ := i64_wfC w0
  obtain ⟨a1, rfl, rfl, rfl, w1⟩ := open_int Tryd.underlying3 (hval 1 3 v1 rfl rfl) h1
  obtain ⟨x1, y1⟩ := i64_wfC w1
  obtain ⟨a2, rfl, rfl, rfl, w2⟩ := open_int Tryd.underlying3 (hval 2 3 v2 rfl rfl) h2
  obtain ⟨x2, y2⟩ := i64_wfC w2
  clear hA0 hval0 hL
  simp only [List.append_nil] at hW'
  refine (walk_cordicRight a0 x0 y0 a1 x1 y1 a2 x2 y2 W ht).mono fun e W' ⟨he, bel⟩ => ?_
  subst he
  exact ⟨_, rfl, _, _, _, [], _, [], hW', trodAll_mk1 (shut_bool Tryd.underlying4 _), (trodAll_cons_mk (shut_int Tryd.underlying3 w0) (trodAll_cons_mk (shut_int Tryd.underlying3 w1) (trodAll_cons_mk (shut_int Tryd.underlying3 w2) trodAll_mk0))), rfl, Below.frame bel _, fun h => by cases h⟩

theorem cordicRight_said : Rows.CordicRightSaid :=
  OpenClaim.holds_of_cond 12 Tryd.f12 rfl rfl rfl rfl rfl rfl rfl ⟨rfl, rfl, rfl, rfl, rfl⟩ rfl rfl rfl rfl rfl (by kernel_rfl) Tryd.func12 (by kernel_rfl)
    (of_decide_eq_true (by kernel_rfl)) (by unfold Func.isWrapper; first | (rw [if_pos (by decide +kernel)]; kernel_rfl) | (rw [if_neg (by decide +kernel)]; exact ⟨rfl, rfl⟩))
    (fun os started H enc _ F => by rw [OpenClaim.pre_eq_preRow]; exact lifted_cordicRight os started H enc F)

theorem plain_cordicRight (f : FuncId) (fn : Func) (hf : Tryd.pinned.checked.prog.funcNamed "cnc/cnclaw03.CordicRight" = some f) (hfn : Tryd.pinned.checked.prog.funcs[f]? = some fn) :
    false = Tryd.pinned.checked.prog.looks [] ∧ ∀ (j : Nat) t, fn.params[j]? = some t → Tryd.pinned.checked.prog.wantsStandIn t = false := by
  obtain rfl : f = 12 := Option.some.inj ((show Tryd.prog.funcNamed "cnc/cnclaw03.CordicRight" = some 12 by kernel_rfl).symm.trans hf) |>.symm
  obtain rfl : fn = Tryd.f12 := (Option.some.inj (Tryd.func12.symm.trans hfn)).symm
  refine ⟨by kernel_rfl, fun j t ht => ?_⟩
  rw [Tryd.params12] at ht
  obtain rfl : t = 3 := by simpa using Array.mem_of_getElem? ht
  exact (show Tryd.prog.wantsStandIn 3 = false by kernel_rfl)

/-- The statement. -/
theorem cordicRight_card : Rows.CordicRightCardSaid :=
  Claim7.holds_tied_plain_at .later [] _ _ _ _ cordicRight_said (fun _ h => by cases h) (by kernel_rfl) (fun _ h => by cases h) cordicRight_row_tie rfl ⟨rfl, rfl⟩ (by kernel_rfl) rfl plain_cordicRight (by kernel_rfl)

end Go.Proofs.YtkkgjcjjjbikfaaDoor
