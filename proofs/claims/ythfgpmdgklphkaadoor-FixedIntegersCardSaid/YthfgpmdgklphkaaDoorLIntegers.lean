
/- FixedIntegers: Fix, Round and Fup are integers next to the number, in this order.
   Conditions: the listed tables lie as the program's own text lays them (the card ties them); every input. -/
import Derived.Test.YthfgpmdgklphkaaDoorFrameL
import Derived.Test.YthfgpmdgklphkaaDoorFxL
import Derived.Test.YthfgpmdgklphkaaDoorFxM
set_option linter.unusedVariables false
set_option linter.unusedSimpArgs false
namespace Go.Proofs.YthfgpmdgklphkaaDoor
open Go.ChangeShapes Go.WideShapes Go.ChangeAt Go.RowKit

theorem walk_fixedIntegers (n : Int) (n1 : -9223372036854775808 ≤ n) (n2 : n ≤ 9223372036854775807) (w : World) (ht : Tb w) : Calls Tryd.prog 14 #[.int .i64 n] w fun e w' => e = .returned (.bool true) ∧ Below w.heap.size w w' := by
  have q0 := Qw.refl w
  have HT := Lib.hid ht
  clear ht
  obtain ⟨A1, A2⟩ := nb_bd n
  have n1 := fun w => numF n n1 n2 w
  have N1 := Lib.hid n1
  clear n1
  generalize nb n = A at *
  have vA := vld_t A1 A2
  obtain ⟨ar, er, ef, eg, vr, vf, vg⟩ := int_cases A vA
  have k1 := fun w => fxFix A w
  have k2 := fun w => fxRound A w
  have k3 := fun w => fxFup A w
  rw [ar] at k1 k2 k3
  have zr : roundv A % 1000000 = 0 := by rw [er]; omega
  have zf : fixv A % 1000000 = 0 := by rw [ef]; unfold clv flv; split <;> omega
  have zg : fupv A % 1000000 = 0 := by rw [eg]; unfold clv flv; split <;> omega
  have w1 := fun w => fxWhole (fixv A) w
  have w2 := fun w => fxWhole (roundv A) w
  have w3 := fun w => fxWhole (fupv A) w
  have w4 := fun w => fxWhole A w
  rw [(whole_of _ vf zf).1, (whole_of _ vf zf).2] at w1
  rw [(whole_of _ vr zr).1, (whole_of _ vr zr).2] at w2
  rw [(whole_of _ vg zg).1, (whole_of _ vg zg).2] at w3
  have br := vld_bd vr
  have bf := vld_bd vf
  have bg := vld_bd vg
  obtain ⟨br1, br2⟩ := br
  obtain ⟨bf1, bf2⟩ := bf
  obtain ⟨bg1, bg2⟩ := bg
  have fin : (A % 1000000 = 0 → fixv A = A ∧ roundv A = A ∧ fupv A = A) ∧ (A % 1000000 ≠ 0 → fixv A ≠ A) ∧ max (fixv A) (-fixv A) ≤ max A (-A) ∧ max A (-A) ≤ max (fupv A) (-fupv A) ∧ max (fupv A - fixv A) (fixv A - fupv A) ≤ 1000000 ∧
      2 * max (roundv A - A) (A - roundv A) ≤ 1000000 ∧ (roundv A = fixv A ∨ roundv A = fupv A) := by
    rw [er, ef, eg]
    unfold clv flv
    by_cases c : A < 0
    · rw [if_pos c, if_pos c]; omega
    · rw [if_neg c, if_neg c]; omega
  clear er ef eg zr zf zg vr vf vg ar
  generalize hx : fixv A = x at *
  generalize hy : roundv A = y at *
  generalize hz : fupv A = z at *
  clear hx hy hz
  have K1 := Lib.hid k1
  have K2 := Lib.hid k2
  have K3 := Lib.hid k3
  have W1 := Lib.hid w1
  have W2 := Lib.hid w2
  have W3 := Lib.hid w3
  clear k1 k2 k3 w1 w2 w3
  obtain ⟨i1, i2, i3, i4, i5, i6, i7⟩ := fin
  by_cases c : A % 1000000 = 0
  · obtain ⟨rfl, rfl, rfl⟩ := i1 c
    rw [(whole_of _ vA c).1, (whole_of _ vA c).2] at w4
    have W4 := Lib.hid w4
    have wv : z / 1000000 * 1000000 = z := by omega
    have wb1 : -1000000000 ≤ z / 1000000 := by omega
    have wb2 : z / 1000000 ≤ 1000000000 := by omega
    clear w4 i1 i2 i3 i4 i5 i6 i7 vA c
    go_enter Tryd.func14, Tryd.ntmps14
    go_wp2_with (first | (go_at_call 18; ((with_reducible refine (awakeF _ (HT.out.kept q0)).mono ?_); rintro e w' ⟨rfl, h⟩; replace q0 := Qw.trans q0 h; clear h)) | (go_at_call 23; ((with_reducible refine (N1.out _).mono ?_); rintro e w' ⟨rfl, rfl⟩)) | (go_at_call 35; ((with_reducible refine (K1.out _).mono ?_); rintro e w' ⟨rfl, h⟩; replace q0 := Qw.trans q0 h; clear h)) | (go_at_call 33; ((with_reducible refine (K2.out _).mono ?_); rintro e w' ⟨rfl, h⟩; replace q0 := Qw.trans q0 h; clear h)) | (go_at_call 37; ((with_reducible refine (K3.out _).mono ?_); rintro e w' ⟨rfl, h⟩; replace q0 := Qw.trans q0 h; clear h)) | (go_at_call 39; ((with_reducible refine (W1.out _).mono ?_); rintro e w' ⟨rfl, rfl⟩)) | (go_at_call 39; ((with_reducible refine (W2.out _).mono ?_); rintro e w' ⟨rfl, rfl⟩)) | (go_at_call 39; ((with_reducible refine (W3.out _).mono ?_); rintro e w' ⟨rfl, rfl⟩)) | (go_at_call 39; ((with_reducible refine (W4.out _).mono ?_); rintro e w' ⟨rfl, rfl⟩)))
    go_ret
    exact ⟨ret_bl (by first | rfl | (simp; omega)), q0⟩
  · have ne := i2 c
    rw [(whole_not _ c).1, (whole_not _ c).2] at w4
    have W4 := Lib.hid w4
    have zb : (x == A) = false := beq_eq_false_iff_ne.2 ne
    have j1 : 0 ≤ max (y - A) (A - y) := by omega
    have j2 : max (y - A) (A - y) ≤ 500000 := by omega
    have d1 : decide (max x (-x) ≤ max A (-A)) = true := decide_eq_true i3
    have d2 : decide (max A (-A) ≤ max z (-z)) = true := decide_eq_true i4
    have d3 : decide (max (z - x) (x - z) ≤ 1000000) = true := decide_eq_true i5
    have d4 : decide (2 * max (y - A) (A - y) ≤ 1000000) = true := decide_eq_true i6
    by_cases e : y = x
    · have ye : (y == x) = true := by rw [beq_iff_eq]; exact e
      have EE := Lib.hid e
      clear w4 i1 i2 i7 vA c ne e
      go_enter Tryd.func14, Tryd.ntmps14
      go_wp2_with (first | (go_at_call 18; ((with_reducible refine (awakeF _ (HT.out.kept q0)).mono ?_); rintro e w' ⟨rfl, h⟩; replace q0 := Qw.trans q0 h; clear h)) | (go_at_call 23; ((with_reducible refine (N1.out _).mono ?_); rintro e w' ⟨rfl, rfl⟩)) | (go_at_call 35; ((with_reducible refine (K1.out _).mono ?_); rintro e w' ⟨rfl, h⟩; replace q0 := Qw.trans q0 h; clear h)) | (go_at_call 33; ((with_reducible refine (K2.out _).mono ?_); rintro e w' ⟨rfl, h⟩; replace q0 := Qw.trans q0 h; clear h)) | (go_at_call 37; ((with_reducible refine (K3.out _).mono ?_); rintro e w' ⟨rfl, h⟩; replace q0 := Qw.trans q0 h; clear h)) | (go_at_call 39; ((with_reducible refine (W1.out _).mono ?_); rintro e w' ⟨rfl, rfl⟩)) | (go_at_call 39; ((with_reducible refine (W2.out _).mono ?_); rintro e w' ⟨rfl, rfl⟩)) | (go_at_call 39; ((with_reducible refine (W3.out _).mono ?_); rintro e w' ⟨rfl, rfl⟩)) | (go_at_call 39; ((with_reducible refine (W4.out _).mono ?_); rintro e w' ⟨rfl, rfl⟩)))
      go_ret
      exact ⟨ret_bl (by first | rfl | (simp; omega)), q0⟩
    · have ye : (y == x) = false := beq_eq_false_iff_ne.2 e
      have yz : (y == z) = true := by rw [beq_iff_eq]; exact i7.resolve_left e
      clear w4 i1 i2 i7 vA c ne e
      go_enter Tryd.func14, Tryd.ntmps14
      go_wp2_with (first | (go_at_call 18; ((with_reducible refine (awakeF _ (HT.out.kept q0)).mono ?_); rintro e w' ⟨rfl, h⟩; replace q0 := Qw.trans q0 h; clear h)) | (go_at_call 23; ((with_reducible refine (N1.out _).mono ?_); rintro e w' ⟨rfl, rfl⟩)) | (go_at_call 35; ((with_reducible refine (K1.out _).mono ?_); rintro e w' ⟨rfl, h⟩; replace q0 := Qw.trans q0 h; clear h)) | (go_at_call 33; ((with_reducible refine (K2.out _).mono ?_); rintro e w' ⟨rfl, h⟩; replace q0 := Qw.trans q0 h; clear h)) | (go_at_call 37; ((with_reducible refine (K3.out _).mono ?_); rintro e w' ⟨rfl, h⟩; replace q0 := Qw.trans q0 h; clear h)) | (go_at_call 39; ((with_reducible refine (W1.out _).mono ?_); rintro e w' ⟨rfl, rfl⟩)) | (go_at_call 39; ((with_reducible refine (W2.out _).mono ?_); rintro e w' ⟨rfl, rfl⟩)) | (go_at_call 39; ((with_reducible refine (W3.out _).mono ?_); rintro e w' ⟨rfl, rfl⟩)) | (go_at_call 39; ((with_reducible refine (W4.out _).mono ?_); rintro e w' ⟨rfl, rfl⟩)))
      go_ret
      exact ⟨ret_bl (by first | rfl | (simp; omega)), q0⟩

/-! ### the row and the card -/
theorem reads_fixedIntegers (os : Os) {H : Type} (enc : TypeId × Value → H) : ∃ places, DataW.whole enc Tryd.prog ((laidWorldL os).forCall (fun _ _ => 0) ⟨#[], #[.int .i64 0], []⟩).memory Tryd.f14.params.toList Rows.fixedIntegersSpec.vars false #[(.int .i64 0 : Value)].toList 8 = some ([.lit (.int .i64 0)], [], places) :=
  ⟨[], by kernel_rfl⟩
set_option maxRecDepth 100000 in
theorem lifted_fixedIntegers (os : Os) (started : os.Started) (H : Type) (enc : TypeId × Value → H) (F : Stop.Interp) :
    ReturnsInHanded {} Tryd.checked os 14 .any ((OpenSpec.ofChange Rows.fixedIntegersSpec).preRow enc Tryd.prog Tryd.f14 Rows.fixedIntegersRow.domain false Rows.fixedIntegersRow.laid) (((OpenSpec.ofChange Rows.fixedIntegersSpec).at F).post enc Tryd.prog Tryd.f14 false true false false) := by
  obtain ⟨places, hx⟩ := reads_fixedIntegers os enc
  refine returnsInHanded_of_row (C := Tryd.checked) (s := OpenSpec.ofChange Rows.fixedIntegersSpec) ownL started (by kernel_rfl) Tryd.func14
    (witness_row_at (enc := enc) (C := Tryd.checked) false (laidWorldL os) #[.int .i64 0] rfl (by kernel_rfl) (by kernel_rfl) (by kernel_rfl)
      (OpenSpec.preRow_of_cond 8 hx (by kernel_rfl) (fun k hk => by cases hk) (by kernel_rfl) (laid_metL os _))) ?_
  intro W base args ds gs before hval0 hW _ _ _ hL _ _
  have ht : Tb W := tableL hL
  have hval : ∀ (j : Nat) t v, Tryd.f14.params[j]? = some t → args[j]? = some v → Value.okWide Tryd.prog W .any base t v := hval0
  have hW' := hW
  obtain ⟨p, q, hA0, hV, rfl, hfz, hnd⟩ := hW
  have hA : DataW.TrodAll enc Tryd.prog W 0 (fun _ => true) true Tryd.f14.params.toList args.toList ds p := hA0
  rw [Tryd.params14] at hA hval
  obtain ⟨v0, vs0, d0, ds0, p0, q0, hargs, rfl, rfl, h0, r0⟩ := trodAll_cons hA
  obtain ⟨rfl, rfl, rfl⟩ := trodAll_nil r0
  obtain rfl : args = #[v0] := by cases args; simp_all
  obtain ⟨rfl, rfl⟩ := trodVars_none hV
  obtain ⟨a0, rfl, rfl, rfl, w0⟩ := open_int Tryd.underlying3 (hval 0 3 v0 rfl rfl) h0
  obtain ⟨x0, y0⟩ := i64_of_wf w0
  clear hA0 hval0 hL
  simp only [List.append_nil] at hW'
  refine (walk_fixedIntegers a0 x0 y0 W ht).mono fun e W' ⟨he, bel⟩ => ?_
  subst he
  exact ⟨_, rfl, _, _, _, [], _, [], hW', trodAll_mk1 (shut_bool Tryd.underlying4 _), (trodAll_cons_mk (shut_int Tryd.underlying3 w0) trodAll_mk0), rfl, Below.frame bel _, fun h => by cases h⟩

theorem fixedIntegers_said : Rows.FixedIntegersSaid :=
  OpenClaim.holds_of_cond 14 Tryd.f14 rfl rfl rfl rfl rfl rfl rfl ⟨rfl, rfl, rfl, rfl, rfl⟩ rfl rfl rfl rfl rfl (by kernel_rfl) Tryd.func14 (by kernel_rfl)
    (of_decide_eq_true (by kernel_rfl)) (by unfold Func.isWrapper; first | (rw [if_pos (by decide +kernel)]; kernel_rfl) | (rw [if_neg (by decide +kernel)]; exact ⟨rfl, rfl⟩))
    (fun os started H enc _ F => by rw [OpenClaim.pre_eq_preRow]; exact lifted_fixedIntegers os started H enc F)

theorem plain_fixedIntegers (f : FuncId) (fn : Func) (hf : Tryd.pinned.checked.prog.funcNamed "cnc/cnclaw02.FixedIntegers" = some f) (hfn : Tryd.pinned.checked.prog.funcs[f]? = some fn) :
    false = Tryd.pinned.checked.prog.looks [] ∧ ∀ (j : Nat) t, fn.params[j]? = some t → Tryd.pinned.checked.prog.wantsStandIn t = false := by
  obtain rfl : f = 14 := Option.some.inj ((show Tryd.prog.funcNamed "cnc/cnclaw02.FixedIntegers" = some 14 by kernel_rfl).symm.trans hf) |>.symm
  obtain rfl : fn = Tryd.f14 := (Option.some.inj (Tryd.func14.symm.trans hfn)).symm
  refine ⟨by kernel_rfl, fun j t ht => ?_⟩
  rw [Tryd.params14] at ht
  obtain rfl : t = 3 := by simpa using Array.mem_of_getElem? ht
  exact (show Tryd.prog.wantsStandIn 3 = false by kernel_rfl)

/-- The statement. -/
theorem fixedIntegers_card : Rows.FixedIntegersCardSaid :=
  Claim7.holds_tied_plain_at .later [] _ _ _ _ fixedIntegers_said (fun _ h => by cases h) (by kernel_rfl) (fun _ h => by cases h) fixedIntegers_row_tie rfl ⟨rfl, rfl⟩ (by kernel_rfl) rfl plain_fixedIntegers (by kernel_rfl)

end Go.Proofs.YthfgpmdgklphkaaDoor
