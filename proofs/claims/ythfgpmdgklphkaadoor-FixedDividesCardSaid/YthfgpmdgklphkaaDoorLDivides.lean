
/- FixedDivides: a quotient times the divisor is near the dividend.
   Conditions: the listed tables lie as the program's own text lays them (the card ties them); every input. -/
import Derived.Test.YthfgpmdgklphkaaDoorFrameL
import Derived.Test.YthfgpmdgklphkaaDoorFxL
import Derived.Test.YthfgpmdgklphkaaDoorFxM
set_option linter.unusedVariables false
set_option linter.unusedSimpArgs false
namespace Go.Proofs.YthfgpmdgklphkaaDoor
open Go.ChangeShapes Go.WideShapes Go.ChangeAt Go.RowKit

theorem walk_fixedDivides (a : Int) (a1 : -9223372036854775808 ≤ a) (a2 : a ≤ 9223372036854775807) (b : Int) (b1 : -9223372036854775808 ≤ b) (b2 : b ≤ 9223372036854775807) (w : World) (ht : Tb w) : Calls Tryd.prog 12 #[.int .i64 a, .int .i64 b] w fun e w' => e = .returned (.bool true) ∧ Below w.heap.size w w' := by
  have q0 := Qw.refl w
  have HT := Lib.hid ht
  clear ht
  obtain ⟨A1, A2⟩ := nb_bd a
  have n1 := fun w => numF a a1 a2 w
  have n2 := fun w => betweenW b (-1000000000) 1000000000 b1 b2 (by omega) (by omega) (by omega) (by omega) w
  obtain ⟨B1, B2⟩ := btw_bd b (-1000000000) 1000000000 (by omega)
  have N1 := Lib.hid n1
  have N2 := Lib.hid n2
  clear n1 n2
  generalize nb a = A at *
  generalize -1000000000 + b % (1000000000 - -1000000000 + 1) = B at *
  have vA := vld_t A1 A2
  have vB := vld_t (n := B) (by omega) (by omega)
  by_cases hB : B = 0
  · subst hB
    have k1 := fun w => fxDiv A 0 w
    rw [(div_zero A vA).1, (div_zero A vA).2] at k1
    have K1 := Lib.hid k1
    have K2 := K1
    clear k1 vA vB
    go_enter Tryd.func12, Tryd.ntmps12
    go_wp2_with (first | (go_at_call 18; ((with_reducible refine (awakeF _ (HT.out.kept q0)).mono ?_); rintro e w' ⟨rfl, h⟩; replace q0 := Qw.trans q0 h; clear h)) | (go_at_call 23; ((with_reducible refine (N1.out _).mono ?_); rintro e w' ⟨rfl, rfl⟩)) | (go_at_call 30; ((with_reducible refine (N2.out _).mono ?_); rintro e w' ⟨rfl, rfl⟩)) | (go_at_call 49; ((with_reducible refine (K1.out _).mono ?_); rintro e w' ⟨rfl, h⟩; replace q0 := Qw.trans q0 h; clear h)) | (go_at_call 50; ((with_reducible refine (K2.out _).mono ?_); rintro e w' ⟨rfl, h⟩; replace q0 := Qw.trans q0 h; clear h)))
    go_ret
    exact ⟨rfl, q0⟩
  · have zb : (B == 0) = false := beq_eq_false_iff_ne.2 hB
    have k1 := fun w => fxDiv A B w
    have mg : Mth.mag B = max B (-B) := by unfold Mth.mag; split <;> omega
    rcases div_cases A B vA vB hB with ⟨e, d1, d2, d3, d4⟩ | ⟨e, z⟩
    · rw [e] at k1
      rw [mg] at d1 d2
      generalize divv A B = q at *
      have k2 := fun w => fxMul q B w
      have vq := vld_t d3 d4
      rcases mul_cases q B vq vB with ⟨f, m1, m2, m3, m4⟩ | ⟨f, z⟩
      · rw [f] at k2
        generalize mulv q B = p at *
        have K1 := Lib.hid k1
        have K2 := Lib.hid k2
        have fin : 2 * max (p - A) (A - p) ≤ max B (-B) / 1000000 + 2 := by
          generalize q * B = Z at *
          omega
        have FIN := Lib.hid fin
        have l0 : -2000000000000000 ≤ max (p - A) (A - p) := by omega
        have l1 : max (p - A) (A - p) ≤ 2000000000000000 := by omega
        have l2 : 0 ≤ max B (-B) := by omega
        have l3 : max B (-B) ≤ 1000000000 := by omega
        have l4 : 0 ≤ max B (-B) / 1000000 := by omega
        have l5 : max B (-B) / 1000000 ≤ 1000 := by omega
        have l6 : decide (2 * max (p - A) (A - p) ≤ max B (-B) / 1000000 + 2) = true := decide_eq_true fin
        clear k1 k2 e f m1 m2 d1 d2 vA vB vq hB mg fin
        go_enter Tryd.func12, Tryd.ntmps12
        go_wp2_with (first | (go_at_call 18; ((with_reducible refine (awakeF _ (HT.out.kept q0)).mono ?_); rintro e w' ⟨rfl, h⟩; replace q0 := Qw.trans q0 h; clear h)) | (go_at_call 23; ((with_reducible refine (N1.out _).mono ?_); rintro e w' ⟨rfl, rfl⟩)) | (go_at_call 30; ((with_reducible refine (N2.out _).mono ?_); rintro e w' ⟨rfl, rfl⟩)) | (go_at_call 49; ((with_reducible refine (K1.out _).mono ?_); rintro e w' ⟨rfl, h⟩; replace q0 := Qw.trans q0 h; clear h)) | (go_at_call 50; ((with_reducible refine (K2.out _).mono ?_); rintro e w' ⟨rfl, h⟩; replace q0 := Qw.trans q0 h; clear h)))
        go_ret
        exact ⟨ret_bl (by first | rfl | simp [l6]), q0⟩
      · rw [f, z] at k2
        have K1 := Lib.hid k1
        have K2 := Lib.hid k2
        clear k1 k2 e f z d1 d2 vA vB vq hB mg
        go_enter Tryd.func12, Tryd.ntmps12
        go_wp2_with (first | (go_at_call 18; ((with_reducible refine (awakeF _ (HT.out.kept q0)).mono ?_); rintro e w' ⟨rfl, h⟩; replace q0 := Qw.trans q0 h; clear h)) | (go_at_call 23; ((with_reducible refine (N1.out _).mono ?_); rintro e w' ⟨rfl, rfl⟩)) | (go_at_call 30; ((with_reducible refine (N2.out _).mono ?_); rintro e w' ⟨rfl, rfl⟩)) | (go_at_call 49; ((with_reducible refine (K1.out _).mono ?_); rintro e w' ⟨rfl, h⟩; replace q0 := Qw.trans q0 h; clear h)) | (go_at_call 50; ((with_reducible refine (K2.out _).mono ?_); rintro e w' ⟨rfl, h⟩; replace q0 := Qw.trans q0 h; clear h)))
        go_ret
        exact ⟨ret_bl (by first | rfl | simp), q0⟩
    · rw [e, z] at k1
      have k2 := fun w => fxMul 0 B w
      rcases mul_cases 0 B (by decide) vB with ⟨f, m1, m2, m3, m4⟩ | ⟨f, z⟩
      · rw [f] at k2
        generalize mulv 0 B = p at *
        have K1 := Lib.hid k1
        have K2 := Lib.hid k2
        clear k1 k2 e f m1 m2 vA vB hB mg
        go_enter Tryd.func12, Tryd.ntmps12
        go_wp2_with (first | (go_at_call 18; ((with_reducible refine (awakeF _ (HT.out.kept q0)).mono ?_); rintro e w' ⟨rfl, h⟩; replace q0 := Qw.trans q0 h; clear h)) | (go_at_call 23; ((with_reducible refine (N1.out _).mono ?_); rintro e w' ⟨rfl, rfl⟩)) | (go_at_call 30; ((with_reducible refine (N2.out _).mono ?_); rintro e w' ⟨rfl, rfl⟩)) | (go_at_call 49; ((with_reducible refine (K1.out _).mono ?_); rintro e w' ⟨rfl, h⟩; replace q0 := Qw.trans q0 h; clear h)) | (go_at_call 50; ((with_reducible refine (K2.out _).mono ?_); rintro e w' ⟨rfl, h⟩; replace q0 := Qw.trans q0 h; clear h)))
        go_ret
        exact ⟨ret_bl (by first | rfl | simp), q0⟩
      · rw [f, z] at k2
        have K1 := Lib.hid k1
        have K2 := Lib.hid k2
        clear k1 k2 e f z vA vB hB mg
        go_enter Tryd.func12, Tryd.ntmps12
        go_wp2_with (first | (go_at_call 18; ((with_reducible refine (awakeF _ (HT.out.kept q0)).mono ?_); rintro e w' ⟨rfl, h⟩; replace q0 := Qw.trans q0 h; clear h)) | (go_at_call 23; ((with_reducible refine (N1.out _).mono ?_); rintro e w' ⟨rfl, rfl⟩)) | (go_at_call 30; ((with_reducible refine (N2.out _).mono ?_); rintro e w' ⟨rfl, rfl⟩)) | (go_at_call 49; ((with_reducible refine (K1.out _).mono ?_); rintro e w' ⟨rfl, h⟩; replace q0 := Qw.trans q0 h; clear h)) | (go_at_call 50; ((with_reducible refine (K2.out _).mono ?_); rintro e w' ⟨rfl, h⟩; replace q0 := Qw.trans q0 h; clear h)))
        go_ret
        exact ⟨ret_bl (by first | rfl | simp), q0⟩

/-! ### the row and the card -/
theorem reads_fixedDivides (os : Os) {H : Type} (enc : TypeId × Value → H) : ∃ places, DataW.whole enc Tryd.prog ((laidWorldL os).forCall (fun _ _ => 0) ⟨#[], #[.int .i64 0, .int .i64 0], []⟩).memory Tryd.f12.params.toList Rows.fixedDividesSpec.vars false #[(.int .i64 0 : Value), .int .i64 0].toList 8 = some ([.lit (.int .i64 0), .lit (.int .i64 0)], [], places) :=
  ⟨[], by kernel_rfl⟩
set_option maxRecDepth 100000 in
theorem lifted_fixedDivides (os : Os) (started : os.Started) (H : Type) (enc : TypeId × Value → H) (F : Stop.Interp) :
    ReturnsInHanded {} Tryd.checked os 12 .any ((OpenSpec.ofChange Rows.fixedDividesSpec).preRow enc Tryd.prog Tryd.f12 Rows.fixedDividesRow.domain false Rows.fixedDividesRow.laid) (((OpenSpec.ofChange Rows.fixedDividesSpec).at F).post enc Tryd.prog Tryd.f12 false true false false) := by
  obtain ⟨places, hx⟩ := reads_fixedDivides os enc
  refine returnsInHanded_of_row (C := Tryd.checked) (s := OpenSpec.ofChange Rows.fixedDividesSpec) ownL started (by kernel_rfl) Tryd.func12
    (witness_row_at (enc := enc) (C := Tryd.checked) false (laidWorldL os) #[.int .i64 0, .int .i64 0] rfl (by kernel_rfl) (by kernel_rfl) (by kernel_rfl)
      (OpenSpec.preRow_of_cond 8 hx (by kernel_rfl) (fun k hk => by cases hk) (by kernel_rfl) (laid_metL os _))) ?_
  intro W base args ds gs before hval0 hW _ _ _ hL _ _
  have ht : Tb W := tableL hL
  have hval : ∀ (j : Nat) t v, Tryd.f12.params[j]? = some t → args[j]? = some v → Value.okWide Tryd.prog W .any base t v := hval0
  have hW' := hW
  obtain ⟨p, q, hA0, hV, rfl, hfz, hnd⟩ := hW
  have hA : DataW.TrodAll enc Tryd.prog W 0 (fun _ => true) true Tryd.f12.params.toList args.toList ds p := hA0
  rw [Tryd.params12] at hA hval
  obtain ⟨v0, vs0, d0, ds0, p0, q0, hargs, rfl, rfl, h0, r0⟩ := trodAll_cons hA
  obtain ⟨v1, vs1, d1, ds1, p1, q1, rfl, rfl, rfl, h1, r1⟩ := trodAll_cons r0
  obtain ⟨rfl, rfl, rfl⟩ := trodAll_nil r1
  obtain rfl : args = #[v0, v1] := by cases args; simp_all
  obtain ⟨rfl, rfl⟩ := trodVars_none hV
  obtain ⟨a0, rfl, rfl, rfl, w0⟩ := open_int Tryd.underlying3 (hval 0 3 v0 rfl rfl) h0
  obtain ⟨x0, y0⟩ := i64_of_wf w0
  obtain ⟨a1, rfl, rfl, rfl, w1⟩ := open_int Tryd.underlying3 (hval 1 3 v1 rfl rfl) h1
  obtain ⟨x1, y1⟩ := i64_of_wf w1
  clear hA0 hval0 hL
  simp only [List.append_nil] at hW'
  refine (walk_fixedDivides a0 x0 y0 a1 x1 y1 W ht).mono fun e W' ⟨he, bel⟩ => ?_
  subst he
  exact ⟨_, rfl, _, _, _, [], _, [], hW', trodAll_mk1 (shut_bool Tryd.underlying4 _), (trodAll_cons_mk (shut_int Tryd.underlying3 w0) (trodAll_cons_mk (shut_int Tryd.underlying3 w1) trodAll_mk0)), rfl, Below.frame bel _, fun h => by cases h⟩

theorem fixedDivides_said : Rows.FixedDividesSaid :=
  OpenClaim.holds_of_cond 12 Tryd.f12 rfl rfl rfl rfl rfl rfl rfl ⟨rfl, rfl, rfl, rfl, rfl⟩ rfl rfl rfl rfl rfl (by kernel_rfl) Tryd.func12 (by kernel_rfl)
    (of_decide_eq_true (by kernel_rfl)) (by unfold Func.isWrapper; first | (rw [if_pos (by decide +kernel)]; kernel_rfl) | (rw [if_neg (by decide +kernel)]; exact ⟨rfl, rfl⟩))
    (fun os started H enc _ F => by rw [OpenClaim.pre_eq_preRow]; exact lifted_fixedDivides os started H enc F)

theorem plain_fixedDivides (f : FuncId) (fn : Func) (hf : Tryd.pinned.checked.prog.funcNamed "cnc/cnclaw02.FixedDivides" = some f) (hfn : Tryd.pinned.checked.prog.funcs[f]? = some fn) :
    false = Tryd.pinned.checked.prog.looks [] ∧ ∀ (j : Nat) t, fn.params[j]? = some t → Tryd.pinned.checked.prog.wantsStandIn t = false := by
  obtain rfl : f = 12 := Option.some.inj ((show Tryd.prog.funcNamed "cnc/cnclaw02.FixedDivides" = some 12 by kernel_rfl).symm.trans hf) |>.symm
  obtain rfl : fn = Tryd.f12 := (Option.some.inj (Tryd.func12.symm.trans hfn)).symm
  refine ⟨by kernel_rfl, fun j t ht => ?_⟩
  rw [Tryd.params12] at ht
  obtain rfl : t = 3 := by simpa using Array.mem_of_getElem? ht
  exact (show Tryd.prog.wantsStandIn 3 = false by kernel_rfl)

/-- The statement. -/
theorem fixedDivides_card : Rows.FixedDividesCardSaid :=
  Claim7.holds_tied_plain_at .later [] _ _ _ _ fixedDivides_said (fun _ h => by cases h) (by kernel_rfl) (fun _ h => by cases h) fixedDivides_row_tie rfl ⟨rfl, rfl⟩ (by kernel_rfl) rfl plain_fixedDivides (by kernel_rfl)

end Go.Proofs.YthfgpmdgklphkaaDoor
