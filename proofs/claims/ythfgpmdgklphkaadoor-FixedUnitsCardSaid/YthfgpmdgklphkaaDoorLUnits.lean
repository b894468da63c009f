
/- FixedUnits: lengths grow with the number, and an inch has 25400 micrometers.
   Conditions: the listed tables lie as the program's own text lays them (the card ties them); every input. -/
import Derived.Test.YthfgpmdgklphkaaDoorFrameL
import Derived.Test.YthfgpmdgklphkaaDoorFxL
import Derived.Test.YthfgpmdgklphkaaDoorFxM
set_option linter.unusedVariables false
set_option linter.unusedSimpArgs false
namespace Go.Proofs.YthfgpmdgklphkaaDoor
open Go.ChangeShapes Go.WideShapes Go.ChangeAt Go.RowKit

theorem len_mm (A : Int) (h1 : -900000000 ≤ A) (h2 : A ≤ 900000000) : lenv A 21 = (2 * A + 1000) / 2000 ∧ lene A 21 = 0 := by
  have v := vld_t (n := A) (by omega) (by omega)
  have l : ln A 21 = (2 * A + 1000) / 2000 := if_neg (by decide)
  have e : lene A 21 = 0 := by unfold lene; rw [if_pos ⟨v, .inr rfl⟩, l, if_pos (by omega)]
  exact ⟨by unfold lenv; rw [if_pos e, l], e⟩
theorem len_in (n : Int) (h1 : -40 ≤ n) (h2 : n ≤ 40) : lenv (n * 1000000) 20 = n * 25400 ∧ lene (n * 1000000) 20 = 0 := by
  have v := vld_t (n := n * 1000000) (by omega) (by omega)
  have l : ln (n * 1000000) 20 = n * 25400 := by unfold ln; rw [if_pos rfl]; omega
  have e : lene (n * 1000000) 20 = 0 := by unfold lene; rw [if_pos ⟨v, .inl rfl⟩, l, if_pos (by omega)]
  exact ⟨by unfold lenv; rw [if_pos e, l], e⟩

theorem walk_fixedUnits (a : Int) (a1 : -9223372036854775808 ≤ a) (a2 : a ≤ 9223372036854775807) (b : Int) (b1 : -9223372036854775808 ≤ b) (b2 : b ≤ 9223372036854775807) (w : World) (ht : Tb w) : Calls Tryd.prog 16 #[.int .i64 a, .int .i64 b] w fun e w' => e = .returned (.bool true) ∧ Below w.heap.size w w' := by
  have q0 := Qw.refl w
  have HT := Lib.hid ht
  clear ht
  have n1 := fun w => betweenW a (-900000000) 900000000 a1 a2 (by omega) (by omega) (by omega) (by omega) w
  have n2 := fun w => betweenW b (-900000000) 900000000 b1 b2 (by omega) (by omega) (by omega) (by omega) w
  obtain ⟨A1, A2⟩ := btw_bd a (-900000000) 900000000 (by omega)
  obtain ⟨B1, B2⟩ := btw_bd b (-900000000) 900000000 (by omega)
  have N1 := Lib.hid n1
  have N2 := Lib.hid n2
  clear n1 n2
  generalize -900000000 + a % (900000000 - -900000000 + 1) = A at *
  generalize -900000000 + b % (900000000 - -900000000 + 1) = B at *
  have n3 := fun w => betweenW A (-40) 40 (by omega) (by omega) (by omega) (by omega) (by omega) (by omega) w
  obtain ⟨C1, C2⟩ := btw_bd A (-40) 40 (by omega)
  have N3 := Lib.hid n3
  clear n3
  generalize -40 + A % (40 - -40 + 1) = n at *
  have l1 : lenv A 21 = (2 * A + 1000) / 2000 ∧ lene A 21 = 0 := len_mm A (by omega) (by omega)
  have l2 : lenv B 21 = (2 * B + 1000) / 2000 ∧ lene B 21 = 0 := len_mm B (by omega) (by omega)
  have l3 : lenv (n * 1000000) 20 = n * 25400 ∧ lene (n * 1000000) 20 = 0 := len_in n C1 C2
  have k1 := fun w => fxLength A 21 w
  have k2 := fun w => fxLength B 21 w
  have k3 := fun w => fxLength (n * 1000000) 20 w
  rw [l1.1, l1.2] at k1
  rw [l2.1, l2.2] at k2
  rw [l3.1, l3.2] at k3
  have f1 : A ≤ B → (2 * A + 1000) / 2000 ≤ (2 * B + 1000) / 2000 := by omega
  have f2 : B ≤ A → (2 * B + 1000) / 2000 ≤ (2 * A + 1000) / 2000 := by omega
  have f3 : max ((2 * A + 1000) / 2000 * 1000 - A) (A - (2 * A + 1000) / 2000 * 1000) ≤ 500 := by omega
  have x1 : -1000000 ≤ (2 * A + 1000) / 2000 := by omega
  have x2 : (2 * A + 1000) / 2000 ≤ 1000000 := by omega
  have y1 : -1000000 ≤ (2 * B + 1000) / 2000 := by omega
  have y2 : (2 * B + 1000) / 2000 ≤ 1000000 := by omega
  generalize (2 * A + 1000) / 2000 = x at *
  generalize (2 * B + 1000) / 2000 = y at *
  have K1 := Lib.hid k1
  have K2 := Lib.hid k2
  have K3 := Lib.hid k3
  clear k1 k2 k3 l1 l2 l3
  have m0 : -4000000000 ≤ max (x * 1000 - A) (A - x * 1000) := by omega
  by_cases h1 : B < A
  · have g := f2 (by omega)
    clear f1 f2
    go_enter Tryd.func16, Tryd.ntmps16
    go_wp2_with (first | (go_at_call 18; ((with_reducible refine (awakeF _ (HT.out.kept q0)).mono ?_); rintro e w' ⟨rfl, h⟩; replace q0 := Qw.trans q0 h; clear h)) | (go_at_call 30; ((with_reducible refine (N1.out _).mono ?_); rintro e w' ⟨rfl, rfl⟩)) | (go_at_call 30; ((with_reducible refine (N2.out _).mono ?_); rintro e w' ⟨rfl, rfl⟩)) | (go_at_call 30; ((with_reducible refine (N3.out _).mono ?_); rintro e w' ⟨rfl, rfl⟩)) | (go_at_call 42; ((with_reducible refine (K1.out _).mono ?_); rintro e w' ⟨rfl, h⟩; replace q0 := Qw.trans q0 h; clear h)) | (go_at_call 42; ((with_reducible refine (K2.out _).mono ?_); rintro e w' ⟨rfl, h⟩; replace q0 := Qw.trans q0 h; clear h)) | (go_at_call 42; ((with_reducible refine (K3.out _).mono ?_); rintro e w' ⟨rfl, h⟩; replace q0 := Qw.trans q0 h; clear h)))
    go_ret
    exact ⟨ret_bl (by first | rfl | (simp; omega)), q0⟩
  · by_cases h2 : A < B
    · have g := f1 (by omega)
      clear f1 f2
      go_enter Tryd.func16, Tryd.ntmps16
      go_wp2_with (first | (go_at_call 18; ((with_reducible refine (awakeF _ (HT.out.kept q0)).mono ?_); rintro e w' ⟨rfl, h⟩; replace q0 := Qw.trans q0 h; clear h)) | (go_at_call 30; ((with_reducible refine (N1.out _).mono ?_); rintro e w' ⟨rfl, rfl⟩)) | (go_at_call 30; ((with_reducible refine (N2.out _).mono ?_); rintro e w' ⟨rfl, rfl⟩)) | (go_at_call 30; ((with_reducible refine (N3.out _).mono ?_); rintro e w' ⟨rfl, rfl⟩)) | (go_at_call 42; ((with_reducible refine (K1.out _).mono ?_); rintro e w' ⟨rfl, h⟩; replace q0 := Qw.trans q0 h; clear h)) | (go_at_call 42; ((with_reducible refine (K2.out _).mono ?_); rintro e w' ⟨rfl, h⟩; replace q0 := Qw.trans q0 h; clear h)) | (go_at_call 42; ((with_reducible refine (K3.out _).mono ?_); rintro e w' ⟨rfl, h⟩; replace q0 := Qw.trans q0 h; clear h)))
      go_ret
      exact ⟨ret_bl (by first | rfl | (simp; omega)), q0⟩
    · have g := f1 (by omega)
      have g' := f2 (by omega)
      clear f1 f2
      go_enter Tryd.func16, Tryd.ntmps16
      go_wp2_with (first | (go_at_call 18; ((with_reducible refine (awakeF _ (HT.out.kept q0)).mono ?_); rintro e w' ⟨rfl, h⟩; replace q0 := Qw.trans q0 h; clear h)) | (go_at_call 30; ((with_reducible refine (N1.out _).mono ?_); rintro e w' ⟨rfl, rfl⟩)) | (go_at_call 30; ((with_reducible refine (N2.out _).mono ?_); rintro e w' ⟨rfl, rfl⟩)) | (go_at_call 30; ((with_reducible refine (N3.out _).mono ?_); rintro e w' ⟨rfl, rfl⟩)) | (go_at_call 42; ((with_reducible refine (K1.out _).mono ?_); rintro e w' ⟨rfl, h⟩; replace q0 := Qw.trans q0 h; clear h)) | (go_at_call 42; ((with_reducible refine (K2.out _).mono ?_); rintro e w' ⟨rfl, h⟩; replace q0 := Qw.trans q0 h; clear h)) | (go_at_call 42; ((with_reducible refine (K3.out _).mono ?_); rintro e w' ⟨rfl, h⟩; replace q0 := Qw.trans q0 h; clear h)))
      go_ret
      exact ⟨ret_bl (by first | rfl | (simp; omega)), q0⟩

/-! ### the row and the card -/
theorem reads_fixedUnits (os : Os) {H : Type} (enc : TypeId × Value → H) : ∃ places, DataW.whole enc Tryd.prog ((laidWorldL os).forCall (fun _ _ => 0) ⟨#[], #[.int .i64 0, .int .i64 0], []⟩).memory Tryd.f16.params.toList Rows.fixedUnitsSpec.vars false #[(.int .i64 0 : Value), .int .i64 0].toList 8 = some ([.lit (.int .i64 0), .lit (.int .i64 0)], [], places) :=
  ⟨[], by kernel_rfl⟩
set_option maxRecDepth 100000 in
theorem lifted_fixedUnits (os : Os) (started : os.Started) (H : Type) (enc : TypeId × Value → H) (F : Stop.Interp) :
    ReturnsInHanded {} Tryd.checked os 16 .any ((OpenSpec.ofChange Rows.fixedUnitsSpec).preRow enc Tryd.prog Tryd.f16 Rows.fixedUnitsRow.domain false Rows.fixedUnitsRow.laid) (((OpenSpec.ofChange Rows.fixedUnitsSpec).at F).post enc Tryd.prog Tryd.f16 false true false false) := by
  obtain ⟨places, hx⟩ := reads_fixedUnits os enc
  refine returnsInHanded_of_row (C := Tryd.checked) (s := OpenSpec.ofChange Rows.fixedUnitsSpec) ownL started (by kernel_rfl) Tryd.func16
    (witness_row_at (enc := enc) (C := Tryd.checked) false (laidWorldL os) #[.int .i64 0, .int .i64 0] rfl (by kernel_rfl) (by kernel_rfl) (by kernel_rfl)
      (OpenSpec.preRow_of_cond 8 hx (by kernel_rfl) (fun k hk => by cases hk) (by kernel_rfl) (laid_metL os _))) ?_
  intro W base args ds gs before hval0 hW _ _ _ hL _ _
  have ht : Tb W := tableL hL
  have hval : ∀ (j : Nat) t v, Tryd.f16.params[j]? = some t → args[j]? = some v → Value.okWide Tryd.prog W .any base t v := hval0
  have hW' := hW
  obtain ⟨p, q, hA0, hV, rfl, hfz, hnd⟩ := hW
  have hA : DataW.TrodAll enc Tryd.prog W 0 (fun _ => true) true Tryd.f16.params.toList args.toList ds p := hA0
  rw [Tryd.params16] at hA hval
  obtain ⟨v0, vs0, d0, ds0, p0, q0, hargs, rfl, rfl, h0, r0⟩ := trodAll_cons hA
  obtain ⟨v1, vs1, d1, ds1, p1, q1, rfl, rfl, rfl, h1, r1⟩ := trodAll_cons r0
  obtain ⟨rfl, rfl, rfl⟩ := trodAll_nil r1
  obtain rfl : args = #[v0, v1] := by cases args; simp_all
  obtain ⟨rfl, rfl⟩ := trodVars_none hV
  obtain ⟨a0, rfl, rfl, rfl, w0⟩ := open_int Tryd.underlying3 (hval 0 3 v0 rfl rfl) h0
  obtain ⟨x0, y0⟩ := i64_of_wf w0
  obtain ⟨a1, rfl, rfl, rfl, w1⟩ := open_int Tryd.underlying3 (hval 1 3 v1 rfl rfl) h1
  obtain ⟨x1, y1⟩ := i64_of_wf w1
  clear hA0 hval0 hL
  simp only [List.append_nil] at hW'
  refine (walk_fixedUnits a0 x0 y0 a1 x1 y1 W ht).mono fun e W' ⟨he, bel⟩ => ?_
  subst he
  exact ⟨_, rfl, _, _, _, [], _, [], hW', trodAll_mk1 (shut_bool Tryd.underlying4 _), (trodAll_cons_mk (shut_int Tryd.underlying3 w0) (trodAll_cons_mk (shut_int Tryd.underlying3 w1) trodAll_mk0)), rfl, Below.frame bel _, fun h => by cases h⟩

theorem fixedUnits_said : Rows.FixedUnitsSaid :=
  OpenClaim.holds_of_cond 16 Tryd.f16 rfl rfl rfl rfl rfl rfl rfl ⟨rfl, rfl, rfl, rfl, rfl⟩ rfl rfl rfl rfl rfl (by kernel_rfl) Tryd.func16 (by kernel_rfl)
    (of_decide_eq_true (by kernel_rfl)) (by unfold Func.isWrapper; first | (rw [if_pos (by decide +kernel)]; kernel_rfl) | (rw [if_neg (by decide +kernel)]; exact ⟨rfl, rfl⟩))
    (fun os started H enc _ F => by rw [OpenClaim.pre_eq_preRow]; exact lifted_fixedUnits os started H enc F)

theorem plain_fixedUnits (f : FuncId) (fn : Func) (hf : Tryd.pinned.checked.prog.funcNamed "cnc/cnclaw02.FixedUnits" = some f) (hfn : Tryd.pinned.checked.prog.funcs[f]? = some fn) :
    false = Tryd.pinned.checked.prog.looks [] ∧ ∀ (j : Nat) t, fn.params[j]? = some t → Tryd.pinned.checked.prog.wantsStandIn t = false := by
  obtain rfl : f = 16 := Option.some.inj ((show Tryd.prog.funcNamed "cnc/cnclaw02.FixedUnits" = some 16 by kernel_rfl).symm.trans hf) |>.symm
  obtain rfl : fn = Tryd.f16 := (Option.some.inj (Tryd.func16.symm.trans hfn)).symm
  refine ⟨by kernel_rfl, fun j t ht => ?_⟩
  rw [Tryd.params16] at ht
  obtain rfl : t = 3 := by simpa using Array.mem_of_getElem? ht
  exact (show Tryd.prog.wantsStandIn 3 = false by kernel_rfl)

/-- The statement. -/
theorem fixedUnits_card : Rows.FixedUnitsCardSaid :=
  Claim7.holds_tied_plain_at .later [] _ _ _ _ fixedUnits_said (fun _ h => by cases h) (by kernel_rfl) (fun _ h => by cases h) fixedUnits_row_tie rfl ⟨rfl, rfl⟩ (by kernel_rfl) rfl plain_fixedUnits (by kernel_rfl)

end Go.Proofs.YthfgpmdgklphkaaDoor
