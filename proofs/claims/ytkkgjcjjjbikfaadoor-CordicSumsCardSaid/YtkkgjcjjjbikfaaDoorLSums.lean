
/- CordicSums: the addition theorem, within 2^14 units of 2^-30.
   Conditions: the table of the steps' angles lies as the program's own text lays it (the card ties it); every input. -/
import Derived.Test.YtkkgjcjjjbikfaaDoorFrameC
import Derived.Test.YtkkgjcjjjbikfaaDoorCoM
set_option linter.unusedVariables false
set_option linter.unusedSimpArgs false
namespace Go.Proofs.YtkkgjcjjjbikfaaDoor
open Go.ChangeShapes Go.WideShapes Go.ChangeAt Go.RowKit

set_option maxRecDepth 100000 in
set_option maxHeartbeats 1000000 in
theorem walk_cordicSums (a : Int) (a1 : -9223372036854775808 ≤ a) (a2 : a ≤ 9223372036854775807) (b : Int) (b1 : -9223372036854775808 ≤ b) (b2 : b ≤ 9223372036854775807) (w : World) (ht : Tc w) : Calls Tryd.prog 8 #[.int .i64 a, .int .i64 b] w fun e w' => e = .returned (.bool true) ∧ Below w.heap.size w w' := by
  have q0 := Qw.refl w
  have HT := Lib.hid ht
  clear ht
  have n1 := fun w => modW a 360000000 a1 a2 (by decide) (by decide) w
  have m0a : 0 ≤ a % 360000000 := by omega
  have m1a : a % 360000000 < 360000000 := by omega
  generalize a % 360000000 = a' at *
  have n2 := fun w => modW b 360000000 b1 b2 (by decide) (by decide) w
  have m0b : 0 ≤ b % 360000000 := by omega
  have m1b : b % 360000000 < 360000000 := by omega
  generalize b % 360000000 = b' at *
  have c1 := fun w ht => co_sincos a' (by omega) (by omega) w ht
  have c2 := fun w ht => co_sincos b' (by omega) (by omega) w ht
  have c3 := fun w ht => co_sincos (a' + b') (by omega) (by omega) w ht
  have sb := Cm.sc_bd a'
  obtain ⟨s1, s2⟩ := Cm.nm_re sb
  obtain ⟨s3, s4⟩ := Cm.nm_im sb
  have tb := Cm.sc_bd b'
  obtain ⟨t1, t2⟩ := Cm.nm_re tb
  obtain ⟨t3, t4⟩ := Cm.nm_im tb
  have ub := Cm.sc_bd (a' + b')
  obtain ⟨u1, u2⟩ := Cm.nm_re ub
  obtain ⟨u3, u4⟩ := Cm.nm_im ub
  have k := Cm.sc_sum a' b' (by omega) (by omega) (by omega) (by omega) (by omega) (by omega)
  obtain ⟨k1, k2⟩ := Cm.nm_re k
  obtain ⟨k3, k4⟩ := Cm.nm_im k
  clear sb tb ub k
  generalize (Cm.sc a').1 = C at *
  generalize (Cm.sc a').2 = S at *
  generalize (Cm.sc b').1 = D at *
  generalize (Cm.sc b').2 = T at *
  generalize (Cm.sc (a' + b')).1 = E at *
  generalize (Cm.sc (a' + b')).2 = U at *
  have x1 := Cm.mul_abs s3 s4 t1 t2
  have x2 := Cm.mul_abs s1 s2 t3 t4
  have x3 := Cm.mul_abs s1 s2 t1 t2
  have x4 := Cm.mul_abs s3 s4 t3 t4
  obtain ⟨o1, p1, q1⟩ := md_30 S D (by omega) (by omega)
  obtain ⟨o2, p2, q2⟩ := md_30 C T (by omega) (by omega)
  obtain ⟨o3, p3, q3⟩ := md_30 C D (by omega) (by omega)
  obtain ⟨o4, p4, q4⟩ := md_30 S T (by omega) (by omega)
  have f1 := fun w => muldivW S D 1073741824 2 (by omega) (by omega) (by omega) (by omega) (by decide) (by decide) w
  have f2 := fun w => muldivW C T 1073741824 2 (by omega) (by omega) (by omega) (by omega) (by decide) (by decide) w
  have f3 := fun w => muldivW C D 1073741824 2 (by omega) (by omega) (by omega) (by omega) (by decide) (by decide) w
  have f4 := fun w => muldivW S T 1073741824 2 (by omega) (by omega) (by omega) (by omega) (by decide) (by decide) w
  rw [o1] at f1
  rw [o2] at f2
  rw [o3] at f3
  rw [o4] at f4
  generalize mdv S D 1073741824 2 = X at *
  generalize mdv C T 1073741824 2 = Y at *
  generalize mdv C D 1073741824 2 = V at *
  generalize mdv S T 1073741824 2 = W at *
  have c4 := fun w => cl_near U (X + Y) 16384 (by omega) (by omega) (by omega) (by omega) (by omega) (by omega) w
  have c5 := fun w => cl_near E (V - W) 16384 (by omega) (by omega) (by omega) (by omega) (by omega) (by omega) w
  have bX : -3000000000 ≤ X ∧ X ≤ 3000000000 := by omega
  have bY : -3000000000 ≤ Y ∧ Y ≤ 3000000000 := by omega
  have bV : -3000000000 ≤ V ∧ V ≤ 3000000000 := by omega
  have bW : -3000000000 ≤ W ∧ W ≤ 3000000000 := by omega
  obtain ⟨bX1, bX2⟩ := bX
  obtain ⟨bY1, bY2⟩ := bY
  obtain ⟨bV1, bV2⟩ := bV
  obtain ⟨bW1, bW2⟩ := bW
  clear o1 o2 o3 o4 p1 p2 p3 p4 q1 q2 q3 q4 x1 x2 x3 x4 k1 k2 k3 k4
  have N1 := Lib.hid n1
  have N2 := Lib.hid n2
  have C1 := Lib.hid c1
  have C2 := Lib.hid c2
  have C3 := Lib.hid c3
  have C4 := Lib.hid c4
  have C5 := Lib.hid c5
  have F1 := Lib.hid f1
  have F2 := Lib.hid f2
  have F3 := Lib.hid f3
  have F4 := Lib.hid f4
  clear n1 n2 c1 c2 c3 c4 c5 f1 f2 f3 f4
  go_enter Tryd.func8, Tryd.ntmps8
  go_wp2_with (first | (go_at_call 18; ((with_reducible refine (awakeC _ (HT.out.kept q0)).mono ?_); rintro e w' ⟨rfl, h⟩; replace q0 := Qw.trans q0 h; clear h)) | (go_at_call 16; ((with_reducible refine (N1.out _).mono ?_); rintro e w' ⟨rfl, rfl⟩)) | (go_at_call 16; ((with_reducible refine (N2.out _).mono ?_); rintro e w' ⟨rfl, rfl⟩)) | (go_at_call 14; ((with_reducible refine (C1.out _ (HT.out.kept q0)).mono ?_); rintro e w' ⟨rfl, h⟩; replace q0 := Qw.trans q0 h; clear h)) | (go_at_call 14; ((with_reducible refine (C2.out _ (HT.out.kept q0)).mono ?_); rintro e w' ⟨rfl, h⟩; replace q0 := Qw.trans q0 h; clear h)) | (go_at_call 14; ((with_reducible refine (C3.out _ (HT.out.kept q0)).mono ?_); rintro e w' ⟨rfl, h⟩; replace q0 := Qw.trans q0 h; clear h)) | (go_at_call 23; ((with_reducible refine (F1.out _).mono ?_); rintro e w' ⟨rfl, h⟩; replace q0 := Qw.trans q0 h; clear h)) | (go_at_call 23; ((with_reducible refine (F2.out _).mono ?_); rintro e w' ⟨rfl, h⟩; replace q0 := Qw.trans q0 h; clear h)) | (go_at_call 23; ((with_reducible refine (F3.out _).mono ?_); rintro e w' ⟨rfl, h⟩; replace q0 := Qw.trans q0 h; clear h)) | (go_at_call 23; ((with_reducible refine (F4.out _).mono ?_); rintro e w' ⟨rfl, h⟩; replace q0 := Qw.trans q0 h; clear h)) | (go_at_call 24; ((with_reducible refine (C4.out _).mono ?_); rintro e w' ⟨rfl, rfl⟩)) | (go_at_call 24; ((with_reducible refine (C5.out _).mono ?_); rintro e w' ⟨rfl, rfl⟩)))
  go_ret
  exact ⟨ret_b (by first | rfl | (simp; done)), q0⟩


/-! ### the row and the card -/
theorem reads_cordicSums (os : Os) {H : Type} (enc : TypeId × Value → H) : ∃ places, DataW.whole enc Tryd.prog ((laidWorldC os).forCall (fun _ _ => 0) ⟨#[], #[.int .i64 0, .int .i64 0], []⟩).memory Tryd.f8.params.toList Rows.cordicSumsSpec.vars false #[(.int .i64 0 : Value), .int .i64 0].toList 8 = some ([.lit (.int .i64 0), .lit (.int .i64 0)], [], places) :=
  ⟨[], by kernel_rfl⟩
set_option maxRecDepth 100000 in
theorem lifted_cordicSums (os : Os) (started : os.Started) (H : Type) (enc : TypeId × Value → H) (F : Stop.Interp) :
    ReturnsInHanded {} Tryd.checked os 8 .any ((OpenSpec.ofChange Rows.cordicSumsSpec).preRow enc Tryd.prog Tryd.f8 Rows.cordicSumsRow.domain false Rows.cordicSumsRow.laid) (((OpenSpec.ofChange Rows.cordicSumsSpec).at F).post enc Tryd.prog Tryd.f8 false true false false) := by
  obtain ⟨places, hx⟩ := reads_cordicSums os enc
  refine returnsInHanded_of_row (C := Tryd.checked) (s := OpenSpec.ofChange Rows.cordicSumsSpec) ownC started (by kernel_rfl) Tryd.func8
    (witness_row_at (enc := enc) (C := Tryd.checked) false (laidWorldC os) #[.int .i64 0, .int .i64 0] rfl (by kernel_rfl) (by kernel_rfl) (by kernel_rfl)
      (OpenSpec.preRow_of_cond 8 hx (by kernel_rfl) (fun k hk => by cases hk) (by kernel_rfl) (laid_metC os _))) ?_
  intro W base args ds gs before hval0 hW _ _ _ hL _ _
  have ht : Tc W := tableC hL
  have hval : ∀ (j : Nat) t v, Tryd.f8.params[j]? = some t → args[j]? = some v → Value.okWide Tryd.prog W .any base t v := hval0
  have hW' := hW
  obtain ⟨p, q, hA0, hV, rfl, hfz, hnd⟩ := hW
  have hA : DataW.TrodAll enc Tryd.prog W 0 (fun _ => true) true Tryd.f8.params.toList args.toList ds p := hA0
  rw [Tryd.params8] at hA hval
  obtain ⟨v0, vs0, d0, ds0, p0, q0, hargs, rfl, rfl, h0, r0⟩ := trodAll_cons hA
  obtain ⟨v1, vs1, d1, ds1, p1, q1, rfl, rfl, rfl, h1, r1⟩ := trodAll_cons r0
  obtain ⟨rfl, rfl, rfl⟩ := trodAll_nil r1
  obtain rfl : args = #[v0, v1] := by cases args; simp_all
  obtain ⟨rfl, rfl⟩ := trodVars_none hV
  obtain ⟨a0, rfl, rfl, rfl, w0⟩ := open_int Tryd.underlying3 (hval 0 3 v0 rfl rfl) h0
  obtain ⟨x0, y0⟩ := i64_wfC w0
  obtain ⟨a1, rfl, rfl, rfl, w1⟩ := open_int Tryd.underlying3 (hval 1 3 v1 rfl rfl) h1
  obtain ⟨x1, y1⟩ := i64_wfC w1
  clear hA0 hval0 hL
  simp only [List.append_nil] at hW'
  refine (walk_cordicSums a0 x0 y0 a1 x1 y1 W ht).mono fun e W' ⟨he, bel⟩ => ?_
  subst he
  exact ⟨_, rfl, _, _, _, [], _, [], hW', trodAll_mk1 (shut_bool Tryd.underlying4 _), (trodAll_cons_mk (shut_int Tryd.underlying3 w0) (trodAll_cons_mk (shut_int Tryd.underlying3 w1) trodAll_mk0)), rfl, Below.frame bel _, fun h => by cases h⟩

theorem cordicSums_said : Rows.CordicSumsSaid :=
  OpenClaim.holds_of_cond 8 Tryd.f8 rfl rfl rfl rfl rfl rfl rfl ⟨rfl, rfl, rfl, rfl, rfl⟩ rfl rfl rfl rfl rfl (by kernel_rfl) Tryd.func8 (by kernel_rfl)
    (of_decide_eq_true (by kernel_rfl)) (by unfold Func.isWrapper; first | (rw [if_pos (by decide +kernel)]; kernel_rfl) | (rw [if_neg (by decide +kernel)]; exact ⟨rfl, rfl⟩))
    (fun os started H enc _ F => by rw [OpenClaim.pre_eq_preRow]; exact lifted_cordicSums os started H enc F)

theorem plain_cordicSums (f : FuncId) (fn : Func) (hf : Tryd.pinned.checked.prog.funcNamed "cnc/cnclaw03.CordicSums" = some f) (hfn : Tryd.pinned.checked.prog.funcs[f]? = some fn) :
    false = Tryd.pinned.checked.prog.looks [] ∧ ∀ (j : Nat) t, fn.params[j]? = some t → Tryd.pinned.checked.prog.wantsStandIn t = false := by
  obtain rfl : f = 8 := Option.some.inj ((show Tryd.prog.funcNamed "cnc/cnclaw03.CordicSums" = some 8 by kernel_rfl).symm.trans hf) |>.symm
  obtain rfl : fn = Tryd.f8 := (Option.some.inj (Tryd.func8.symm.trans hfn)).symm
  refine ⟨by kernel_rfl, fun j t ht => ?_⟩
  rw [Tryd.params8] at ht
  obtain rfl : t = 3 := by simpa using Array.mem_of_getElem? ht
  exact (show Tryd.prog.wantsStandIn 3 = false by kernel_rfl)

/-- The statement. -/
theorem cordicSums_card : Rows.CordicSumsCardSaid :=
  Claim7.holds_tied_plain_at .later [] _ _ _ _ cordicSums_said (fun _ h => by cases h) (by kernel_rfl) (fun _ h => by cases h) cordicSums_row_tie rfl ⟨rfl, rfl⟩ (by kernel_rfl) rfl plain_cordicSums (by kernel_rfl)

end Go.Proofs.YtkkgjcjjjbikfaaDoor
