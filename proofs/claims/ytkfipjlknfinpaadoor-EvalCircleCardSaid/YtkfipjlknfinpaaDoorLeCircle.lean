
/- EvalCircle of layer 8: sine and cosine of an angle are those of a circle within some millionths, and the arc tangent leads back to the angle.
   Conditions: the listed tables lie as the program's own text lays them (the card ties them); every input. -/
import Derived.Test.YtkfipjlknfinpaaDoorFrameE
import Derived.Test.YtkfipjlknfinpaaDoorEvL
import Derived.Test.YtkfipjlknfinpaaDoorEvQ
import Derived.Test.YtkfipjlknfinpaaDoorEcP
import Derived.Deep.Cut
set_option linter.unusedVariables false
set_option linter.unusedSimpArgs false
namespace Go.Proofs.YtkfipjlknfinpaaDoor
open Go.ChangeShapes Go.WideShapes Go.ChangeAt Go.RowKit

theorem kd_num (w : World) (a : Int) : Kd (w.alloc (.cells #[.int .i64 0, .int .i64 a, .slice none 0 0] 31)) (some ⟨w.heap.size, 0, none⟩) 1 [Sy.num a] := KidsB.one (x := Sy.num a) (Bx.new _ _ _) trivial (kd_nil _)
namespace Ev
theorem dir_small {a b : Int} (h : ¬ (a = 0 ∧ b = 0)) (a1 : -1000000000000 ≤ a) (a2 : a ≤ 1000000000000) (b1 : -1000000000000 ≤ b) (b2 : b ≤ 1000000000000) : dirv a b = (Cm.angv b a, 0) := by
  unfold dirv
  rw [if_neg h, hal_no (by unfold big; simp; omega)]
theorem evl_sgx {s : Vs.St} {n : Int} (n1 : -1000000000000000 < n) (n2 : n < 1000000000000000) : evl s (sgx n) = (n, 0) ∧ Sy.okx (sgx n) = true ∧ Sy.dpt (sgx n) ≤ 15 := by
  by_cases h : n < 0
  · rw [show sgx n = Sy.un 2 (Sy.num (-n)) from if_pos h]
    have o := Sy.okx_num' (n := -n) (by omega) (by omega)
    refine ⟨?_, Sy.okx_un' (by decide) rfl o, by rw [Sy.dpt_un, Sy.dpt_num]; decide⟩
    rw [evl_un (by decide) rfl o (by rw [Sy.dpt_num]; decide), evl_num (by omega) (by omega), opk_one]
    show (- -n, 0) = _
    rw [Int.neg_neg]
  · rw [show sgx n = Sy.num n from if_neg h]
    exact ⟨evl_num (by omega) (by omega), Sy.okx_num' (by omega) (by omega), by rw [Sy.dpt_num]; decide⟩
end Ev
set_option maxRecDepth 100000 in
set_option maxHeartbeats 4000000 in
theorem walk_evalCircle (a0 : Int) (x0 : -9223372036854775808 ≤ a0) (y0 : a0 ≤ 9223372036854775807) (w : World) (ht : Tw w) :
    Calls Tryd.prog 8 #[.int .i64 a0] w fun e w' => e = .returned (.bool true) ∧ Qw w w' := by
  have HT := Lib.hid ht
  have QQ := Lib.hid (Qw.refl w)
  have mn := fun w => modW a0 360000000 x0 y0 (by decide) (by decide) w
  have b0 := Int.emod_nonneg a0 (show (360000000 : Int) ≠ 0 by decide)
  have b1 := Int.emod_lt_of_pos a0 (show (0 : Int) < 360000000 by decide)
  generalize a0 % 360000000 = a at *
  have MN := Lib.hid mn
  clear mn ht x0 y0
  have okn := Sy.okx_num' (n := a) (by omega) (by omega)
  obtain ⟨⟨k1, k2⟩, k3, k4⟩ := sc_intR a
  have hs : Ev.evl Vs.new (Sy.un 8 (Sy.num a)) = (Cm.mi (Cm.sc a).2, 0) := by
    rw [Ev.evl_un (by decide) rfl okn (by rw [Sy.dpt_num]; decide), Ev.evl_num (by omega) (by omega), Ev.opk_one]
    exact (quo_30 (Cm.sc a).2 k3 k4).2
  have hc : Ev.evl Vs.new (Sy.un 9 (Sy.num a)) = (Cm.mi (Cm.sc a).1, 0) := by
    rw [Ev.evl_un (by decide) rfl okn (by rw [Sy.dpt_num]; decide), Ev.evl_num (by omega) (by omega), Ev.opk_one]
    exact (quo_30 (Cm.sc a).1 k1 k2).2
  have bs : -1000001 ≤ Cm.mi (Cm.sc a).2 ∧ Cm.mi (Cm.sc a).2 ≤ 1000001 := by unfold Cm.mi; omega
  have bc : -1000001 ≤ Cm.mi (Cm.sc a).1 ∧ Cm.mi (Cm.sc a).1 ≤ 1000001 := by unfold Cm.mi; omega
  obtain ⟨l1, l2⟩ := Cm.mi_len a
  have bk := Cm.mi_back a b0 b1
  clear okn k1 k2 k3 k4
  generalize Cm.mi (Cm.sc a).2 = s at *
  generalize Cm.mi (Cm.sc a).1 = c at *
  obtain ⟨es, oks, ds⟩ := Ev.evl_sgx (s := Vs.new) (n := s) (by omega) (by omega)
  obtain ⟨ec, okc, dc⟩ := Ev.evl_sgx (s := Vs.new) (n := c) (by omega) (by omega)
  have ns : ¬ (s = 0 ∧ c = 0) := fun ⟨e1, e2⟩ => by rw [e1, e2] at l2; exact absurd l2 (by decide)
  have hd : Ev.evl Vs.new (Sy.bin 11 (sgx s) (sgx c)) = (Cm.angv c s, 0) := by
    rw [Ev.evl_bin (by decide) rfl oks okc ds dc, es, ec, Ev.opk_two]
    exact Ev.dir_small ns (by omega) (by omega) (by omega) (by omega)
  have ba := Ev.ang_bd c s
  generalize Cm.angv c s = b at *
  have GA := Lib.hid (fun w1 => evSigned s (by omega) (by omega) w1)
  have GB := Lib.hid (fun w1 => evSigned c (by omega) (by omega) w1)
  have CS := Lib.hid (fun (w1 : World) (b : Nat) (q : Qw w w1) (h : Kd w1 (some ⟨b, 0, none⟩) 1 [Sy.num a]) => show Calls Tryd.prog 18 #[.agg #[.int .i64 8, .int .i64 0, .slice (some ⟨b, 0, none⟩) 1 1]] w1 fun e w' => e = .returned (.tuple #[.int .i64 s, .int .i64 0]) ∧ Qw w1 w' by
    have := evNewOne 8 (Sy.num a) b w1 (HT.out.kept q) h
    rw [hs] at this
    exact this)
  have CC := Lib.hid (fun (w1 : World) (b : Nat) (q : Qw w w1) (h : Kd w1 (some ⟨b, 0, none⟩) 1 [Sy.num a]) => show Calls Tryd.prog 18 #[.agg #[.int .i64 9, .int .i64 0, .slice (some ⟨b, 0, none⟩) 1 1]] w1 fun e w' => e = .returned (.tuple #[.int .i64 c, .int .i64 0]) ∧ Qw w1 w' by
    have := evNewOne 9 (Sy.num a) b w1 (HT.out.kept q) h
    rw [hc] at this
    exact this)
  have CT := Lib.hid (fun (w1 : World) (tb : Nat) (q : Qw w w1) (h : Kd w1 (some ⟨tb, 0, none⟩) 2 [sgx s, sgx c]) => show Calls Tryd.prog 18 #[.agg #[.int .i64 11, .int .i64 0, .slice (some ⟨tb, 0, none⟩) 2 2]] w1 fun e w' => e = .returned (.tuple #[.int .i64 b, .int .i64 0]) ∧ Qw w1 w' by
    have := evNewTwo 11 (sgx s) (sgx c) tb w1 (HT.out.kept q) h
    rw [hd] at this
    exact this)
  clear hs hc hd es ec oks okc ds dc ns
  generalize sgx s = x at *
  generalize sgx c = y at *
  obtain ⟨p1, hp1⟩ : ∃ p, s * s = p := ⟨_, rfl⟩
  obtain ⟨p2, hp2⟩ : ∃ p, c * c = p := ⟨_, rfl⟩
  have sp : 0 ≤ p1 := by rw [← hp1]; exact Cm.sq_nonneg s
  have cp : 0 ≤ p2 := by rw [← hp2]; exact Cm.sq_nonneg c
  rw [hp1, hp2] at l1 l2
  have w1 : IntKind.i64.wrap (s * s) = p1 := (IntWalk.i64_in _ (by rw [hp1]; omega)).trans hp1
  have w2 : IntKind.i64.wrap (c * c) = p2 := (IntWalk.i64_in _ (by rw [hp2]; omega)).trans hp2
  obtain ⟨qq, hq⟩ : ∃ q, p1 + p2 = q := ⟨_, rfl⟩
  have w3 : IntKind.i64.wrap (p1 + p2) = qq := (IntWalk.i64_in _ (by omega)).trans hq
  obtain ⟨d, hdd⟩ : ∃ d, qq - 1000000000000 = d := ⟨_, rfl⟩
  have w4 : IntKind.i64.wrap (qq - 1000000000000) = d := (IntWalk.i64_in _ (by omega)).trans hdd
  have d1 : d ≤ 6000000 := by omega
  have d2 : -6000000 ≤ d := by omega
  obtain ⟨t1, ht1⟩ : ∃ t, b - a = t := ⟨_, rfl⟩
  have w5 : IntKind.i64.wrap (b - a) = t1 := (IntWalk.i64_in _ (by omega)).trans ht1
  obtain ⟨t2, ht2⟩ : ∃ t, t1 + 1000 = t := ⟨_, rfl⟩
  have w6 : IntKind.i64.wrap (t1 + 1000) = t2 := (IntWalk.i64_in _ (by omega)).trans ht2
  have mt := fun w => modW t2 360000000 (by omega) (by omega) (by decide) (by decide) w
  have bk2 : t2 % 360000000 ≤ 2000 := by rw [← ht2, ← ht1]; exact bk
  have bk3 := Int.emod_nonneg t2 (show (360000000 : Int) ≠ 0 by decide)
  generalize t2 % 360000000 = tt at *
  have MT := Lib.hid mt
  clear mt bk hp1 hp2 hq hdd ht1 ht2 l1 l2 sp cp ba
  go_enter Tryd.func8, Tryd.ntmps8
  go_wp2_with (first
    | (go_at_call 22; ((with_reducible refine (MN.out _).mono ?_); rintro e w' ⟨rfl, rfl⟩; skip))
    | (go_at_call 25; ((with_reducible refine (evNum _ _).mono ?_); rintro e w' ⟨rfl, q⟩; replace QQ := Lib.hid (Qw.trans QQ.out (Qw.trans (by repeat (first | exact Qw.refl _ | refine Qw.al ?_ _ | refine Qw.dr ?_)) q)); clear q))
    | (go_at_call 18; ((with_reducible refine (CS.out _ _ (Qw.trans QQ.out (by repeat (first | exact Qw.refl _ | refine Qw.al ?_ _ | refine Qw.dr ?_))) (kd_num _ _)).mono ?_); rintro e w' ⟨rfl, q⟩; replace QQ := Lib.hid (Qw.trans QQ.out (Qw.trans (by repeat (first | exact Qw.refl _ | refine Qw.al ?_ _ | refine Qw.dr ?_)) q)); clear q))
    | (go_at_call 18; ((with_reducible refine (CC.out _ _ (Qw.trans QQ.out (by repeat (first | exact Qw.refl _ | refine Qw.al ?_ _ | refine Qw.dr ?_))) (kd_num _ _)).mono ?_); rintro e w' ⟨rfl, q⟩; replace QQ := Lib.hid (Qw.trans QQ.out (Qw.trans (by repeat (first | exact Qw.refl _ | refine Qw.al ?_ _ | refine Qw.dr ?_)) q)); clear q))
    | (go_at_call 10; ((with_reducible refine (awake8 _ (HT.out.kept QQ.out)).mono ?_); rintro e w' ⟨rfl, q⟩; replace QQ := Lib.hid (Qw.trans QQ.out q); clear q))
    | (go_at_call 26; ((with_reducible refine (GA.out _).mono ?_); rintro e w' ⟨xa, xc, rfl, kx, q⟩; have KX := Lib.hid kx; replace QQ := Lib.hid (Qw.trans QQ.out q); clear kx q))
    | (go_at_call 26; ((with_reducible refine (GB.out _).mono ?_); rintro e w' ⟨ya, yc, rfl, ky, q⟩; have KY := Lib.hid ky; replace KX := Lib.hid (KidsB.kept KX.out q); replace QQ := Lib.hid (Qw.trans QQ.out q); clear ky q))
    | (go_at_call 19; ((with_reducible refine (evTwo 11 x y _ _ _ _ _ KX.out KY.out).mono ?_); rintro e w' ⟨tb, rfl, hk, q⟩; have K := Lib.hid hk; clear hk KX KY; replace QQ := Lib.hid (Qw.trans QQ.out q); clear q))
    | (go_at_call 18; ((with_reducible refine (CT.out _ _ QQ.out K.out).mono ?_); rintro e w' ⟨rfl, q⟩; clear K; replace QQ := Lib.hid (Qw.trans QQ.out q); clear q))
    | (go_at_call 22; ((with_reducible refine (MT.out _).mono ?_); rintro e w' ⟨rfl, rfl⟩; skip)))
  go_ret
  exact ⟨rfl, QQ.out⟩


/-! ### the row and the card -/
theorem reads_evalCircle (os : Os) {H : Type} (enc : TypeId × Value → H) : ∃ places, DataW.whole enc Tryd.prog ((laidWorldE os).forCall (fun _ _ => 0) ⟨#[], #[.int .i64 0], []⟩).memory Tryd.f8.params.toList Rows.evalCircleSpec.vars false #[(.int .i64 0 : Value)].toList 8 = some ([.lit (.int .i64 0)], [], places) :=
  ⟨[], by kernel_rfl⟩
set_option maxRecDepth 100000 in
theorem lifted_evalCircle (os : Os) (started : os.Started) (H : Type) (enc : TypeId × Value → H) (F : Stop.Interp) :
    ReturnsInHanded {} Tryd.checked os 8 .any ((OpenSpec.ofChange Rows.evalCircleSpec).preRow enc Tryd.prog Tryd.f8 Rows.evalCircleRow.domain false Rows.evalCircleRow.laid) (((OpenSpec.ofChange Rows.evalCircleSpec).at F).post enc Tryd.prog Tryd.f8 false true false false) := by
  obtain ⟨places, hx⟩ := reads_evalCircle os enc
  refine returnsInHanded_of_row (C := Tryd.checked) (s := OpenSpec.ofChange Rows.evalCircleSpec) ownE started (by kernel_rfl) Tryd.func8
    (witness_row_at (enc := enc) (C := Tryd.checked) false (laidWorldE os) #[.int .i64 0] rfl (by kernel_rfl) (by kernel_rfl) (by kernel_rfl)
      (OpenSpec.preRow_of_cond 8 hx (by kernel_rfl) (fun k hk => by cases hk) (by kernel_rfl) (laid_metE os _))) ?_
  intro W base args ds gs before hval0 hW _ _ _ hL _ _
  have ht : Tw W := tableE hL
  have hval : ∀ (j : Nat) t v, Tryd.f8.params[j]? = some t → args[j]? = some v → Value.okWide Tryd.prog W .any base t v := hval0
  have hW' := hW
  obtain ⟨p, q, hA0, hV, rfl, hfz, hnd⟩ := hW
  have hA : DataW.TrodAll enc Tryd.prog W 0 (fun _ => true) true Tryd.f8.params.toList args.toList ds p := hA0
  rw [Tryd.params8] at hA hval
  obtain ⟨v0, vs0, d0, ds0, p0, q0, hargs, rfl, rfl, h0, r0⟩ := trodAll_cons hA
  obtain ⟨rfl, rfl, rfl⟩ := trodAll_nil r0
  obtain rfl : args = #[v0] := by cases args; simp_all
  obtain ⟨rfl, rfl⟩ := trodVars_none hV
  obtain ⟨a0, rfl, rfl, rfl, w0⟩ := open_int Tryd.underlying3 (hval 0 3 v0 rfl rfl) h0
  obtain ⟨x0, y0⟩ := i64_of_wf w0
  clear hA0 hval0 hL
  simp only [List.append_nil] at hW'
  refine (walk_evalCircle a0 x0 y0 W ht).mono fun e W' ⟨he, bel⟩ => ?_
  subst he
  exact ⟨_, rfl, _, _, _, [], _, [], hW', trodAll_mk1 (shut_bool Tryd.underlying4 _), (trodAll_cons_mk (shut_int Tryd.underlying3 w0) trodAll_mk0), rfl, Below.frame bel _, fun h => by cases h⟩

theorem evalCircle_said : Rows.EvalCircleSaid :=
  OpenClaim.holds_of_cond 8 Tryd.f8 rfl rfl rfl rfl rfl rfl rfl ⟨rfl, rfl, rfl, rfl, rfl⟩ rfl rfl rfl rfl rfl (by kernel_rfl) Tryd.func8 (by kernel_rfl)
    (of_decide_eq_true (by kernel_rfl)) (by unfold Func.isWrapper; first | (rw [if_pos (by decide +kernel)]; kernel_rfl) | (rw [if_neg (by decide +kernel)]; exact ⟨rfl, rfl⟩))
    (fun os started H enc _ F => by rw [OpenClaim.pre_eq_preRow]; exact lifted_evalCircle os started H enc F)

theorem plain_evalCircle (f : FuncId) (fn : Func) (hf : Tryd.pinned.checked.prog.funcNamed "cnc/cnclaw08.EvalCircle" = some f) (hfn : Tryd.pinned.checked.prog.funcs[f]? = some fn) :
    false = Tryd.pinned.checked.prog.looks [] ∧ ∀ (j : Nat) t, fn.params[j]? = some t → Tryd.pinned.checked.prog.wantsStandIn t = false := by
  obtain rfl : f = 8 := Option.some.inj ((show Tryd.prog.funcNamed "cnc/cnclaw08.EvalCircle" = some 8 by kernel_rfl).symm.trans hf) |>.symm
  obtain rfl : fn = Tryd.f8 := (Option.some.inj (Tryd.func8.symm.trans hfn)).symm
  refine ⟨by kernel_rfl, fun j t ht => ?_⟩
  rw [Tryd.params8] at ht
  obtain rfl : t = 3 := by simpa using Array.mem_of_getElem? ht
  exact (show Tryd.prog.wantsStandIn 3 = false by kernel_rfl)

/-- The statement. -/
theorem evalCircle_card : Rows.EvalCircleCardSaid :=
  Claim7.holds_tied_plain_at .later [] _ _ _ _ evalCircle_said (fun _ h => by cases h) (by kernel_rfl) (fun _ h => by cases h) evalCircle_row_tie rfl ⟨rfl, rfl⟩ (by kernel_rfl) rfl plain_evalCircle (by kernel_rfl)

end Go.Proofs.YtkfipjlknfinpaaDoor
