/- EvalTexts of layer 8: an expression has the value of the expression that Line reads from its text.
   Conditions: the six listed tables lie as the program's own text lays them (the card ties them); every input. -/
import Derived.Test.YtciglhecjkeogaaGreatDoorZTX15
import Derived.Test.YtciglhecjkeogaaGreatDoorZTX28
import Derived.Test.YtciglhecjkeogaaGreatDoorZTX29
import Derived.Deep.Cut

set_option linter.unusedVariables false
set_option linter.unusedSimpArgs false
namespace Go.Proofs.YtciglhecjkeogaaGreatDoor
open Go.ChangeShapes Go.WideShapes Go.ChangeAt Go.RowKit
set_option maxRecDepth 100000 in
set_option maxHeartbeats 4000000 in
theorem walk_evalTexts (v0 : Value) (z0 : List Int) (v1 : Value) (z1 : List Int) (w : World) (hv0 : IntsB w.heap.size w v0 z0) (hv1 : IntsB w.heap.size w v1 z1) (ht : Tw w) (hb : Tb w) (hn : Tn w) :
    Calls Tryz.prog 3 #[v0, v1] w fun e w' => e = .returned (.bool true) ∧ Qw w w' := by
  have HB := Lib.hid hb
  have HN := Lib.hid hn
  clear hb hn
  have HV0 := Lib.hid hv0
  have HV1 := Lib.hid hv1
  have HT := Lib.hid ht
  have QQ := Lib.hid (Qw.refl w)
  clear hv0 hv1 ht
  by_cases l0 : z0.length ≤ 120
  · have d0 : decide (z0.length ≤ 120) = true := decide_eq_true l0
    by_cases l1 : z1.length ≤ 120
    · have d1 : decide (z1.length ≤ 120) = true := decide_eq_true l1
      go_enter Tryz.func3, Tryz.ntmps3
      go_upto_region 7 with (first
          | (go_at_call 4; ((with_reducible refine (lightF _ _ _ _ HV0.out).mono ?_); rintro e w' ⟨rfl, rfl⟩; skip))
          | (go_at_call 4; ((with_reducible refine (lightF _ _ _ _ HV1.out).mono ?_); rintro e w' ⟨rfl, rfl⟩; skip))
          | (go_at_call 6; ((with_reducible refine (evStores _ _ _ (HV1.out.then QQ.out)).mono ?_); rintro e w' ⟨s, B, L, cap, B', L', cap', rfl, hp, hr, hn, ha, q⟩; have P := Lib.hid hp; have SA := Lib.hid ha; have hsome : (some (⟨B, 0, none⟩ : Addr)) ≠ none := (by simp); replace QQ := Lib.hid (Qw.trans QQ.out q); clear hp hr hn ha q))
          | (go_at_call 5; ((with_reducible refine (awake8 _ (HT.out.kept QQ.out)).mono ?_); rintro e w' ⟨rfl, q⟩; replace P := Lib.hid (P.out.kept q); replace QQ := Lib.hid (Qw.trans QQ.out q); clear q))
          | (go_at_call 8; ((with_reducible refine (newF _ _ _ (HV0.out.then QQ.out)).mono ?_); rintro e w' ⟨rfl, tp, q⟩; have TP := Lib.hid tp; have Q2 := Lib.hid q; clear tp q))
          | (go_at_call 7; ((with_reducible refine (exprN5 _ _ _ TP.out Q2.out (Nat.le_refl _)).mono ?_); rintro e w' ⟨x, xa, xc, rfl, okx, dpx, kx, q⟩; have KX := Lib.hid kx; have OX := Lib.hid (And.intro okx dpx); replace P := Lib.hid (P.out.kept q); replace QQ := Lib.hid (Qw.trans QQ.out q); clear TP Q2 okx dpx kx q)))
      refine code_of (fun w2 => Hid (Bx w2 w'.heap.size #[.int .i64 x.op, .int .i64 x.n, .slice xa x.ks.length xc] 31) ∧ Hid (Kd w2 xa xc x.ks) ∧ Hid (Pst w2 B L cap s) ∧ Hid (Qw w w2)) ⟨Lib.hid (Bx.new w' _ _), Lib.hid (KidsB.kept KX.out (Qw.al (Qw.refl _) _)), Lib.hid (P.out.kept (Qw.al (Qw.refl _) _)), Lib.hid (Qw.al QQ.out _)⟩ ?_
      obtain ⟨okx, dpx⟩ := OX.out
      have hlen := Sy.len5 okx dpx
      have CE := Lib.hid (fun (w1 : World) (za : Option Addr) (zc : Nat) (h1 : Pst w1 B L cap s) (h2 : Tw w1) (h3 : Kd w1 za zc x.ks) => evEval SA.out.good x za zc w1 h1 h2 h3)
      have cp := fun (w1 : World) (q : Qw w w1) (h3 : Kd w1 xa xc x.ks) => sx_print x.op x.n x.ks xa xc (fun _ => True) w1 (HT.out.o.kept q) (HB.out.kept q) h3
      rw [show Sy.Ex.mk x.op x.n x.ks = x by cases x; rfl, Sy.prt_ok okx (by omega)] at cp
      have CP := Lib.hid cp
      have CL := Lib.hid (fun (w1 : World) (q : Qw w w1) => lineS okx dpx w1 (HN.out.kept q) (HT.out.o.kept q))
      obtain ⟨xl1, xl2⟩ := KX.out.cap
      have hz : (bs (Sy.bpr x)).size ≤ 700 := by rw [bs_size]; exact hlen
      clear QQ P KX SA OX okx dpx cp hlen
      generalize w'.heap.size = D
      generalize (Ev.evl s x).1 = u at *
      generalize (Ev.evl s x).2 = eu at *
      generalize bs (Sy.bpr x) = T at *
      have hz1 : ¬ 9223372036854775807 < 5 + T.size := by omega
      have hz2 : ¬ 9223372036854775807 < T.size + 5 := by omega
      rintro w2 ⟨X, KX, P, QQ⟩
      have p0 := X.out.cell' 0 _ rfl
      have p1 := X.out.cell' 1 _ rfl
      have p2 := X.out.cell' 2 _ rfl
      go_upto_region 8 with (first
          | (go_at_call 10; ((with_reducible refine (CP.out _ QQ.out KX.out).mono ?_); rintro e w' ⟨rfl, q⟩; replace KX := Lib.hid (KidsB.kept KX.out q); replace X := Lib.hid (X.out.kept q); have p0 := X.out.cell' 0 _ rfl; have p1 := X.out.cell' 1 _ rfl; have p2 := X.out.cell' 2 _ rfl; replace P := Lib.hid (P.out.kept q); replace QQ := Lib.hid (Qw.trans QQ.out q); clear q))
          | (go_at_call 9; ((with_reducible refine (CL.out _ QQ.out).mono ?_); rintro e w' ⟨wa, wc, la, lc, ya, yc, mm, rfl, ky, q⟩; have KY := Lib.hid ky; clear ky; replace KX := Lib.hid (KidsB.kept KX.out q); replace X := Lib.hid (X.out.kept q); have p0 := X.out.cell' 0 _ rfl; have p1 := X.out.cell' 1 _ rfl; have p2 := X.out.cell' 2 _ rfl; replace P := Lib.hid (P.out.kept q); replace QQ := Lib.hid (Qw.trans QQ.out q); clear q)))
      refine code_of (fun w3 => Hid (Bx w3 w'.heap.size #[.int .i64 1, .int .i64 0, .bool false, .slice wa 0 wc, .int .i64 0, .int .i64 1000000, .slice la 0 lc, .int .i64 x.op, .int .i64 x.n, .slice ya x.ks.length yc, .int .i64 0] 37) ∧ Hid (Kd w3 ya yc x.ks) ∧ Hid (Bx w3 D #[.int .i64 x.op, .int .i64 x.n, .slice xa x.ks.length xc] 31) ∧ Hid (Kd w3 xa xc x.ks) ∧ Hid (Pst w3 B L cap s) ∧ Hid (Qw w w3)) ⟨Lib.hid (Bx.new w' _ _), Lib.hid (KidsB.kept KY.out (Qw.al (Qw.refl _) _)), Lib.hid (X.out.alloc _), Lib.hid (KidsB.kept KX.out (Qw.al (Qw.refl _) _)), Lib.hid (P.out.kept (Qw.al (Qw.refl _) _)), Lib.hid (Qw.al QQ.out _)⟩ ?_
      obtain ⟨yl1, yl2⟩ := KY.out.cap
      clear QQ P KX KY X p0 p1 p2 CP CL
      generalize w'.heap.size = E
      rintro w3 ⟨Y, KY, X, KX, P, QQ⟩
      have p0 := X.out.cell' 0 _ rfl
      have p1 := X.out.cell' 1 _ rfl
      have p2 := X.out.cell' 2 _ rfl
      have e0 := Y.out.cell' 7 _ rfl
      have e1 := Y.out.cell' 8 _ rfl
      have e2 := Y.out.cell' 9 _ rfl
      go_upto_region 11 with ((go_at_call 11; ((with_reducible refine (CE.out _ _ _ P.out (HT.out.kept QQ.out) KX.out).mono ?_); rintro e w' ⟨rfl, q⟩; replace KX := Lib.hid (KidsB.kept KX.out q); replace X := Lib.hid (X.out.kept q); have p0 := X.out.cell' 0 _ rfl; have p1 := X.out.cell' 1 _ rfl; have p2 := X.out.cell' 2 _ rfl; replace Y := Lib.hid (Y.out.kept q); replace KY := Lib.hid (KidsB.kept KY.out q); have e0 := Y.out.cell' 7 _ rfl; have e1 := Y.out.cell' 8 _ rfl; have e2 := Y.out.cell' 9 _ rfl; replace P := Lib.hid (P.out.kept q); replace QQ := Lib.hid (Qw.trans QQ.out q); clear q)))
      go_wp2_with ((go_at_call 11; ((with_reducible refine (CE.out _ _ _ P.out (HT.out.kept QQ.out) KY.out).mono ?_); rintro e w' ⟨rfl, q⟩; replace P := Lib.hid (P.out.kept q); replace QQ := Lib.hid (Qw.trans QQ.out q); clear q)))
      go_ret
      exact ⟨rfl, QQ.out⟩
    · have d1 : decide (z1.length ≤ 120) = false := decide_eq_false l1
      go_enter Tryz.func3, Tryz.ntmps3
      go_wp2_with (first
      | (go_at_call 4; ((with_reducible refine (lightF _ _ _ _ HV0.out).mono ?_); rintro e w' ⟨rfl, rfl⟩; skip))
      | (go_at_call 4; ((with_reducible refine (lightF _ _ _ _ HV1.out).mono ?_); rintro e w' ⟨rfl, rfl⟩; skip))
      | (go_at_call 5; ((with_reducible refine (awake8 _ (HT.out.kept QQ.out)).mono ?_); rintro e w' ⟨rfl, q⟩; replace QQ := Lib.hid (Qw.trans QQ.out q); clear q)))
      go_ret
      exact ⟨rfl, QQ.out⟩
  · have d0 : decide (z0.length ≤ 120) = false := decide_eq_false l0
    go_enter Tryz.func3, Tryz.ntmps3
    go_wp2_with (first
      | (go_at_call 4; ((with_reducible refine (lightF _ _ _ _ HV0.out).mono ?_); rintro e w' ⟨rfl, rfl⟩; skip))
      | (go_at_call 5; ((with_reducible refine (awake8 _ (HT.out.kept QQ.out)).mono ?_); rintro e w' ⟨rfl, q⟩; replace QQ := Lib.hid (Qw.trans QQ.out q); clear q)))
    go_ret
    exact ⟨rfl, QQ.out⟩
/-! ### the row and the card -/
theorem reads_evalTexts (os : Os) {H : Type} (enc : TypeId × Value → H) : ∃ places, DataW.whole enc Tryz.prog ((laidWorldT os).forCall (fun _ _ => 0) ⟨#[], #[.slice none 0 0, .slice none 0 0], []⟩).memory Tryz.f3.params.toList Rows.evalTextsSpec.vars false #[(.slice none 0 0 : Value), .slice none 0 0].toList 8 = some ([.nil, .nil], [], places) :=
  ⟨[], by kernel_rfl⟩
set_option maxRecDepth 100000 in
theorem lifted_evalTexts (os : Os) (started : os.Started) (H : Type) (enc : TypeId × Value → H) (F : Stop.Interp) :
    ReturnsInHanded {} Tryz.checked os 3 .any ((OpenSpec.ofChange Rows.evalTextsSpec).preRow enc Tryz.prog Tryz.f3 Rows.evalTextsRow.domain false Rows.evalTextsRow.laid) (((OpenSpec.ofChange Rows.evalTextsSpec).at F).post enc Tryz.prog Tryz.f3 false true false false) := by
  obtain ⟨places, hx⟩ := reads_evalTexts os enc
  refine returnsInHanded_of_row (C := Tryz.checked) (s := OpenSpec.ofChange Rows.evalTextsSpec) ownS started (by kernel_rfl) Tryz.func3
    (witness_row_at (enc := enc) (C := Tryz.checked) false (laidWorldT os) #[.slice none 0 0, .slice none 0 0] rfl (by kernel_rfl) (by kernel_rfl) (by kernel_rfl)
      (OpenSpec.preRow_of_cond 8 hx (by kernel_rfl) (fun k hk => by cases hk) (by kernel_rfl) (laid_metT os _))) ?_
  intro W base args ds gs before hval0 hW _ _ _ hL _ _
  obtain ⟨ht, hb, hn⟩ := tableT hL
  have hval : ∀ (j : Nat) t v, Tryz.f3.params[j]? = some t → args[j]? = some v → Value.okWide Tryz.prog W .any base t v := hval0
  have hW' := hW
  obtain ⟨p, q, hA0, hV, rfl, hfz, hnd⟩ := hW
  have hA : DataW.TrodAll enc Tryz.prog W 0 (fun _ => true) true Tryz.f3.params.toList args.toList ds p := hA0
  rw [Tryz.params3] at hA hval
  obtain ⟨v0, vs0, d0, ds0, p0, q0, hargs, rfl, rfl, h0, r0⟩ := trodAll_cons hA
  obtain ⟨v1, vs1, d1, ds1, p1, q1, rfl, rfl, rfl, h1, r1⟩ := trodAll_cons r0
  obtain ⟨rfl, rfl, rfl⟩ := trodAll_nil r1
  obtain rfl : args = #[v0, v1] := by cases args; simp_all
  obtain ⟨rfl, rfl⟩ := trodVars_none hV
  obtain ⟨u0, hu0⟩ := in_ints (hval 0 22 v0 rfl rfl) h0
  obtain ⟨u1, hu1⟩ := in_ints (hval 1 22 v1 rfl rfl) h1
  clear hA0 hval0 hL
  simp only [List.append_nil] at hW'
  refine (walk_evalTexts v0 u0 v1 u1 W hu0 hu1 ht hb hn).mono fun e W' ⟨he, bel⟩ => ?_
  subst he
  exact ⟨_, rfl, _, _, _, [], _, [], hW', trodAll_mk1 (shut_bool Tryz.underlying4 _), (trodAll_cons_mk (out_ints h0 bel (fun x hx => hW'.lt x (by first | exact hx | simp [hx]))) (trodAll_cons_mk (out_ints h1 bel (fun x hx => hW'.lt x (by first | exact hx | simp [hx]))) trodAll_mk0)), rfl, Below.frame bel _, fun h => by cases h⟩
theorem evalTexts_said : Rows.EvalTextsSaid :=
  OpenClaim.holds_of_cond 3 Tryz.f3 rfl rfl rfl rfl rfl rfl rfl ⟨rfl, rfl, rfl, rfl, rfl⟩ rfl rfl rfl rfl rfl (by kernel_rfl) Tryz.func3 (by kernel_rfl)
    (of_decide_eq_true (by kernel_rfl)) (by unfold Func.isWrapper; first | (rw [if_pos (by decide +kernel)]; kernel_rfl) | (rw [if_neg (by decide +kernel)]; exact ⟨rfl, rfl⟩))
    (fun os started H enc _ F => by rw [OpenClaim.pre_eq_preRow]; exact lifted_evalTexts os started H enc F)
theorem plain_evalTexts (f : FuncId) (fn : Func) (hf : Tryz.pinned.checked.prog.funcNamed "cnc/cnclaw08.EvalTexts" = some f) (hfn : Tryz.pinned.checked.prog.funcs[f]? = some fn) :
    true = Tryz.pinned.checked.prog.looks [] ∧ ∀ (j : Nat) t, fn.params[j]? = some t → Tryz.pinned.checked.prog.wantsStandIn t = false := by
  obtain rfl : f = 3 := Option.some.inj ((show Tryz.prog.funcNamed "cnc/cnclaw08.EvalTexts" = some 3 by kernel_rfl).symm.trans hf) |>.symm
  obtain rfl : fn = Tryz.f3 := (Option.some.inj (Tryz.func3.symm.trans hfn)).symm
  refine ⟨by kernel_rfl, fun j t ht => ?_⟩
  rw [Tryz.params3] at ht
  obtain rfl : t = 22 := by simpa using Array.mem_of_getElem? ht
  exact (show Tryz.prog.wantsStandIn 22 = false by kernel_rfl)
/-- The statement. -/
theorem evalTexts_card : Rows.EvalTextsCardSaid :=
  Claim7.holds_tied_plain_at .later [] _ _ _ _ evalTexts_said (fun _ h => by cases h) (by kernel_rfl) (fun _ h => by cases h) evalTexts_row_tie rfl ⟨rfl, rfl⟩ (by kernel_rfl) rfl plain_evalTexts (by kernel_rfl)
end Go.Proofs.YtciglhecjkeogaaGreatDoor

