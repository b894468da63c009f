
/- EvalTells of layer 8: which value or error any expression has, with any variables.
   Conditions: the listed tables lie as the program's own text lays them (the card ties them); every input. -/
import Derived.Test.YtkfipjlknfinpaaGreatDoorFrameE
import Derived.Test.YtkfipjlknfinpaaGreatDoorErV
import Derived.Test.YtkfipjlknfinpaaGreatDoorErL
import Derived.Test.YtkfipjlknfinpaaGreatDoorFrameX
import Derived.Test.YtkfipjlknfinpaaGreatDoorEvL
import Derived.Deep.Cut
set_option linter.unusedVariables false
set_option linter.unusedSimpArgs false
namespace Go.Proofs.YtkfipjlknfinpaaGreatDoor
open Go.ChangeShapes Go.WideShapes Go.ChangeAt Go.RowKit

set_option maxRecDepth 100000 in
set_option maxHeartbeats 4000000 in
theorem walk_evalTells (v0 : Value) (x : Sy.Ex) (v1 : Value) (z1 : List Int) (v2 : Value) (z2 : List Int) (w : World) (hx : ExprB w v0 x) (hv1 : IntsB w.heap.size w v1 z1) (hv2 : IntsB w.heap.size w v2 z2) (ht : Tw w) :
    Calls Tryz.prog 3 #[v0, v1, v2] w fun e w' => e = .returned (.bool true) ∧ Qw w w' := by
  obtain ⟨xa, xc, rfl, hK⟩ := hx
  have HK : Hid (Kd w xa xc x.ks) := Lib.hid (hK.mono (fun _ _ => trivial))
  obtain ⟨xl1, xl2⟩ := hK.cap
  have HV1 := Lib.hid hv1
  have HV2 := Lib.hid hv2
  have HT := Lib.hid ht
  have eX : Sy.lgt 6 (.mk x.op x.n x.ks) = Sy.lgt 6 x := by cases x; rfl
  have lx : ∀ w1, Kd w1 xa xc x.ks → Calls Tryz.prog 5 #[.agg #[.int .i64 x.op, .int .i64 x.n, .slice xa x.ks.length xc], .int .i64 6] w1 fun e w' => e = .returned (.bool (Sy.lgt 6 (.mk x.op x.n x.ks))) ∧ Qw w1 w' := fun w1 h => ex_light 6 x.op x.n x.ks xa xc _ w1 (by decide) h
  rw [eX] at lx
  clear hv1 hv2 ht hK eX
  cases hl : Sy.lgt 6 x with
  | false =>
    rw [hl] at lx
    have LX := Lib.hid lx
    clear lx hl
    go_enter Tryz.func3, Tryz.ntmps3
    go_upto_region 1 with fail
    refine code_of (fun w1 => Hid (Bx w1 w.heap.size #[.int .i64 x.op, .int .i64 x.n, .slice xa x.ks.length xc] 24) ∧ Hid (Kd w1 xa xc x.ks) ∧ Hid (Qw w w1)) ⟨Lib.hid (Bx.new w _ _), Lib.hid (KidsB.kept HK.out (Qw.al (Qw.refl w) _)), Lib.hid (Qw.al (Qw.refl w) _)⟩ ?_
    rintro w1 ⟨X, KX, QQ⟩
    generalize w.heap.size = D at X ⊢
    have c0 := X.out.cell' 0 _ rfl
    have c1 := X.out.cell' 1 _ rfl
    have c2 := X.out.cell' 2 _ rfl
    go_wp2_with (first
    | (go_at_call 5; ((with_reducible refine (LX.out _ (KidsB.kept KX.out (by repeat (first | exact Qw.refl _ | refine Qw.al ?_ _ | refine Qw.dr ?_)))).mono ?_); rintro e w' ⟨rfl, q⟩; replace X := Lib.hid (X.out.kept q); replace KX := Lib.hid (KidsB.kept KX.out q); have c0 := X.out.cell' 0 _ rfl; have c1 := X.out.cell' 1 _ rfl; have c2 := X.out.cell' 2 _ rfl; replace QQ := Lib.hid (Qw.trans QQ.out q); clear q))
    | (go_at_call 7; ((with_reducible refine (awake8 _ (HT.out.kept QQ.out)).mono ?_); rintro e w' ⟨rfl, q⟩; replace X := Lib.hid (X.out.kept q); replace KX := Lib.hid (KidsB.kept KX.out q); have c0 := X.out.cell' 0 _ rfl; have c1 := X.out.cell' 1 _ rfl; have c2 := X.out.cell' 2 _ rfl; replace QQ := Lib.hid (Qw.trans QQ.out q); clear q)))
    go_ret
    exact ⟨rfl, QQ.out⟩
  | true =>
    rw [hl] at lx
    have LX := Lib.hid lx
    clear lx hl
    by_cases l1 : z1.length ≤ 120
    · have d1 : decide (z1.length ≤ 120) = true := decide_eq_true l1
      by_cases l2 : z2.length ≤ 120
      · have d2 : decide (z2.length ≤ 120) = true := decide_eq_true l2
        go_enter Tryz.func3, Tryz.ntmps3
        go_upto_region 1 with fail
        refine code_of (fun w1 => Hid (Bx w1 w.heap.size #[.int .i64 x.op, .int .i64 x.n, .slice xa x.ks.length xc] 24) ∧ Hid (Kd w1 xa xc x.ks) ∧ Hid (Qw w w1)) ⟨Lib.hid (Bx.new w _ _), Lib.hid (KidsB.kept HK.out (Qw.al (Qw.refl w) _)), Lib.hid (Qw.al (Qw.refl w) _)⟩ ?_
        rintro w1 ⟨X, KX, QQ⟩
        generalize w.heap.size = D at X ⊢
        have c0 := X.out.cell' 0 _ rfl
        have c1 := X.out.cell' 1 _ rfl
        have c2 := X.out.cell' 2 _ rfl
        go_upto_region 7 with (first
    | (go_at_call 5; ((with_reducible refine (LX.out _ (KidsB.kept KX.out (by repeat (first | exact Qw.refl _ | refine Qw.al ?_ _ | refine Qw.dr ?_)))).mono ?_); rintro e w' ⟨rfl, q⟩; replace X := Lib.hid (X.out.kept q); replace KX := Lib.hid (KidsB.kept KX.out q); have c0 := X.out.cell' 0 _ rfl; have c1 := X.out.cell' 1 _ rfl; have c2 := X.out.cell' 2 _ rfl; replace QQ := Lib.hid (Qw.trans QQ.out q); clear q))
    | (go_at_call 6; ((with_reducible refine (lightF _ _ _ _ (HV1.out.then QQ.out)).mono ?_); rintro e w' ⟨rfl, rfl⟩; skip))
    | (go_at_call 6; ((with_reducible refine (lightF _ _ _ _ (HV2.out.then QQ.out)).mono ?_); rintro e w' ⟨rfl, rfl⟩; skip))
    | (go_at_call 8; ((with_reducible refine (evStores _ _ _ (HV2.out.then QQ.out)).mono ?_); rintro e w' ⟨s, B, L, cap, B', L', cap', rfl, hp, hr, hn, ha, q⟩; have P := Lib.hid hp; have R := Lib.hid hr; have SA := Lib.hid ha; have hsome : (some (⟨B, 0, none⟩ : Addr)) ≠ none := (by simp); clear hp hr hn ha; replace X := Lib.hid (X.out.kept q); replace KX := Lib.hid (KidsB.kept KX.out q); have c0 := X.out.cell' 0 _ rfl; have c1 := X.out.cell' 1 _ rfl; have c2 := X.out.cell' 2 _ rfl; replace QQ := Lib.hid (Qw.trans QQ.out q); clear q))
    | (go_at_call 7; ((with_reducible refine (awake8 _ (HT.out.kept QQ.out)).mono ?_); rintro e w' ⟨rfl, q⟩; replace X := Lib.hid (X.out.kept q); replace KX := Lib.hid (KidsB.kept KX.out q); have c0 := X.out.cell' 0 _ rfl; have c1 := X.out.cell' 1 _ rfl; have c2 := X.out.cell' 2 _ rfl; replace P := Lib.hid (P.out.kept q); replace R := Lib.hid (R.out.kept q); replace QQ := Lib.hid (Qw.trans QQ.out q); clear q))
    | (go_at_call 10; ((with_reducible refine (newF _ _ _ (HV1.out.then QQ.out)).mono ?_); rintro e w' ⟨rfl, tp, q⟩; have TP := Lib.hid tp; have Q2 := Lib.hid q; clear tp q))
    | (go_at_call 9; ((with_reducible refine (exprN6 _ _ _ TP.out Q2.out (Nat.le_refl _)).mono ?_); rintro e w' ⟨y, ya, yc, rfl, oky, dpy, ky, q⟩; have KY := Lib.hid ky; clear TP Q2 oky dpy ky; replace X := Lib.hid (X.out.kept q); replace KX := Lib.hid (KidsB.kept KX.out q); have c0 := X.out.cell' 0 _ rfl; have c1 := X.out.cell' 1 _ rfl; have c2 := X.out.cell' 2 _ rfl; replace P := Lib.hid (P.out.kept q); replace R := Lib.hid (R.out.kept q); replace QQ := Lib.hid (Qw.trans QQ.out q); clear q)))
        refine code_of (fun w2 => Hid (Bx w2 w'.heap.size #[.int .i64 y.op, .int .i64 y.n, .slice ya y.ks.length yc] 24) ∧ Hid (Kd w2 ya yc y.ks) ∧ Hid (Bx w2 D #[.int .i64 x.op, .int .i64 x.n, .slice xa x.ks.length xc] 24) ∧ Hid (Kd w2 xa xc x.ks) ∧ Hid (Pst w2 B L cap s) ∧ Hid (Rst w2 B' L' cap' s) ∧ Hid (Qw w w2)) ⟨Lib.hid (Bx.new w' _ _), Lib.hid (KidsB.kept KY.out (Qw.al (Qw.refl _) _)), Lib.hid (X.out.alloc _), Lib.hid (KidsB.kept KX.out (Qw.al (Qw.refl _) _)), Lib.hid (P.out.kept (Qw.al (Qw.refl _) _)), Lib.hid (R.out.kept (Qw.al (Qw.refl _) _)), Lib.hid (Qw.al QQ.out _)⟩ ?_
        have CX := Lib.hid (fun (w1 : World) (h1 : Pst w1 B L cap s) (h2 : Tw w1) (h3 : Kd w1 xa xc x.ks) => evEval SA.out.good x xa xc w1 h1 h2 h3)
        have RX := Lib.hid (fun (w1 : World) (h1 : Rst w1 B' L' cap' s) (h3 : Kd w1 xa xc x.ks) => erEval SA.out.good x xa xc w1 h1 h3)
        have CY := Lib.hid (fun (w1 : World) (h1 : Pst w1 B L cap s) (h2 : Tw w1) (h3 : Kd w1 ya yc y.ks) => evEval SA.out.good y ya yc w1 h1 h2 h3)
        have RY := Lib.hid (fun (w1 : World) (h1 : Rst w1 B' L' cap' s) (h3 : Kd w1 ya yc y.ks) => erEval SA.out.good y ya yc w1 h1 h3)
        obtain ⟨yl1, yl2⟩ := KY.out.cap
        clear QQ P R KX KY X SA c0 c1 c2
        generalize w'.heap.size = E
        generalize (Ev.evl s x).1 = u at *
        generalize (Ev.evl s x).2 = eu at *
        generalize (Ev.evl s y).1 = u2 at *
        generalize (Ev.evl s y).2 = eu2 at *
        rintro w2 ⟨Y, KY, X, KX, P, R, QQ⟩
        have c0 := X.out.cell' 0 _ rfl
        have c1 := X.out.cell' 1 _ rfl
        have c2 := X.out.cell' 2 _ rfl
        have e0 := Y.out.cell' 0 _ rfl
        have e1 := Y.out.cell' 1 _ rfl
        have e2 := Y.out.cell' 2 _ rfl
        go_wp2_with (first
    | (go_at_call 11; ((with_reducible refine (CX.out _ P.out (HT.out.kept QQ.out) KX.out).mono ?_); rintro e w' ⟨rfl, q⟩; replace X := Lib.hid (X.out.kept q); replace KX := Lib.hid (KidsB.kept KX.out q); have c0 := X.out.cell' 0 _ rfl; have c1 := X.out.cell' 1 _ rfl; have c2 := X.out.cell' 2 _ rfl; replace Y := Lib.hid (Y.out.kept q); replace KY := Lib.hid (KidsB.kept KY.out q); have e0 := Y.out.cell' 0 _ rfl; have e1 := Y.out.cell' 1 _ rfl; have e2 := Y.out.cell' 2 _ rfl; replace P := Lib.hid (P.out.kept q); replace R := Lib.hid (R.out.kept q); replace QQ := Lib.hid (Qw.trans QQ.out q); clear q))
    | (go_at_call 12; ((with_reducible refine (RX.out _ R.out KX.out).mono ?_); rintro e w' ⟨rfl, q⟩; replace X := Lib.hid (X.out.kept q); replace KX := Lib.hid (KidsB.kept KX.out q); have c0 := X.out.cell' 0 _ rfl; have c1 := X.out.cell' 1 _ rfl; have c2 := X.out.cell' 2 _ rfl; replace Y := Lib.hid (Y.out.kept q); replace KY := Lib.hid (KidsB.kept KY.out q); have e0 := Y.out.cell' 0 _ rfl; have e1 := Y.out.cell' 1 _ rfl; have e2 := Y.out.cell' 2 _ rfl; replace P := Lib.hid (P.out.kept q); replace R := Lib.hid (R.out.kept q); replace QQ := Lib.hid (Qw.trans QQ.out q); clear q))
    | (go_at_call 11; ((with_reducible refine (CY.out _ P.out (HT.out.kept QQ.out) KY.out).mono ?_); rintro e w' ⟨rfl, q⟩; replace X := Lib.hid (X.out.kept q); replace KX := Lib.hid (KidsB.kept KX.out q); have c0 := X.out.cell' 0 _ rfl; have c1 := X.out.cell' 1 _ rfl; have c2 := X.out.cell' 2 _ rfl; replace Y := Lib.hid (Y.out.kept q); replace KY := Lib.hid (KidsB.kept KY.out q); have e0 := Y.out.cell' 0 _ rfl; have e1 := Y.out.cell' 1 _ rfl; have e2 := Y.out.cell' 2 _ rfl; replace P := Lib.hid (P.out.kept q); replace R := Lib.hid (R.out.kept q); replace QQ := Lib.hid (Qw.trans QQ.out q); clear q))
    | (go_at_call 12; ((with_reducible refine (RY.out _ R.out KY.out).mono ?_); rintro e w' ⟨rfl, q⟩; replace X := Lib.hid (X.out.kept q); replace KX := Lib.hid (KidsB.kept KX.out q); have c0 := X.out.cell' 0 _ rfl; have c1 := X.out.cell' 1 _ rfl; have c2 := X.out.cell' 2 _ rfl; replace Y := Lib.hid (Y.out.kept q); replace KY := Lib.hid (KidsB.kept KY.out q); have e0 := Y.out.cell' 0 _ rfl; have e1 := Y.out.cell' 1 _ rfl; have e2 := Y.out.cell' 2 _ rfl; replace P := Lib.hid (P.out.kept q); replace R := Lib.hid (R.out.kept q); replace QQ := Lib.hid (Qw.trans QQ.out q); clear q)))
        go_ret
        exact ⟨rfl, QQ.out⟩
      · have d2 : decide (z2.length ≤ 120) = false := decide_eq_false l2
        go_enter Tryz.func3, Tryz.ntmps3
        go_upto_region 1 with fail
        refine code_of (fun w1 => Hid (Bx w1 w.heap.size #[.int .i64 x.op, .int .i64 x.n, .slice xa x.ks.length xc] 24) ∧ Hid (Kd w1 xa xc x.ks) ∧ Hid (Qw w w1)) ⟨Lib.hid (Bx.new w _ _), Lib.hid (KidsB.kept HK.out (Qw.al (Qw.refl w) _)), Lib.hid (Qw.al (Qw.refl w) _)⟩ ?_
        rintro w1 ⟨X, KX, QQ⟩
        generalize w.heap.size = D at X ⊢
        have c0 := X.out.cell' 0 _ rfl
        have c1 := X.out.cell' 1 _ rfl
        have c2 := X.out.cell' 2 _ rfl
        go_wp2_with (first
    | (go_at_call 5; ((with_reducible refine (LX.out _ (KidsB.kept KX.out (by repeat (first | exact Qw.refl _ | refine Qw.al ?_ _ | refine Qw.dr ?_)))).mono ?_); rintro e w' ⟨rfl, q⟩; replace X := Lib.hid (X.out.kept q); replace KX := Lib.hid (KidsB.kept KX.out q); have c0 := X.out.cell' 0 _ rfl; have c1 := X.out.cell' 1 _ rfl; have c2 := X.out.cell' 2 _ rfl; replace QQ := Lib.hid (Qw.trans QQ.out q); clear q))
    | (go_at_call 6; ((with_reducible refine (lightF _ _ _ _ (HV1.out.then QQ.out)).mono ?_); rintro e w' ⟨rfl, rfl⟩; skip))
    | (go_at_call 6; ((with_reducible refine (lightF _ _ _ _ (HV2.out.then QQ.out)).mono ?_); rintro e w' ⟨rfl, rfl⟩; skip))
    | (go_at_call 7; ((with_reducible refine (awake8 _ (HT.out.kept QQ.out)).mono ?_); rintro e w' ⟨rfl, q⟩; replace X := Lib.hid (X.out.kept q); replace KX := Lib.hid (KidsB.kept KX.out q); have c0 := X.out.cell' 0 _ rfl; have c1 := X.out.cell' 1 _ rfl; have c2 := X.out.cell' 2 _ rfl; replace QQ := Lib.hid (Qw.trans QQ.out q); clear q)))
        go_ret
        exact ⟨rfl, QQ.out⟩
    · have d1 : decide (z1.length ≤ 120) = false := decide_eq_false l1
      go_enter Tryz.func3, Tryz.ntmps3
      go_upto_region 1 with fail
      refine code_of (fun w1 => Hid (Bx w1 w.heap.size #[.int .i64 x.op, .int .i64 x.n, .slice xa x.ks.length xc] 24) ∧ Hid (Kd w1 xa xc x.ks) ∧ Hid (Qw w w1)) ⟨Lib.hid (Bx.new w _ _), Lib.hid (KidsB.kept HK.out (Qw.al (Qw.refl w) _)), Lib.hid (Qw.al (Qw.refl w) _)⟩ ?_
      rintro w1 ⟨X, KX, QQ⟩
      generalize w.heap.size = D at X ⊢
      have c0 := X.out.cell' 0 _ rfl
      have c1 := X.out.cell' 1 _ rfl
      have c2 := X.out.cell' 2 _ rfl
      go_wp2_with (first
    | (go_at_call 5; ((with_reducible refine (LX.out _ (KidsB.kept KX.out (by repeat (first | exact Qw.refl _ | refine Qw.al ?_ _ | refine Qw.dr ?_)))).mono ?_); rintro e w' ⟨rfl, q⟩; replace X := Lib.hid (X.out.kept q); replace KX := Lib.hid (KidsB.kept KX.out q); have c0 := X.out.cell' 0 _ rfl; have c1 := X.out.cell' 1 _ rfl; have c2 := X.out.cell' 2 _ rfl; replace QQ := Lib.hid (Qw.trans QQ.out q); clear q))
    | (go_at_call 6; ((with_reducible refine (lightF _ _ _ _ (HV1.out.then QQ.out)).mono ?_); rintro e w' ⟨rfl, rfl⟩; skip))
    | (go_at_call 7; ((with_reducible refine (awake8 _ (HT.out.kept QQ.out)).mono ?_); rintro e w' ⟨rfl, q⟩; replace X := Lib.hid (X.out.kept q); replace KX := Lib.hid (KidsB.kept KX.out q); have c0 := X.out.cell' 0 _ rfl; have c1 := X.out.cell' 1 _ rfl; have c2 := X.out.cell' 2 _ rfl; replace QQ := Lib.hid (Qw.trans QQ.out q); clear q)))
      go_ret
      exact ⟨rfl, QQ.out⟩


/-! ### the row and the card -/
theorem reads_evalTells (os : Os) {H : Type} (enc : TypeId × Value → H) : ∃ places, DataW.whole enc Tryz.prog ((laidWorldE os).forCall (fun _ _ => 0) ⟨#[], #[.agg #[.int .i64 0, .int .i64 0, .slice none 0 0], .slice none 0 0, .slice none 0 0], []⟩).memory Tryz.f3.params.toList Rows.evalTellsSpec.vars false #[(.agg #[.int .i64 0, .int .i64 0, .slice none 0 0] : Value), .slice none 0 0, .slice none 0 0].toList 8 = some ([.agg [.lit (.int .i64 0), .lit (.int .i64 0), .nil], .nil, .nil], [], places) :=
  ⟨[], by kernel_rfl⟩
set_option maxRecDepth 100000 in
theorem lifted_evalTells (os : Os) (started : os.Started) (H : Type) (enc : TypeId × Value → H) (F : Stop.Interp) :
    ReturnsInHanded {} Tryz.checked os 3 .any ((OpenSpec.ofChange Rows.evalTellsSpec).preRow enc Tryz.prog Tryz.f3 Rows.evalTellsRow.domain false Rows.evalTellsRow.laid) (((OpenSpec.ofChange Rows.evalTellsSpec).at F).post enc Tryz.prog Tryz.f3 false true false false) := by
  obtain ⟨places, hx⟩ := reads_evalTells os enc
  refine returnsInHanded_of_row (C := Tryz.checked) (s := OpenSpec.ofChange Rows.evalTellsSpec) ownE started (by kernel_rfl) Tryz.func3
    (witness_row_at (enc := enc) (C := Tryz.checked) false (laidWorldE os) #[.agg #[.int .i64 0, .int .i64 0, .slice none 0 0], .slice none 0 0, .slice none 0 0] rfl (by kernel_rfl) (by kernel_rfl) (by kernel_rfl)
      (OpenSpec.preRow_of_cond 8 hx (by kernel_rfl) (fun k hk => by cases hk) (by kernel_rfl) (laid_metE os _))) ?_
  intro W base args ds gs before hval0 hW _ _ _ hL _ _
  have ht : Tw W := tableE hL
  have hval : ∀ (j : Nat) t v, Tryz.f3.params[j]? = some t → args[j]? = some v → Value.okWide Tryz.prog W .any base t v := hval0
  have hW' := hW
  obtain ⟨p, q, hA0, hV, rfl, hfz, hnd⟩ := hW
  have hA : DataW.TrodAll enc Tryz.prog W 0 (fun _ => true) true Tryz.f3.params.toList args.toList ds p := hA0
  rw [Tryz.params3] at hA hval
  obtain ⟨v0, vs0, d0, ds0, p0, q0, hargs, rfl, rfl, h0, r0⟩ := trodAll_cons hA
  obtain ⟨v1, vs1, d1, ds1, p1, q1, rfl, rfl, rfl, h1, r1⟩ := trodAll_cons r0
  obtain ⟨v2, vs2, d2, ds2, p2, q2, rfl, rfl, rfl, h2, r2⟩ := trodAll_cons r1
  obtain ⟨rfl, rfl, rfl⟩ := trodAll_nil r2
  obtain rfl : args = #[v0, v1, v2] := by cases args; simp_all
  obtain ⟨rfl, rfl⟩ := trodVars_none hV
  obtain ⟨u0, hu0⟩ := in_expr (hval 0 24 v0 rfl rfl) h0
  obtain ⟨u1, hu1⟩ := in_ints (hval 1 25 v1 rfl rfl) h1
  obtain ⟨u2, hu2⟩ := in_ints (hval 2 25 v2 rfl rfl) h2
  clear hA0 hval0 hL
  simp only [List.append_nil] at hW'
  refine (walk_evalTells v0 u0 v1 u1 v2 u2 W hu0 hu1 hu2 ht).mono fun e W' ⟨he, bel⟩ => ?_
  subst he
  exact ⟨_, rfl, _, _, _, [], _, [], hW', trodAll_mk1 (shut_bool Tryz.underlying4 _), (trodAll_cons_mk (out_expr h0 bel (fun x hx => hW'.lt x (by first | exact hx | simp [hx]))) (trodAll_cons_mk (out_ints h1 bel (fun x hx => hW'.lt x (by first | exact hx | simp [hx]))) (trodAll_cons_mk (out_ints h2 bel (fun x hx => hW'.lt x (by first | exact hx | simp [hx]))) trodAll_mk0))), rfl, Below.frame bel _, fun h => by cases h⟩

theorem evalTells_said : Rows.EvalTellsSaid :=
  OpenClaim.holds_of_cond 3 Tryz.f3 rfl rfl rfl rfl rfl rfl rfl ⟨rfl, rfl, rfl, rfl, rfl⟩ rfl rfl rfl rfl rfl (by kernel_rfl) Tryz.func3 (by kernel_rfl)
    (of_decide_eq_true (by kernel_rfl)) (by unfold Func.isWrapper; first | (rw [if_pos (by decide +kernel)]; kernel_rfl) | (rw [if_neg (by decide +kernel)]; exact ⟨rfl, rfl⟩))
    (fun os started H enc _ F => by rw [OpenClaim.pre_eq_preRow]; exact lifted_evalTells os started H enc F)

theorem plain_evalTells (f : FuncId) (fn : Func) (hf : Tryz.pinned.checked.prog.funcNamed "cnc/cnclaw08.EvalTells" = some f) (hfn : Tryz.pinned.checked.prog.funcs[f]? = some fn) :
    false = Tryz.pinned.checked.prog.looks [] ∧ ∀ (j : Nat) t, fn.params[j]? = some t → Tryz.pinned.checked.prog.wantsStandIn t = false := by
  obtain rfl : f = 3 := Option.some.inj ((show Tryz.prog.funcNamed "cnc/cnclaw08.EvalTells" = some 3 by kernel_rfl).symm.trans hf) |>.symm
  obtain rfl : fn = Tryz.f3 := (Option.some.inj (Tryz.func3.symm.trans hfn)).symm
  refine ⟨by kernel_rfl, fun j t ht => ?_⟩
  rw [Tryz.params3] at ht
  have hm : t = 24 ∨ t = 25 := by simpa using Array.mem_of_getElem? ht
  rcases hm with rfl | rfl
  · exact (show Tryz.prog.wantsStandIn 24 = false by kernel_rfl)
  · exact (show Tryz.prog.wantsStandIn 25 = false by kernel_rfl)

/-- The statement. -/
theorem evalTells_card : Rows.EvalTellsCardSaid :=
  Claim7.holds_tied_plain_at .later [] _ _ _ _ evalTells_said (fun _ h => by cases h) (by kernel_rfl) (fun _ h => by cases h) evalTells_row_tie rfl ⟨rfl, rfl⟩ (by kernel_rfl) rfl plain_evalTells (by kernel_rfl)

end Go.Proofs.YtkfipjlknfinpaaGreatDoor
