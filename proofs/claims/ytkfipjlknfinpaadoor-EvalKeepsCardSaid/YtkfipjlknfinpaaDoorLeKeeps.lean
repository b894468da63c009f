
/- EvalKeeps of layer 8: Eval does not change the variables, and gives the same result again.
   Conditions: the listed tables lie as the program's own text lays them (the card ties them); every input. -/
import Derived.Test.YtkfipjlknfinpaaDoorFrameE
import Derived.Test.YtkfipjlknfinpaaDoorEvL
import Derived.Deep.Cut
set_option linter.unusedVariables false
set_option linter.unusedSimpArgs false
namespace Go.Proofs.YtkfipjlknfinpaaDoor
open Go.ChangeShapes Go.WideShapes Go.ChangeAt Go.RowKit

set_option maxRecDepth 100000 in
set_option maxHeartbeats 4000000 in
theorem walk_evalKeeps (v0 : Value) (z0 : List Int) (v1 : Value) (z1 : List Int) (w : World) (hv0 : IntsB w.heap.size w v0 z0) (hv1 : IntsB w.heap.size w v1 z1) (ht : Tw w) :
    Calls Tryd.prog 3 #[v0, v1] w fun e w' => e = .returned (.bool true) ∧ Qw w w' := by
  have HV0 := Lib.hid hv0
  have HV1 := Lib.hid hv1
  have HT := Lib.hid ht
  have QQ := Lib.hid (Qw.refl w)
  clear hv0 hv1 ht
  by_cases l0 : z0.length ≤ 120
  · have d0 : decide (z0.length ≤ 120) = true := decide_eq_true l0
    by_cases l1 : z1.length ≤ 120
    · have d1 : decide (z1.length ≤ 120) = true := decide_eq_true l1
      go_enter Tryd.func3, Tryd.ntmps3
      go_upto_region 7 with (first
          | (go_at_call 9; ((with_reducible refine (lightF _ _ _ _ HV0.out).mono ?_); rintro e w' ⟨rfl, rfl⟩; skip))
          | (go_at_call 9; ((with_reducible refine (lightF _ _ _ _ HV1.out).mono ?_); rintro e w' ⟨rfl, rfl⟩; skip))
          | (go_at_call 11; ((with_reducible refine (evStores _ _ _ (HV1.out.then QQ.out)).mono ?_); rintro e w' ⟨s, B, L, cap, B', L', cap', rfl, hp, hr, hn, ha, q⟩; have P := Lib.hid hp; have R := Lib.hid hr; have SN := Lib.hid hn; have SA := Lib.hid ha; have hB := hp.ltB; have hsome : (some (⟨B, 0, none⟩ : Addr)) ≠ none := (by simp); replace QQ := Lib.hid (Qw.trans QQ.out q); clear hp hr hn ha q hB))
          | (go_at_call 10; ((with_reducible refine (awake8 _ (HT.out.kept QQ.out)).mono ?_); rintro e w' ⟨rfl, q⟩; replace P := Lib.hid (P.out.kept q); replace R := Lib.hid (R.out.kept q); replace QQ := Lib.hid (Qw.trans QQ.out q); clear q))
          | (go_at_call 13; ((with_reducible refine (newF _ _ _ (HV0.out.then QQ.out)).mono ?_); rintro e w' ⟨rfl, tp, q⟩; have TP := Lib.hid tp; have Q2 := Lib.hid q; clear tp q))
          | (go_at_call 12; ((with_reducible refine (exprN5 _ _ _ TP.out Q2.out (Nat.le_refl _)).mono ?_); rintro e w' ⟨x, xa, xc, rfl, okx, dpx, kx, q⟩; have KX := Lib.hid kx; replace P := Lib.hid (P.out.kept q); replace R := Lib.hid (R.out.kept q); replace QQ := Lib.hid (Qw.trans QQ.out q); clear TP Q2 okx dpx kx q)))
      refine code_of (fun w2 => Hid (Bx w2 w'.heap.size #[.int .i64 x.op, .int .i64 x.n, .slice xa x.ks.length xc] 31) ∧ Hid (Kd w2 xa xc x.ks) ∧ Hid (Pst w2 B L cap s) ∧ Hid (Rst w2 B' L' cap' s) ∧ Hid (Qw w w2)) ⟨Lib.hid (Bx.new w' _ _), Lib.hid (KidsB.kept KX.out (Qw.al (Qw.refl _) _)), Lib.hid (P.out.kept (Qw.al (Qw.refl _) _)), Lib.hid (R.out.kept (Qw.al (Qw.refl _) _)), Lib.hid (Qw.al QQ.out _)⟩ ?_
      have CE := Lib.hid (fun (w1 : World) (h1 : Pst w1 B L cap s) (h2 : Tw w1) (h3 : Kd w1 xa xc x.ks) => evEval SA.out.good x xa xc w1 h1 h2 h3)
      have CL := Lib.hid (fun (w1 : World) (h1 : Pst w1 B L cap s) => show Calls Tryd.prog 17 #[.pointer (some ⟨B, 0, none⟩)] w1 fun e w' => e = .returned (.int .i64 0) ∧ w1 = w' by
        have := vaLevel h1
        rw [SN.out] at this
        exact this)
      obtain ⟨xl1, xl2⟩ := KX.out.cap
      clear QQ P R KX SA SN
      generalize w'.heap.size = D
      generalize (Ev.evl s x).1 = u at *
      generalize (Ev.evl s x).2 = eu at *
      rintro w2 ⟨X, KX, P, R, QQ⟩
      have p0 := X.out.cell' 0 _ rfl
      have p1 := X.out.cell' 1 _ rfl
      have p2 := X.out.cell' 2 _ rfl
      go_upto_region 9 with ((go_at_call 14; ((with_reducible refine (CE.out _ P.out (HT.out.kept QQ.out) KX.out).mono ?_); rintro e w' ⟨rfl, q⟩; replace P := Lib.hid (P.out.kept q); replace R := Lib.hid (R.out.kept q); replace KX := Lib.hid (KidsB.kept KX.out q); replace X := Lib.hid (X.out.kept q); have p0 := X.out.cell' 0 _ rfl; have p1 := X.out.cell' 1 _ rfl; have p2 := X.out.cell' 2 _ rfl; replace QQ := Lib.hid (Qw.trans QQ.out q); clear q)))
      clear p0 p1 p2 X KX
      go_wp2_with fail
      go_loopg [12] 110 (fun g iv wr => ∃ n : Nat, n ≤ 110 ∧ g = 110 - n ∧ iv = .int .i64 ((n : Int) + 1) ∧ Hid (Pst wr B L cap s) ∧ Hid (Rst wr B' L' cap' s) ∧ Hid (Qw w wr))
      case atStart => exact ⟨0, by decide, rfl, rfl, P, R, QQ⟩
      case round =>
        clear P R QQ
        obtain ⟨n, hn, hg, rfl, P, R, QQ⟩ := hrel
        by_cases hlt : n < 110
        · have hi : (n : Int) + 1 ≤ 110 := by omega
          have hi0 : (0 : Int) ≤ n := by omega
          go_wp2_with (first
          | (go_at_call 15; ((with_reducible refine (vaGet P.out _).mono ?_); rintro e w' ⟨rfl, q⟩; replace P := Lib.hid (P.out.kept q); replace R := Lib.hid (R.out.kept q); replace QQ := Lib.hid (Qw.trans QQ.out q); clear q))
          | (go_at_call 16; ((with_reducible refine (vrGet R.out _).mono ?_); rintro e w' ⟨rfl, q⟩; replace P := Lib.hid (P.out.kept q); replace R := Lib.hid (R.out.kept q); replace QQ := Lib.hid (Qw.trans QQ.out q); clear q)))
          go_roundg (110 - (n + 1))
          case measure => omega
          case rel => exact ⟨n + 1, by omega, rfl, by go_num, P, R, QQ⟩
        · obtain rfl : n = 110 := by omega
          go_wp2_with ((go_at_call 17; ((with_reducible refine (CL.out _ P.out).mono ?_); rintro e w' ⟨rfl, rfl⟩; skip)))
          go_ret
          exact ⟨rfl, QQ.out⟩
    · have d1 : decide (z1.length ≤ 120) = false := decide_eq_false l1
      go_enter Tryd.func3, Tryd.ntmps3
      go_wp2_with (first
      | (go_at_call 9; ((with_reducible refine (lightF _ _ _ _ HV0.out).mono ?_); rintro e w' ⟨rfl, rfl⟩; skip))
      | (go_at_call 9; ((with_reducible refine (lightF _ _ _ _ HV1.out).mono ?_); rintro e w' ⟨rfl, rfl⟩; skip))
      | (go_at_call 10; ((with_reducible refine (awake8 _ (HT.out.kept QQ.out)).mono ?_); rintro e w' ⟨rfl, q⟩; replace QQ := Lib.hid (Qw.trans QQ.out q); clear q)))
      go_ret
      exact ⟨rfl, QQ.out⟩
  · have d0 : decide (z0.length ≤ 120) = false := decide_eq_false l0
    go_enter Tryd.func3, Tryd.ntmps3
    go_wp2_with (first
      | (go_at_call 9; ((with_reducible refine (lightF _ _ _ _ HV0.out).mono ?_); rintro e w' ⟨rfl, rfl⟩; skip))
      | (go_at_call 10; ((with_reducible refine (awake8 _ (HT.out.kept QQ.out)).mono ?_); rintro e w' ⟨rfl, q⟩; replace QQ := Lib.hid (Qw.trans QQ.out q); clear q)))
    go_ret
    exact ⟨rfl, QQ.out⟩

/-! ### the row and the card -/
theorem reads_evalKeeps (os : Os) {H : Type} (enc : TypeId × Value → H) : ∃ places, DataW.whole enc Tryd.prog ((laidWorldE os).forCall (fun _ _ => 0) ⟨#[], #[.slice none 0 0, .slice none 0 0], []⟩).memory Tryd.f3.params.toList Rows.evalKeepsSpec.vars false #[(.slice none 0 0 : Value), .slice none 0 0].toList 8 = some ([.nil, .nil], [], places) :=
  ⟨[], by kernel_rfl⟩
set_option maxRecDepth 100000 in
theorem lifted_evalKeeps (os : Os) (started : os.Started) (H : Type) (enc : TypeId × Value → H) (F : Stop.Interp) :
    ReturnsInHanded {} Tryd.checked os 3 .any ((OpenSpec.ofChange Rows.evalKeepsSpec).preRow enc Tryd.prog Tryd.f3 Rows.evalKeepsRow.domain false Rows.evalKeepsRow.laid) (((OpenSpec.ofChange Rows.evalKeepsSpec).at F).post enc Tryd.prog Tryd.f3 false true false false) := by
  obtain ⟨places, hx⟩ := reads_evalKeeps os enc
  refine returnsInHanded_of_row (C := Tryd.checked) (s := OpenSpec.ofChange Rows.evalKeepsSpec) ownE started (by kernel_rfl) Tryd.func3
    (witness_row_at (enc := enc) (C := Tryd.checked) false (laidWorldE os) #[.slice none 0 0, .slice none 0 0] rfl (by kernel_rfl) (by kernel_rfl) (by kernel_rfl)
      (OpenSpec.preRow_of_cond 8 hx (by kernel_rfl) (fun k hk => by cases hk) (by kernel_rfl) (laid_metE os _))) ?_
  intro W base args ds gs before hval0 hW _ _ _ hL _ _
  have ht : Tw W := tableE hL
  have hval : ∀ (j : Nat) t v, Tryd.f3.params[j]? = some t → args[j]? = some v → Value.okWide Tryd.prog W .any base t v := hval0
  have hW' := hW
  obtain ⟨p, q, hA0, hV, rfl, hfz, hnd⟩ := hW
  have hA : DataW.TrodAll enc Tryd.prog W 0 (fun _ => true) true Tryd.f3.params.toList args.toList ds p := hA0
  rw [Tryd.params3] at hA hval
  obtain ⟨v0, vs0, d0, ds0, p0, q0, hargs, rfl, rfl, h0, r0⟩ := trodAll_cons hA
  obtain ⟨v1, vs1, d1, ds1, p1, q1, rfl, rfl, rfl, h1, r1⟩ := trodAll_cons r0
  obtain ⟨rfl, rfl, rfl⟩ := trodAll_nil r1
  obtain rfl : args = #[v0, v1] := by cases args; simp_all
  obtain ⟨rfl, rfl⟩ := trodVars_none hV
  obtain ⟨u0, hu0⟩ := in_ints (hval 0 22 v0 rfl rfl) h0
  obtain ⟨u1, hu1⟩ := in_ints (hval 1 22 v1 rfl rfl) h1
  clear hA0 hval0 hL
  simp only [List.append_nil] at hW'
  refine (walk_evalKeeps v0 u0 v1 u1 W hu0 hu1 ht).mono fun e W' ⟨he, bel⟩ => ?_
  subst he
  exact ⟨_, rfl, _, _, _, [], _, [], hW', trodAll_mk1 (shut_bool Tryd.underlying4 _), (trodAll_cons_mk (out_ints h0 bel (fun x hx => hW'.lt x (by first | exact hx | simp [hx]))) (trodAll_cons_mk (out_ints h1 bel (fun x hx => hW'.lt x (by first | exact hx | simp [hx]))) trodAll_mk0)), rfl, Below.frame bel _, fun h => by cases h⟩

theorem evalKeeps_said : Rows.EvalKeepsSaid :=
  OpenClaim.holds_of_cond 3 Tryd.f3 rfl rfl rfl rfl rfl rfl rfl ⟨rfl, rfl, rfl, rfl, rfl⟩ rfl rfl rfl rfl rfl (by kernel_rfl) Tryd.func3 (by kernel_rfl)
    (of_decide_eq_true (by kernel_rfl)) (by unfold Func.isWrapper; first | (rw [if_pos (by decide +kernel)]; kernel_rfl) | (rw [if_neg (by decide +kernel)]; exact ⟨rfl, rfl⟩))
    (fun os started H enc _ F => by rw [OpenClaim.pre_eq_preRow]; exact lifted_evalKeeps os started H enc F)

theorem plain_evalKeeps (f : FuncId) (fn : Func) (hf : Tryd.pinned.checked.prog.funcNamed "cnc/cnclaw08.EvalKeeps" = some f) (hfn : Tryd.pinned.checked.prog.funcs[f]? = some fn) :
    false = Tryd.pinned.checked.prog.looks [] ∧ ∀ (j : Nat) t, fn.params[j]? = some t → Tryd.pinned.checked.prog.wantsStandIn t = false := by
  obtain rfl : f = 3 := Option.some.inj ((show Tryd.prog.funcNamed "cnc/cnclaw08.EvalKeeps" = some 3 by kernel_rfl).symm.trans hf) |>.symm
  obtain rfl : fn = Tryd.f3 := (Option.some.inj (Tryd.func3.symm.trans hfn)).symm
  refine ⟨by kernel_rfl, fun j t ht => ?_⟩
  rw [Tryd.params3] at ht
  obtain rfl : t = 22 := by simpa using Array.mem_of_getElem? ht
  exact (show Tryd.prog.wantsStandIn 22 = false by kernel_rfl)

/-- The statement. -/
theorem evalKeeps_card : Rows.EvalKeepsCardSaid :=
  Claim7.holds_tied_plain_at .later [] _ _ _ _ evalKeeps_said (fun _ h => by cases h) (by kernel_rfl) (fun _ h => by cases h) evalKeeps_row_tie rfl ⟨rfl, rfl⟩ (by kernel_rfl) rfl plain_evalKeeps (by kernel_rfl)

end Go.Proofs.YtkfipjlknfinpaaDoor
