
/- VarsPlays: what each call of any script returns, and which values the variables have after it.
   Conditions: the listed tables lie as the program's own text lays them (the card ties them); every input. -/
import Derived.Test.YtmfhiabajkdikaaDoorFrameA
import Derived.Test.YtmfhiabajkdikaaDoorVlF
set_option linter.unusedVariables false
set_option linter.unusedSimpArgs false
namespace Go.Proofs.YtmfhiabajkdikaaDoor
open Go.ChangeShapes Go.WideShapes Go.ChangeAt Go.RowKit

set_option maxRecDepth 100000 in
set_option maxHeartbeats 4000000 in
theorem walk_varsPlays (v : Value) (l : List Vs.A) (w : World) (hl : ActsB w.heap.size w v l) (hT : Tl w) :
    Calls Tryd.prog 3 #[v] w fun e w' => e = .returned (.bool true) ∧ Below w.heap.size w w' := by
  have HT := Lib.hid hT
  obtain ⟨a, cap, rfl, l63⟩ := acts_shape hl
  have HA := Lib.hid hl
  have FE := Lib.hid (vlFew hl)
  have AW := Lib.hid (fun w' (q : Qw w w') => awakeV w' (hT.kept q))
  clear hl hT
  cases hf : Vs.few l with
  | false =>
    rw [hf] at FE
    clear hf
    go_enter Tryd.func3, Tryd.ntmps3
    go_wp2_with (first | (go_at_call 9; ((with_reducible refine (FE.out).mono ?_); rintro e we ⟨rfl, rfl⟩)) | (go_at_call 10; ((with_reducible refine (AW.out _ (Qw.refl _)).mono ?_); rintro e w2 ⟨rfl, q⟩; have Q := Lib.hid q; clear q)))
    go_ret
    exact ⟨rfl, Q.out⟩
  | true =>
    rw [hf] at FE
    clear hf
    go_enter Tryd.func3, Tryd.ntmps3
    go_wp2_with (first
      | (go_at_call 9; ((with_reducible refine (FE.out).mono ?_); rintro e we ⟨rfl, rfl⟩))
      | (go_at_call 11; ((with_reducible refine (vaNew _).mono ?_); rintro e w1 ⟨B, L, c, rfl, p1, hB, hL, q1⟩; have NP := Lib.hid p1; have NB := Lib.hid hB; have NL := Lib.hid hL; have NQ := Lib.hid q1; clear p1 hB hL q1))
      | (go_at_call 12; ((with_reducible refine (vrNew _).mono ?_); rintro e w2 ⟨B', L', c', rfl, p2, hB', hL', q2⟩; have P := Lib.hid (Pr.start NP.out NB.out NL.out NQ.out p2 hB' hL' q2); clear p2 hB' hL' q2))
      | (go_at_call 10; ((with_reducible refine (AW.out _ P.out.q).mono ?_); rintro e w3 ⟨rfl, q⟩; have P3 := Lib.hid (P.out.kept q); clear q))
      | (go_at_call 13; ((with_reducible refine (vlSame P3.out.p P3.out.r).mono ?_); rintro e w4 ⟨rfl, q⟩; have P4 := Lib.hid (P3.out.kept q); clear q)))
    go_loopw [3, 5] (fun sv iv wr => ∃ (i B L c L' c' : Nat) (s : Vs.St), i ≤ l.length ∧ sv = .pointer (some ⟨B, 0, none⟩) ∧ iv = .int .i64 (i : Int) ∧ Hid (Pr w wr B L c B' L' c' s s)) (fun _ iv _ => l.length - (intOf iv).toNat)
    case atStart => exact ⟨0, B, L, c, L', c', Vs.new, by omega, rfl, rfl, P4⟩
    case round =>
      clear NP NB NL NQ P P3 P4 FE AW
      obtain ⟨i, B, L, c, L', c', s, hi, rfl, rfl, P⟩ := hrel
      by_cases hlt : i < l.length
      · have hlt' : (i : Int) < (l.length : Int) := by omega
        have hi63 : (i : Int) ≤ 9223372036854775806 := by omega
        obtain ⟨b, off, sv, rfl, ⟨c0, c1, c2, c3, c4⟩, hu⟩ := acts_at HA.out (Nat.le_refl _) P.out.q hlt
        have ST := Lib.hid (vlStep P.out hu (Nat.le_refl _) HT.out)
        clear hu
        generalize l[i] = ac at *
        go_wp2_with (first
          | (go_at_call 14; ((with_reducible refine (ST.out).mono ?_); rintro e w3 ⟨B1, L1, c1', L2, c2', bb, rfl, hb, hP, hn, hn2, hTf⟩; obtain rfl : bb = true := hb rfl; have P5 := Lib.hid hP; clear hP hn hn2 hTf hb))
          | (go_at_call 13; ((with_reducible refine (vlSame P5.out.p P5.out.r).mono ?_); rintro e w4 ⟨rfl, q⟩; have P6 := Lib.hid (P5.out.kept q); clear q)))
        go_roundw
        case rel => exact ⟨i + 1, B1, L1, c1', L2, c2', _, by omega, rfl, by go_num, P6⟩
        case measure => simp [intOf]; omega
      · obtain rfl : i = l.length := by omega
        go_wp2
        go_ret
        exact ⟨rfl, P.out.q⟩

/-! ### the row and the card -/
theorem reads_varsPlays (os : Os) {H : Type} (enc : TypeId × Value → H) : ∃ places, DataW.whole enc Tryd.prog ((laidWorldW os).forCall (fun _ _ => 0) ⟨#[], #[.slice none 0 0], []⟩).memory Tryd.f3.params.toList Rows.varsPlaysSpec.vars false #[(.slice none 0 0 : Value)].toList 8 = some ([.nil], [], places) :=
  ⟨[], by kernel_rfl⟩
set_option maxRecDepth 100000 in
theorem lifted_varsPlays (os : Os) (started : os.Started) (H : Type) (enc : TypeId × Value → H) (F : Stop.Interp) :
    ReturnsInHanded {} Tryd.checked os 3 .any ((OpenSpec.ofChange Rows.varsPlaysSpec).preRow enc Tryd.prog Tryd.f3 Rows.varsPlaysRow.domain false Rows.varsPlaysRow.laid) (((OpenSpec.ofChange Rows.varsPlaysSpec).at F).post enc Tryd.prog Tryd.f3 false true false false) := by
  obtain ⟨places, hx⟩ := reads_varsPlays os enc
  refine returnsInHanded_of_row (C := Tryd.checked) (s := OpenSpec.ofChange Rows.varsPlaysSpec) ownW started (by kernel_rfl) Tryd.func3
    (witness_row_at (enc := enc) (C := Tryd.checked) false (laidWorldW os) #[.slice none 0 0] rfl (by kernel_rfl) (by kernel_rfl) (by kernel_rfl)
      (OpenSpec.preRow_of_cond 8 hx (by kernel_rfl) (fun k hk => by cases hk) (by kernel_rfl) (laid_metW os _))) ?_
  intro W base args ds gs before hval0 hW _ _ _ hL _ _
  have ht : Tl W := tableW hL
  have hval : ∀ (j : Nat) t v, Tryd.f3.params[j]? = some t → args[j]? = some v → Value.okWide Tryd.prog W .any base t v := hval0
  have hW' := hW
  obtain ⟨p, q, hA0, hV, rfl, hfz, hnd⟩ := hW
  have hA : DataW.TrodAll enc Tryd.prog W 0 (fun _ => true) true Tryd.f3.params.toList args.toList ds p := hA0
  rw [Tryd.params3] at hA hval
  obtain ⟨v0, vs0, d0, ds0, p0, q0, hargs, rfl, rfl, h0, r0⟩ := trodAll_cons hA
  obtain ⟨rfl, rfl, rfl⟩ := trodAll_nil r0
  obtain rfl : args = #[v0] := by cases args; simp_all
  obtain ⟨rfl, rfl⟩ := trodVars_none hV
  obtain ⟨u0, hu0⟩ := in_acts (hval 0 22 v0 rfl rfl) h0
  clear hA0 hval0 hL
  simp only [List.append_nil] at hW'
  refine (walk_varsPlays v0 u0 W hu0 ht).mono fun e W' ⟨he, bel⟩ => ?_
  subst he
  exact ⟨_, rfl, _, _, _, [], _, [], hW', trodAll_mk1 (shut_bool Tryd.underlying4 _), (trodAll_cons_mk (out_acts h0 bel (fun x hx => hW'.lt x (by first | exact hx | simp [hx]))) trodAll_mk0), rfl, Below.frame bel _, fun h => by cases h⟩

theorem varsPlays_said : Rows.VarsPlaysSaid :=
  OpenClaim.holds_of_cond 3 Tryd.f3 rfl rfl rfl rfl rfl rfl rfl ⟨rfl, rfl, rfl, rfl, rfl⟩ rfl rfl rfl rfl rfl (by kernel_rfl) Tryd.func3 (by kernel_rfl)
    (of_decide_eq_true (by kernel_rfl)) (by unfold Func.isWrapper; first | (rw [if_pos (by decide +kernel)]; kernel_rfl) | (rw [if_neg (by decide +kernel)]; exact ⟨rfl, rfl⟩))
    (fun os started H enc _ F => by rw [OpenClaim.pre_eq_preRow]; exact lifted_varsPlays os started H enc F)

theorem plain_varsPlays (f : FuncId) (fn : Func) (hf : Tryd.pinned.checked.prog.funcNamed "cnc/cnclaw07.VarsPlays" = some f) (hfn : Tryd.pinned.checked.prog.funcs[f]? = some fn) :
    false = Tryd.pinned.checked.prog.looks [] ∧ ∀ (j : Nat) t, fn.params[j]? = some t → Tryd.pinned.checked.prog.wantsStandIn t = false := by
  obtain rfl : f = 3 := Option.some.inj ((show Tryd.prog.funcNamed "cnc/cnclaw07.VarsPlays" = some 3 by kernel_rfl).symm.trans hf) |>.symm
  obtain rfl : fn = Tryd.f3 := (Option.some.inj (Tryd.func3.symm.trans hfn)).symm
  refine ⟨by kernel_rfl, fun j t ht => ?_⟩
  rw [Tryd.params3] at ht
  obtain rfl : t = 22 := by simpa using Array.mem_of_getElem? ht
  exact (show Tryd.prog.wantsStandIn 22 = false by kernel_rfl)

/-- The statement. -/
theorem varsPlays_card : Rows.VarsPlaysCardSaid :=
  Claim7.holds_tied_plain_at .later [] _ _ _ _ varsPlays_said (fun _ h => by cases h) (by kernel_rfl) (fun _ h => by cases h) varsPlays_row_tie rfl ⟨rfl, rfl⟩ (by kernel_rfl) rfl plain_varsPlays (by kernel_rfl)

end Go.Proofs.YtmfhiabajkdikaaDoor
