
/- VarsDepth: there are api.MaxCalls levels and no more; each of them begins with zeros.
   Conditions: the listed tables lie as the program's own text lays them (the card ties them); every input. -/
import Derived.Test.YtmfhiabajkdikaaDoorFrameW
set_option linter.unusedVariables false
set_option linter.unusedSimpArgs false
namespace Go.Proofs.YtmfhiabajkdikaaDoor
open Go.ChangeShapes Go.WideShapes Go.ChangeAt Go.RowKit


namespace Vs
theorem zer_at (i : Nat) (n : Nat) : (zer n).getD i 0 = 0 := by
  unfold zer
  rw [List.getD_eq_getElem?_getD, List.getElem?_replicate]
  split <;> rfl
theorem get_new {k : Int} (h : isL k) : new.get k = 0 := by
  unfold St.get
  rw [if_pos h]
  exact zer_at _ 33
theorem push_nil {s : St} (ok : s.ok) (h : s.n ≠ 9) : perr s [] = 0 ∧ (s.push []).n = s.n + 1 ∧ ∀ k, isL k → (s.push []).get k = 0 := by
  have e : perr s [] = 0 := by unfold perr; rw [if_neg h]; rfl
  have e2 : s.push [] = { s with n := s.n + 1, ls := s.ls ++ zer 33 } := by unfold St.push; rw [if_pos e]; rfl
  refine ⟨e, by rw [e2], fun k hk => ?_⟩
  rw [e2]
  unfold St.get
  rw [if_pos hk]
  have hl := ok.hl
  have n1 := ok.n1
  unfold isL at hk
  show (s.ls ++ zer 33).getD ((s.n + 1 - 1) * 33 + (k - 1).toNat) 0 = 0
  rw [List.getD_eq_getElem?_getD, List.getElem?_append_right (by omega), ← List.getD_eq_getElem?_getD]
  exact zer_at _ _
theorem push_full {s : St} (h : s.n = 9) (l : Ar) : perr s l = 10 ∧ s.push l = s := by
  have e : perr s l = 10 := by unfold perr; rw [if_pos h]
  exact ⟨e, by unfold St.push; rw [if_neg (by rw [e]; decide)]⟩
theorem set_n (s : St) (k v : Int) : (s.set k v).n = s.n := by
  unfold St.set
  split
  · rfl
  · split <;> rfl
theorem serr_l {k v : Int} (h : isL k) (hv : vld v) : serr k v = 0 := by
  have d : ¬ isS k := by unfold isL isS at *; omega
  unfold serr
  rw [if_neg d, if_neg (fun x => x.1 h), if_pos hv]
end Vs

set_option maxRecDepth 100000 in
set_option maxHeartbeats 4000000 in
theorem walk_varsDepth (c : Int) (c1 : -9223372036854775808 ≤ c) (c2 : c ≤ 9223372036854775807) (v : Int) (v1 : -9223372036854775808 ≤ v) (v2 : v ≤ 9223372036854775807) (w : World) (hT : Tl w) :
    Calls Tryd.prog 8 #[.int .i64 c, .int .i64 v] w fun e w' => e = .returned (.bool true) ∧ Below w.heap.size w w' := by
  have HT := Lib.hid hT
  have hm := Int.emod_nonneg c (show (33 : Int) ≠ 0 by decide)
  have hm2 := Int.emod_lt_of_pos c (show (0 : Int) < 33 by decide)
  have MD := Lib.hid (fun w => modW c 33 c1 c2 (by decide) (by decide) w)
  have hb := Int.emod_nonneg v (show (1000 - 1 + 1 : Int) ≠ 0 by decide)
  have hb2 := Int.emod_lt_of_pos v (show (0 : Int) < 1000 - 1 + 1 by decide)
  have BT := Lib.hid (fun w => betweenW v 1 1000 v1 v2 (by decide) (by decide) (by decide) (by decide) w)
  generalize c % 33 = m at *
  generalize v % (1000 - 1 + 1) = b at *
  obtain ⟨u, hu⟩ : ∃ u, u = 1 + b := ⟨_, rfl⟩
  rw [← hu] at BT
  have kL : Vs.isL (1 + m) := ⟨by omega, by omega⟩
  have kV : Vs.vld u := ⟨by omega, by omega⟩
  have SE := Lib.hid (Vs.serr_l kL kV)
  have GE : Hid (Vs.gerr (1 + m) = 0) := Lib.hid (by unfold Vs.gerr; rw [if_pos (.inl kL)])
  have GN := Lib.hid (Vs.get_new kL)
  have PN := Lib.hid (fun (s : Vs.St) (ok : s.ok) (h : s.n ≠ 9) => (Vs.push_nil ok h).2.2 (1 + m) kL)
  obtain ⟨K, hK⟩ : ∃ K, K = 1 + m := ⟨_, rfl⟩
  have e1 : IntKind.i64.wrap (1 + m) = K := by rw [hK]; exact IntWalk.i64_in _ (by omega)
  rw [← hK] at SE GE GN PN
  have k1 : 1 ≤ K := by omega
  have k2 : K ≤ 33 := by omega
  replace hK := Lib.hid hK
  clear hT c1 c2 v1 v2 hu kL kV
  go_enter Tryd.func8, Tryd.ntmps8
  go_wp2_with (first
    | (go_at_call 15; ((with_reducible refine (MD.out _).mono ?_); rintro e w' ⟨rfl, rfl⟩))
    | (go_at_call 10; ((with_reducible refine (awakeV _ (HT.out.kept P1.out.q)).mono ?_); rintro e w2 ⟨rfl, q⟩; have P2 := Lib.hid (P1.out.kept q); clear q))
    | (go_at_call 11; ((with_reducible refine (psNew (Qw.refl w)).mono ?_); rintro e w1 ⟨B, L, cap, rfl, hP⟩; have P1 := Lib.hid hP; clear hP)))
  go_loopw [7] (fun iv wr => ∃ (i : Nat) (s : Vs.St) (L' cap' : Nat), i ≤ 9 ∧ iv = .int .i64 (i : Int) ∧ Hid (i ≤ 8 ∧ s.n = i + 1 ∨ i = 9 ∧ s.n = 9) ∧ Hid (i ≤ 8 → s.get K = 0) ∧ Hid (Ps w wr B L' cap' s)) (fun iv _ => 9 - (intOf iv).toNat)
  case atStart => exact ⟨0, Vs.new, L, cap, by omega, rfl, Lib.hid (.inl ⟨by decide, rfl⟩), Lib.hid (fun _ => GN.out), P2⟩
  case round =>
    clear P1 P2
    obtain ⟨i, s, L1, cap1, hi, rfl, HN, HG, P⟩ := hrel
    by_cases h8 : i ≤ 8
    · have h8' : (i : Int) ≤ 8 := by omega
      have hn : s.n = i + 1 := by have := HN.out; omega
      have hg := HG.out h8
      replace HG := hg
      have HN : Hid ((s.n : Int) - 1 = i) := Lib.hid (by omega)
      have ok := P.out.p.ok
      have oks := Vs.set_ok ok K u
      have sn := Vs.set_n s K u
      by_cases h7 : i < 8
      · have PA := Vs.push_nil oks (by omega)
        have PE := Lib.hid PA.1
        have PG := Lib.hid (PN.out _ oks (by omega))
        have NN : Hid (((s.set K u).push []).n = i + 1 + 1) := Lib.hid (by rw [PA.2.1, sn, hn])
        have h7' : (i : Int) < 8 := by omega
        have HGH := Lib.hid HG
        clear HG hg hn ok oks sn PA
        have HG := HGH.out
        clear HG
        go_wp2_with (first | (go_at_call 18; ((with_reducible refine (psGet P.out K 0 0 HGH.out GE.out).mono ?_); rintro e w3 ⟨rfl, hP⟩; have P3 := Lib.hid hP; clear hP)) | (go_at_call 19; ((with_reducible refine (psLevel P3.out (i : Int) HN.out).mono ?_); rintro e w4 ⟨rfl, rfl⟩)) | (go_at_call 22; ((with_reducible refine (BT.out _).mono ?_); rintro e w5 ⟨rfl, rfl⟩)) | (go_at_call 21; ((with_reducible refine (psSet P3.out K u 0 SE.out).mono ?_); rintro e w6 ⟨rfl, hP⟩; have P6 := Lib.hid hP; clear hP)) | (go_at_call 20; ((with_reducible refine (psPush P6.out (ValsB.nil _ _) HT.out 0 PE.out).mono ?_); rintro e w7 ⟨rfl, L7, cap7, hP⟩; have P7 := Lib.hid hP; clear hP)))
        go_roundw
        case rel => exact ⟨i + 1, _, L7, cap7, by omega, by go_num, Lib.hid (.inl ⟨by omega, NN.out⟩), Lib.hid (fun _ => PG.out), P7⟩
        case measure => simp [intOf]; omega
      · obtain rfl : i = 8 := by omega
        have PA := Vs.push_full (s := s.set K u) (by rw [sn, hn]) []
        have PE := Lib.hid PA.1
        have NN : Hid (((s.set K u).push []).n = 9) := Lib.hid (by rw [PA.2, sn, hn])
        replace HN : Hid ((s.n : Int) - 1 = 8) := Lib.hid (by omega)
        have HGH := Lib.hid HG
        clear HG hg hn ok oks sn PA h8 h8' h7 hi
        go_wp2_with (first | (go_at_call 18; ((with_reducible refine (psGet P.out K 0 0 HGH.out GE.out).mono ?_); rintro e w3 ⟨rfl, hP⟩; have P3 := Lib.hid hP; clear hP)) | (go_at_call 19; ((with_reducible refine (psLevel P3.out 8 HN.out).mono ?_); rintro e w4 ⟨rfl, rfl⟩)) | (go_at_call 22; ((with_reducible refine (BT.out _).mono ?_); rintro e w5 ⟨rfl, rfl⟩)) | (go_at_call 21; ((with_reducible refine (psSet P3.out K u 0 SE.out).mono ?_); rintro e w6 ⟨rfl, hP⟩; have P6 := Lib.hid hP; clear hP)) | (go_at_call 20; ((with_reducible refine (psPush P6.out (ValsB.nil _ _) HT.out 10 PE.out).mono ?_); rintro e w7 ⟨rfl, L7, cap7, hP⟩; have P7 := Lib.hid hP; clear hP)))
        go_roundw
        case rel => exact ⟨9, _, L7, cap7, by omega, by go_num, Lib.hid (.inr ⟨rfl, NN.out⟩), Lib.hid (fun h => absurd h (by decide)), P7⟩
        case measure => simp [intOf]
    · obtain rfl : i = 9 := by omega
      have hn : s.n = 9 := by have := HN.out; omega
      have PE := Lib.hid (Vs.push_full hn [(71, 0)]).1
      have PS := Lib.hid (Vs.push_full hn [(71, 0)]).2
      have HM : Hid ((s.n : Int) - 1 = 8) := Lib.hid (by omega)
      clear hn h8 hi
      go_wp2_with (first | (go_at_call 20; ((with_reducible refine (psPush (P.out.al _) (vals_one _ 71 0 _ (by decide) (by decide)) HT.out 10 PE.out).mono ?_); rintro e w7 ⟨rfl, L7, cap7, hP⟩; rw [PS.out] at hP; have P7 := Lib.hid hP; clear hP)) | (go_at_call 19; ((with_reducible refine (psLevel P7.out 8 HM.out).mono ?_); rintro e w4 ⟨rfl, rfl⟩)))
      go_ret
      exact ⟨rfl, P7.out.q⟩

/-! ### the row and the card -/
theorem reads_varsDepth (os : Os) {H : Type} (enc : TypeId × Value → H) : ∃ places, DataW.whole enc Tryd.prog ((laidWorldW os).forCall (fun _ _ => 0) ⟨#[], #[.int .i64 0, .int .i64 0], []⟩).memory Tryd.f8.params.toList Rows.varsDepthSpec.vars false #[(.int .i64 0 : Value), .int .i64 0].toList 8 = some ([.lit (.int .i64 0), .lit (.int .i64 0)], [], places) :=
  ⟨[], by kernel_rfl⟩
set_option maxRecDepth 100000 in
theorem lifted_varsDepth (os : Os) (started : os.Started) (H : Type) (enc : TypeId × Value → H) (F : Stop.Interp) :
    ReturnsInHanded {} Tryd.checked os 8 .any ((OpenSpec.ofChange Rows.varsDepthSpec).preRow enc Tryd.prog Tryd.f8 Rows.varsDepthRow.domain false Rows.varsDepthRow.laid) (((OpenSpec.ofChange Rows.varsDepthSpec).at F).post enc Tryd.prog Tryd.f8 false true false false) := by
  obtain ⟨places, hx⟩ := reads_varsDepth os enc
  refine returnsInHanded_of_row (C := Tryd.checked) (s := OpenSpec.ofChange Rows.varsDepthSpec) ownW started (by kernel_rfl) Tryd.func8
    (witness_row_at (enc := enc) (C := Tryd.checked) false (laidWorldW os) #[.int .i64 0, .int .i64 0] rfl (by kernel_rfl) (by kernel_rfl) (by kernel_rfl)
      (OpenSpec.preRow_of_cond 8 hx (by kernel_rfl) (fun k hk => by cases hk) (by kernel_rfl) (laid_metW os _))) ?_
  intro W base args ds gs before hval0 hW _ _ _ hL _ _
  have ht : Tl W := tableW hL
  have hval : ∀ (j : Nat) t v, Tryd.f8.params[j]? = some t → args[j]? = some v → Value.okWide Tryd.prog W .any base t v := hval0
  have hW' := hW
  obtain ⟨p, q, hA0, hV, rfl, hfz, hnd⟩ := hW
  have hA : DataW.TrodAll enc Tryd.prog W 0 (fun _ => true) true Tryd.f8.params.toList args.toList ds p := hA0
  rw [Tryd.params8] at hA hval
  obtain ⟨v0, vs0, d0, ds0, p0, q0, hargs, rfl, rfl, h0, r0⟩ := trodAll_cons hA
  obtain ⟨v1, vs1, d1, ds1, p1, q1, rfl, rfl, rfl, h1, r1⟩ := trodAll_cons r0
  obtain ⟨rfl, rfl, rfl⟩ := trodAll_nil r1
  obtain rfl : args = #[v0, v1] := by cases args; simp_all
  obtain ⟨rfl, rfl⟩ := trodVars_none hV
  obtain ⟨a0, rfl, rfl, rfl, w0⟩ := open_int Tryd.underlying3 (hval 0 3 v0 rfl rfl) h0
  obtain ⟨x0, y0⟩ := i64_wfW w0
  obtain ⟨a1, rfl, rfl, rfl, w1⟩ := open_int Tryd.underlying3 (hval 1 3 v1 rfl rfl) h1
  obtain ⟨x1, y1⟩ := i64_wfW w1
  clear hA0 hval0 hL
  simp only [List.append_nil] at hW'
  refine (walk_varsDepth a0 x0 y0 a1 x1 y1 W ht).mono fun e W' ⟨he, bel⟩ => ?_
  subst he
  exact ⟨_, rfl, _, _, _, [], _, [], hW', trodAll_mk1 (shut_bool Tryd.underlying4 _), (trodAll_cons_mk (shut_int Tryd.underlying3 w0) (trodAll_cons_mk (shut_int Tryd.underlying3 w1) trodAll_mk0)), rfl, Below.frame bel _, fun h => by cases h⟩

theorem varsDepth_said : Rows.VarsDepthSaid :=
  OpenClaim.holds_of_cond 8 Tryd.f8 rfl rfl rfl rfl rfl rfl rfl ⟨rfl, rfl, rfl, rfl, rfl⟩ rfl rfl rfl rfl rfl (by kernel_rfl) Tryd.func8 (by kernel_rfl)
    (of_decide_eq_true (by kernel_rfl)) (by unfold Func.isWrapper; first | (rw [if_pos (by decide +kernel)]; kernel_rfl) | (rw [if_neg (by decide +kernel)]; exact ⟨rfl, rfl⟩))
    (fun os started H enc _ F => by rw [OpenClaim.pre_eq_preRow]; exact lifted_varsDepth os started H enc F)

theorem plain_varsDepth (f : FuncId) (fn : Func) (hf : Tryd.pinned.checked.prog.funcNamed "cnc/cnclaw07.VarsDepth" = some f) (hfn : Tryd.pinned.checked.prog.funcs[f]? = some fn) :
    false = Tryd.pinned.checked.prog.looks [] ∧ ∀ (j : Nat) t, fn.params[j]? = some t → Tryd.pinned.checked.prog.wantsStandIn t = false := by
  obtain rfl : f = 8 := Option.some.inj ((show Tryd.prog.funcNamed "cnc/cnclaw07.VarsDepth" = some 8 by kernel_rfl).symm.trans hf) |>.symm
  obtain rfl : fn = Tryd.f8 := (Option.some.inj (Tryd.func8.symm.trans hfn)).symm
  refine ⟨by kernel_rfl, fun j t ht => ?_⟩
  rw [Tryd.params8] at ht
  obtain rfl : t = 3 := by simpa using Array.mem_of_getElem? ht
  exact (show Tryd.prog.wantsStandIn 3 = false by kernel_rfl)

/-- The statement. -/
theorem varsDepth_card : Rows.VarsDepthCardSaid :=
  Claim7.holds_tied_plain_at .later [] _ _ _ _ varsDepth_said (fun _ h => by cases h) (by kernel_rfl) (fun _ h => by cases h) varsDepth_row_tie rfl ⟨rfl, rfl⟩ (by kernel_rfl) rfl plain_varsDepth (by kernel_rfl)

end Go.Proofs.YtmfhiabajkdikaaDoor
