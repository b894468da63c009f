/- LibraryBuild of layer 9: which library blocks have, or where the first error is.
   Conditions: the listed table lies as the program's own text lays it (the card ties it); every input. -/
import Derived.Test.YtlgdjbabbfdngaaDoorZB0
import Derived.Test.YtlgdjbabbfdngaaDoorZB1
import Derived.Test.YtlgdjbabbfdngaaDoorZB21
import Derived.BigQuiet
import Derived.Deep.Cut

set_option linter.unusedVariables false
set_option linter.unusedSimpArgs false
namespace Go.Proofs.YtlgdjbabbfdngaaDoor
open Go.ChangeShapes Go.WideShapes Go.ChangeAt Go.RowKit
set_option maxRecDepth 100000 in
set_option maxHeartbeats 4000000 in
theorem walk_libraryBuild (v0 : Value) (u0 : Option Addr × Nat × List Sy.Bl) (v1 : Value) (z1 : List Int) (w : World) (hv0 : v0 = .slice u0.1 u0.2.2.length u0.2.1 ∧ BlksB w (fun b => b < w.heap.size) u0.1 u0.2.1 u0.2.2) (hv1 : IntsB w.heap.size w v1 z1) (ht : Ow w) :
    Calls Tryd.prog 3 #[v0, v1] w fun e w' => e = .returned (.bool true) ∧ Qw w w' := by
  obtain ⟨a0, cap0, bs⟩ := u0
  obtain ⟨rfl, hb⟩ := hv0
  have HV1 := Lib.hid hv1
  have HT := Lib.hid ht
  have HB0 := Lib.hid hb
  have LG := Lib.hid (light9 bs a0 cap0 _ w hb)
  have AW := Lib.hid (fun w1 (q : Qw w w1) => awake9 w1 (ht.kept q))
  clear hv1 ht hb
  go_enter Tryd.func3, Tryd.ntmps3
  go_wp2_with (go_at_call 9; refine LG.out.mono ?_)
  intro e w1 hbo
  obtain ⟨b, rfl, q1⟩ := hbo
  have QQ := Lib.hid q1
  clear q1 LG
  cases b with
  | false =>
    go_wp2_with (go_at_call 11; ((with_reducible refine (AW.out _ QQ.out).mono ?_); rintro e w' ⟨rfl, q⟩))
    go_ret
    exact ⟨rfl, Qw.trans QQ.out q⟩
  | true =>
    by_cases l0 : z1.length ≤ 120
    · have d0 : decide (z1.length ≤ 120) = true := decide_eq_true l0
      go_wp2_with (first
        | (go_at_call 10; ((with_reducible refine (lightF _ _ _ _ (HV1.out.then QQ.out)).mono ?_); rintro e w' ⟨rfl, rfl⟩))
        | (go_at_call 11; ((with_reducible refine (AW.out _ QQ.out).mono ?_); rintro e w2 ⟨rfl, q⟩; replace QQ := Lib.hid (Qw.trans QQ.out q); clear q))
        | (go_at_call 12; ((with_reducible refine (builtW bs a0 cap0 _ _ (HT.out.kept QQ.out) (HB0.out.kept QQ.out)).mono ?_); rintro e w3 ⟨rfl, q⟩; replace QQ := Lib.hid (Qw.trans QQ.out q); clear q))
        | (go_at_call 14; refine (newX _ _ (HV1.out.then QQ.out) (Qw.refl _)).mono ?_; intro e w4 hn; obtain ⟨B, rfl, hB, tp, q2⟩ := hn.open_; have TP := Lib.hid (And.intro hB (And.intro tp q2)); clear hn hB tp q2)
        | (go_at_call 13; refine (randomX _ _ TP.out.1 TP.out.2.1 TP.out.2.2).mono ?_; intro e w5 hf; obtain ⟨ra, rcap, rl, rfl, h13, hbk, hdw, q3⟩ := hf.open_; have HR := Lib.hid hbk; replace QQ := Lib.hid (Qw.trans QQ.out q3); clear hf hbk hdw q3 TP)
        | (go_at_call 12; ((with_reducible refine (builtW rl ra rcap _ _ (HT.out.kept QQ.out) HR.out).mono ?_); rintro e w6 ⟨rfl, q⟩; replace QQ := Lib.hid (Qw.trans QQ.out q); clear q HR))
        | (go_at_call 15; refine (flowX _ _ TP.out.1 TP.out.2.1 TP.out.2.2).mono ?_; intro e w7 hf; obtain ⟨fa, fcap, fl, s, rfl, h40, hbk, hbd, hfl, hfw, q3⟩ := hf.open_; have HF := Lib.hid hbk; replace QQ := Lib.hid (Qw.trans QQ.out q3); clear hf hbk hbd hfl hfw q3 TP)
        | (go_at_call 12; ((with_reducible refine (builtW fl fa fcap _ _ (HT.out.kept QQ.out) HF.out).mono ?_); rintro e w8 ⟨rfl, q⟩; replace QQ := Lib.hid (Qw.trans QQ.out q); clear q HF)))
      go_ret
      exact ⟨rfl, QQ.out⟩
    · have d0 : decide (z1.length ≤ 120) = false := decide_eq_false l0
      go_wp2_with (first
        | (go_at_call 10; ((with_reducible refine (lightF _ _ _ _ (HV1.out.then QQ.out)).mono ?_); rintro e w' ⟨rfl, rfl⟩))
        | (go_at_call 11; ((with_reducible refine (AW.out _ QQ.out).mono ?_); rintro e w2 ⟨rfl, q⟩; replace QQ := Lib.hid (Qw.trans QQ.out q); clear q)))
      go_ret
      exact ⟨rfl, QQ.out⟩
theorem in_blk {H : Type} {enc : TypeId × Value → H} {W : World} {base : Nat} {v : Value} {d : DataW H} {p : List MemPlace} (hval : Value.okWide Tryd.prog W .any base 22 v)
    (h : DataW.Trod enc Tryd.prog W 0 (fun _ => true) true 22 v d p) : ∃ u : Option Addr × Nat × List Sy.Bl, v = .slice u.1 u.2.2.length u.2.1 ∧ BlksB W (fun b => b < W.heap.size) u.1 u.2.1 u.2.2 := by
  obtain ⟨a0, len, cap, rfl⟩ := okWide_slice Tryd.underlying22 hval
  obtain ⟨fuel, hf⟩ := h
  obtain ⟨a, c, ks, e, hB⟩ := in_blocks9 hf
  exact ⟨(a, c, ks), e, hB⟩
theorem out_blk {H : Type} {enc : TypeId × Value → H} {W W' : World} {v : Value} {d : DataW H} {p : List MemPlace} (h : DataW.Trod enc Tryd.prog W 0 (fun _ => true) true 22 v d p) (bel : Below W.heap.size W W')
    (hlt : ∀ x ∈ p, x.block < W.heap.size) : DataW.Trod enc Tryd.prog W' 0 (fun b => decide (b < W.heap.size)) true 22 v d p :=
  Below.trod laidOutO (by kernel_rfl) (of_decide_eq_true (by kernel_rfl)) h bel hlt
/-! ### the row and the card -/
theorem reads_libraryBuild (os : Os) {H : Type} (enc : TypeId × Value → H) : ∃ places, DataW.whole enc Tryd.prog ((laidWorldO os).forCall (fun _ _ => 0) ⟨#[], #[.slice none 0 0, .slice none 0 0], []⟩).memory Tryd.f3.params.toList Rows.libraryBuildSpec.vars false #[(.slice none 0 0 : Value), .slice none 0 0].toList 8 = some ([.nil, .nil], [], places) :=
  ⟨[], by kernel_rfl⟩
set_option maxRecDepth 100000 in
theorem lifted_libraryBuild (os : Os) (started : os.Started) (H : Type) (enc : TypeId × Value → H) (F : Stop.Interp) :
    ReturnsInHanded {} Tryd.checked os 3 .any ((OpenSpec.ofChange Rows.libraryBuildSpec).preRow enc Tryd.prog Tryd.f3 Rows.libraryBuildRow.domain false Rows.libraryBuildRow.laid) (((OpenSpec.ofChange Rows.libraryBuildSpec).at F).post enc Tryd.prog Tryd.f3 false true false false) := by
  obtain ⟨places, hx⟩ := reads_libraryBuild os enc
  refine returnsInHanded_of_row (C := Tryd.checked) (s := OpenSpec.ofChange Rows.libraryBuildSpec) ownO started (by kernel_rfl) Tryd.func3
    (witness_row_at (enc := enc) (C := Tryd.checked) false (laidWorldO os) #[.slice none 0 0, .slice none 0 0] rfl (by kernel_rfl) (by kernel_rfl) (by kernel_rfl)
      (OpenSpec.preRow_of_cond 8 hx (by kernel_rfl) (fun k hk => by cases hk) (by kernel_rfl) (laid_metO os _))) ?_
  intro W base args ds gs before hval0 hW _ _ _ hL _ _
  have ht : Ow W := tableO hL
  have hval : ∀ (j : Nat) t v, Tryd.f3.params[j]? = some t → args[j]? = some v → Value.okWide Tryd.prog W .any base t v := hval0
  have hW' := hW
  obtain ⟨p, q, hA0, hV, rfl, hfz, hnd⟩ := hW
  have hA : DataW.TrodAll enc Tryd.prog W 0 (fun _ => true) true Tryd.f3.params.toList args.toList ds p := hA0
  rw [Tryd.params3] at hA hval
  obtain ⟨v0, vs0, d0, ds0, p0, q0, hargs, rfl, rfl, h0, r0⟩ := trodAll_cons hA
  obtain ⟨v1, vs1, d1, ds1, p1, q1, rfl, rfl, rfl, h1, r1⟩ := trodAll_cons r0
  obtain ⟨rfl, rfl, rfl⟩ := trodAll_nil r1
  obtain rfl : args = #[v0, v1] := by cases args; simp_all
  obtain ⟨rfl, rfl⟩ := trodVars_none hV
  obtain ⟨u0, hu0⟩ := in_blk (hval 0 22 v0 rfl rfl) h0
  obtain ⟨u1, hu1⟩ := in_ints (hval 1 23 v1 rfl rfl) h1
  clear hA0 hval0 hL
  simp only [List.append_nil] at hW'
  refine (walk_libraryBuild v0 u0 v1 u1 W hu0 hu1 ht).mono fun e W' ⟨he, bel⟩ => ?_
  subst he
  exact ⟨_, rfl, _, _, _, [], _, [], hW', trodAll_mk1 (shut_bool Tryd.underlying4 _), (trodAll_cons_mk (out_blk h0 bel (fun x hx => hW'.lt x (by first | exact hx | simp [hx]))) (trodAll_cons_mk (out_ints h1 bel (fun x hx => hW'.lt x (by first | exact hx | simp [hx]))) trodAll_mk0)), rfl, Below.frame bel _, fun h => by cases h⟩
theorem libraryBuild_said : Rows.LibraryBuildSaid :=
  OpenClaim.holds_of_cond 3 Tryd.f3 rfl rfl rfl rfl rfl rfl rfl ⟨rfl, rfl, rfl, rfl, rfl⟩ rfl rfl rfl rfl rfl (by kernel_rfl) Tryd.func3 (by kernel_rfl)
    (of_decide_eq_true (by kernel_rfl)) (by unfold Func.isWrapper; first | (rw [if_pos (by decide +kernel)]; kernel_rfl) | (rw [if_neg (by decide +kernel)]; exact ⟨rfl, rfl⟩))
    (fun os started H enc _ F => by rw [OpenClaim.pre_eq_preRow]; exact lifted_libraryBuild os started H enc F)
theorem plain_libraryBuild (f : FuncId) (fn : Func) (hf : Tryd.pinned.checked.prog.funcNamed "cnc/cnclaw09.LibraryBuild" = some f) (hfn : Tryd.pinned.checked.prog.funcs[f]? = some fn) :
    false = Tryd.pinned.checked.prog.looks [] ∧ ∀ (j : Nat) t, fn.params[j]? = some t → Tryd.pinned.checked.prog.wantsStandIn t = false := by
  obtain rfl : f = 3 := Option.some.inj ((show Tryd.prog.funcNamed "cnc/cnclaw09.LibraryBuild" = some 3 by kernel_rfl).symm.trans hf) |>.symm
  obtain rfl : fn = Tryd.f3 := (Option.some.inj (Tryd.func3.symm.trans hfn)).symm
  refine ⟨by kernel_rfl, fun j t ht => ?_⟩
  rw [Tryd.params3] at ht
  have hm : t = 22 ∨ t = 23 := by simpa using Array.mem_of_getElem? ht
  rcases hm with rfl | rfl
  · exact (show Tryd.prog.wantsStandIn 22 = false by kernel_rfl)
  · exact (show Tryd.prog.wantsStandIn 23 = false by kernel_rfl)
/-- The statement. -/
theorem libraryBuild_card : Rows.LibraryBuildCardSaid :=
  Claim7.holds_tied_plain_at .later [] _ _ _ _ libraryBuild_said (fun _ h => by cases h) (by kernel_rfl) (fun _ h => by cases h) libraryBuild_row_tie rfl ⟨rfl, rfl⟩ (by kernel_rfl) rfl plain_libraryBuild (by kernel_rfl)
end Go.Proofs.YtlgdjbabbfdngaaDoor

