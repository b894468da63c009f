/- SyntaxRoundTrip of layer 6: Line reads what Format writes, for every block that a tape gives.
   Conditions: the five listed tables lie as the program's own text lays them (the card ties them); every input. -/
import Derived.Test.YthfcimfoinidbaaGreatDoorZr5
import Derived.Test.YthfcimfoinidbaaGreatDoorZr23
import Derived.Test.YthfcimfoinidbaaGreatDoorZr26
import Derived.Test.YthfcimfoinidbaaGreatDoorZr28
import Derived.Test.YthfcimfoinidbaaGreatDoorZr29
import Derived.Test.YthfcimfoinidbaaGreatDoorZr31

set_option linter.unusedVariables false
set_option linter.unusedSimpArgs false
namespace Go.Proofs.YthfcimfoinidbaaGreatDoor
open Go.ChangeShapes Go.WideShapes Go.ChangeAt Go.RowKit
theorem IntsB.then {w w' : World} {v : Value} {zs : List Int} (h : IntsB w.heap.size w v zs) (q : Qw w w') : IntsB w'.heap.size w' v zs := (h.kept q (Nat.le_refl _)).mono q.size
set_option maxRecDepth 100000 in
set_option maxHeartbeats 4000000 in
theorem walk_syntaxRoundTrip (v : Value) (zs : List Int) (w : World) (hv : IntsB w.heap.size w v zs) (hb : Tb w) (ht : Tn w) (ho : Ow w) :
    Calls Tryz.prog 9 #[v] w fun e w' => e = .returned (.bool true) ∧ Qw w w' := by
  have aw : ∀ w1, Qw w w1 → _ := fun w1 q => awake6 w1 (ht.kept q) (ho.kept q) (hb.kept q)
  have AW := Lib.hid aw
  have HV := Lib.hid hv
  have HN := Lib.hid ht
  have HO := Lib.hid ho
  have HB := Lib.hid hb
  have QQ := Lib.hid (Qw.refl w)
  clear hv ht ho hb aw
  by_cases hl : zs.length ≤ 120
  · have d2 : decide (zs.length ≤ 120) = true := decide_eq_true hl
    go_enter Tryz.func9, Tryz.ntmps9
    go_upto_region 4 with (first
    | (go_at_call 13; ((with_reducible refine (lightF _ _ _ _ HV.out).mono ?_); rintro e w' ⟨rfl, rfl⟩))
    | (go_at_call 17; ((with_reducible refine (newF _ _ _ (HV.out.then QQ.out)).mono ?_); rintro e w' ⟨rfl, tp, q⟩; have TP := Lib.hid tp; clear tp; have QN := Lib.hid (Qw.le QQ.out); replace QQ := Lib.hid (Qw.trans QQ.out q); clear q))
    | (go_at_call 19; ((with_reducible refine (blockB _ _ _ _ TP.out).mono ?_); rintro e w' ⟨b, p0, p1, p2, p3, p4, p5, rfl, dw, hb, q⟩; clear TP; replace QQ : Hid (Qw w w') := Lib.hid (Below.trans QQ.out (Below.mono q QN.out)); clear q QN; have Hp := Lib.hid hb; clear hb; have DW := Lib.hid dw; clear dw; have XX : Bx (w'.alloc (.cells #[.int .i64 b.kind, .int .i64 b.label, .bool b.skip, .slice p0 b.words.length p1, .int .i64 b.left.op, .int .i64 b.left.n, .slice p2 b.left.ks.length p3, .int .i64 b.x.op, .int .i64 b.x.n, .slice p4 b.x.ks.length p5, .int .i64 b.n] 36)) w'.heap.size _ _ := Bx.new _ _ _; have Xp := Lib.hid XX; clear XX)))
    obtain ⟨h2, hf⟩ := DW.out.back
    have hlen := DW.out.len
    have eT : (Sy.fmb b).length = (bs (Sy.fmb b)).size := (bs_size _).symm
    rw [eT] at h2
    have c2 : ∀ w1, Qw w w1 → _ := fun w1 q => lineW (s := bs (Sy.fmb b)) (by rw [bs_size]; omega) h2 w1 (HN.out.kept q) (HO.out.kept q)
    have cf : ∀ (w1 : World) (p0 : Option Addr) (p1 : Nat) (p2 : Option Addr) (p3 : Nat) (p4 : Option Addr) (p5 : Nat) (R : Nat → Prop), Qw w w1 → BlkB w1 R b (bcs b p0 p1 p2 p3 p4 p5) → Calls Tryz.prog 31 #[.agg #[.int .i64 b.kind, .int .i64 b.label, .bool b.skip, .slice p0 b.words.length p1, .int .i64 b.left.op, .int .i64 b.left.n, .slice p2 b.left.ks.length p3, .int .i64 b.x.op, .int .i64 b.x.n, .slice p4 b.x.ks.length p5, .int .i64 b.n]] w1 fun e w' => e = .returned (.string (bs (Sy.fmb b))) ∧ Qw w1 w' := fun w1 p0 p1 p2 p3 p4 p5 R q h => by
      have := sx_format b _ R w1 (HO.out.kept q) (HB.out.kept q) h
      rw [hf] at this
      exact this
    have cs : ∀ (w1 : World) (p0 : Option Addr) (p1 : Nat) (p2 : Option Addr) (p3 : Nat) (p4 : Option Addr) (p5 : Nat) (q0 : Option Addr) (q1 : Nat) (q2 : Option Addr) (q3 : Nat) (q4 : Option Addr) (q5 : Nat) (R R' : Nat → Prop), Qw w w1 → BlkB w1 R b (bcs b p0 p1 p2 p3 p4 p5) → BlkB w1 R' b (bcs b q0 q1 q2 q3 q4 q5) → Calls Tryz.prog 36 #[.agg #[.int .i64 b.kind, .int .i64 b.label, .bool b.skip, .slice p0 b.words.length p1, .int .i64 b.left.op, .int .i64 b.left.n, .slice p2 b.left.ks.length p3, .int .i64 b.x.op, .int .i64 b.x.n, .slice p4 b.x.ks.length p5, .int .i64 b.n], .agg #[.int .i64 b.kind, .int .i64 b.label, .bool b.skip, .slice q0 b.words.length q1, .int .i64 b.left.op, .int .i64 b.left.n, .slice q2 b.left.ks.length q3, .int .i64 b.x.op, .int .i64 b.x.n, .slice q4 b.x.ks.length q5, .int .i64 b.n]] w1 fun e w' => e = .returned (.bool true) ∧ Qw w1 w' := fun w1 p0 p1 p2 p3 p4 p5 q0 q1 q2 q3 q4 q5 R R' q h h' => sx_same b _ _ R R' w1 h h'
    have C2 := Lib.hid c2
    have CF := Lib.hid cf
    have CS := Lib.hid cs
    clear c2 cf cs hf h2 eT hlen DW
    generalize bs (Sy.fmb b) = T at *
    obtain ⟨p0, p1, p2, p3, p4, p5, p6, p7, p8, p9, p10⟩ := Bx.c11 Xp.out; have pl := Xp.out.lt
    go_wp2_with (first
    | (go_at_call 31; ((with_reducible refine (CF.out _ _ _ _ _ _ _ _ (Qw.trans QQ.out (by repeat (first | exact Qw.refl _ | refine Qw.al ?_ _ | refine Qw.dr ?_))) (BlkB.kept Hp.out (by repeat (first | exact Qw.refl _ | refine Qw.al ?_ _ | refine Qw.dr ?_)))).mono ?_); rintro e w' ⟨rfl, q⟩; replace Xp := Lib.hid (Bx.kept Xp.out (Qw.trans (by repeat (first | exact Qw.refl _ | refine Qw.al ?_ _ | refine Qw.dr ?_)) q)); replace Hp := Lib.hid (BlkB.kept Hp.out (Qw.trans (by repeat (first | exact Qw.refl _ | refine Qw.al ?_ _ | refine Qw.dr ?_)) q)); obtain ⟨p0, p1, p2, p3, p4, p5, p6, p7, p8, p9, p10⟩ := Bx.c11 Xp.out; have pl := Xp.out.lt; replace QQ := Lib.hid (Qw.trans (Qw.trans QQ.out (by repeat (first | exact Qw.refl _ | refine Qw.al ?_ _ | refine Qw.dr ?_))) q); clear q))
    | (go_at_call 35; ((with_reducible refine (C2.out _ (Qw.trans QQ.out (by repeat (first | exact Qw.refl _ | refine Qw.al ?_ _ | refine Qw.dr ?_)))).mono ?_); rintro e w' ⟨q0, q1, q2, q3, q4, q5, rfl, hb, q⟩; replace Xp := Lib.hid (Bx.kept Xp.out (Qw.trans (by repeat (first | exact Qw.refl _ | refine Qw.al ?_ _ | refine Qw.dr ?_)) q)); replace Hp := Lib.hid (BlkB.kept Hp.out (Qw.trans (by repeat (first | exact Qw.refl _ | refine Qw.al ?_ _ | refine Qw.dr ?_)) q)); obtain ⟨p0, p1, p2, p3, p4, p5, p6, p7, p8, p9, p10⟩ := Bx.c11 Xp.out; have pl := Xp.out.lt; replace QQ := Lib.hid (Qw.trans (Qw.trans QQ.out (by repeat (first | exact Qw.refl _ | refine Qw.al ?_ _ | refine Qw.dr ?_))) q); have Hq := Lib.hid hb; clear hb; have XX : Bx (w'.alloc (.cells #[.int .i64 b.kind, .int .i64 b.label, .bool b.skip, .slice q0 b.words.length q1, .int .i64 b.left.op, .int .i64 b.left.n, .slice q2 b.left.ks.length q3, .int .i64 b.x.op, .int .i64 b.x.n, .slice q4 b.x.ks.length q5, .int .i64 b.n] 36)) w'.heap.size _ _ := Bx.new _ _ _; have Xq := Lib.hid XX; clear XX; clear q))
    | (go_at_call 14; ((with_reducible refine (AW.out _ (Qw.trans QQ.out (by repeat (first | exact Qw.refl _ | refine Qw.al ?_ _ | refine Qw.dr ?_)))).mono ?_); rintro e w' ⟨rfl, q⟩; replace Xp := Lib.hid (Bx.kept Xp.out (Qw.trans (by repeat (first | exact Qw.refl _ | refine Qw.al ?_ _ | refine Qw.dr ?_)) q)); replace Hp := Lib.hid (BlkB.kept Hp.out (Qw.trans (by repeat (first | exact Qw.refl _ | refine Qw.al ?_ _ | refine Qw.dr ?_)) q)); obtain ⟨p0, p1, p2, p3, p4, p5, p6, p7, p8, p9, p10⟩ := Bx.c11 Xp.out; have pl := Xp.out.lt; replace Xq := Lib.hid (Bx.kept Xq.out (Qw.trans (by repeat (first | exact Qw.refl _ | refine Qw.al ?_ _ | refine Qw.dr ?_)) q)); replace Hq := Lib.hid (BlkB.kept Hq.out (Qw.trans (by repeat (first | exact Qw.refl _ | refine Qw.al ?_ _ | refine Qw.dr ?_)) q)); obtain ⟨q0, q1, q2, q3, q4, q5, q6, q7, q8, q9, q10⟩ := Bx.c11 Xq.out; have ql := Xq.out.lt; replace QQ := Lib.hid (Qw.trans (Qw.trans QQ.out (by repeat (first | exact Qw.refl _ | refine Qw.al ?_ _ | refine Qw.dr ?_))) q); clear q))
    | (go_at_call 36; ((with_reducible refine (CS.out _ _ _ _ _ _ _ _ _ _ _ _ _ _ _ (Qw.trans QQ.out (by repeat (first | exact Qw.refl _ | refine Qw.al ?_ _ | refine Qw.dr ?_))) (BlkB.kept Hp.out (by repeat (first | exact Qw.refl _ | refine Qw.al ?_ _ | refine Qw.dr ?_))) (BlkB.kept Hq.out (by repeat (first | exact Qw.refl _ | refine Qw.al ?_ _ | refine Qw.dr ?_)))).mono ?_); rintro e w' ⟨rfl, q⟩; replace Xp := Lib.hid (Bx.kept Xp.out (Qw.trans (by repeat (first | exact Qw.refl _ | refine Qw.al ?_ _ | refine Qw.dr ?_)) q)); replace Hp := Lib.hid (BlkB.kept Hp.out (Qw.trans (by repeat (first | exact Qw.refl _ | refine Qw.al ?_ _ | refine Qw.dr ?_)) q)); obtain ⟨p0, p1, p2, p3, p4, p5, p6, p7, p8, p9, p10⟩ := Bx.c11 Xp.out; have pl := Xp.out.lt; replace Xq := Lib.hid (Bx.kept Xq.out (Qw.trans (by repeat (first | exact Qw.refl _ | refine Qw.al ?_ _ | refine Qw.dr ?_)) q)); replace Hq := Lib.hid (BlkB.kept Hq.out (Qw.trans (by repeat (first | exact Qw.refl _ | refine Qw.al ?_ _ | refine Qw.dr ?_)) q)); obtain ⟨q0, q1, q2, q3, q4, q5, q6, q7, q8, q9, q10⟩ := Bx.c11 Xq.out; have ql := Xq.out.lt; replace QQ := Lib.hid (Qw.trans (Qw.trans QQ.out (by repeat (first | exact Qw.refl _ | refine Qw.al ?_ _ | refine Qw.dr ?_))) q); clear q)))
    go_ret
    exact ⟨rfl, QQ.out⟩
  · have d2 : decide (zs.length ≤ 120) = false := decide_eq_false hl
    go_enter Tryz.func9, Tryz.ntmps9
    go_wp2_with (first
    | (go_at_call 13; ((with_reducible refine (lightF _ _ _ _ HV.out).mono ?_); rintro e w' ⟨rfl, rfl⟩))
    | (go_at_call 14; ((with_reducible refine (AW.out _ (Qw.trans QQ.out (by repeat (first | exact Qw.refl _ | refine Qw.al ?_ _ | refine Qw.dr ?_)))).mono ?_); rintro e w' ⟨rfl, q⟩; replace QQ := Lib.hid (Qw.trans (Qw.trans QQ.out (by repeat (first | exact Qw.refl _ | refine Qw.al ?_ _ | refine Qw.dr ?_))) q); clear q)))
    go_ret
    exact ⟨rfl, QQ.out⟩
/-! ### the row and the card -/
theorem reads_syntaxRoundTrip (os : Os) {H : Type} (enc : TypeId × Value → H) : ∃ places, DataW.whole enc Tryz.prog ((laidWorldS os).forCall (fun _ _ => 0) ⟨#[], #[.slice none 0 0], []⟩).memory Tryz.f9.params.toList Rows.syntaxRoundTripSpec.vars false #[(.slice none 0 0 : Value)].toList 8 = some ([.nil], [], places) :=
  ⟨[], by kernel_rfl⟩
set_option maxRecDepth 100000 in
theorem lifted_syntaxRoundTrip (os : Os) (started : os.Started) (H : Type) (enc : TypeId × Value → H) (F : Stop.Interp) :
    ReturnsInHanded {} Tryz.checked os 9 .any ((OpenSpec.ofChange Rows.syntaxRoundTripSpec).preRow enc Tryz.prog Tryz.f9 Rows.syntaxRoundTripRow.domain false Rows.syntaxRoundTripRow.laid) (((OpenSpec.ofChange Rows.syntaxRoundTripSpec).at F).post enc Tryz.prog Tryz.f9 false true false false) := by
  obtain ⟨places, hx⟩ := reads_syntaxRoundTrip os enc
  refine returnsInHanded_of_row (C := Tryz.checked) (s := OpenSpec.ofChange Rows.syntaxRoundTripSpec) ownS started (by kernel_rfl) Tryz.func9
    (witness_row_at (enc := enc) (C := Tryz.checked) false (laidWorldS os) #[.slice none 0 0] rfl (by kernel_rfl) (by kernel_rfl) (by kernel_rfl)
      (OpenSpec.preRow_of_cond 8 hx (by kernel_rfl) (fun k hk => by cases hk) (by kernel_rfl) (laid_metS os _))) ?_
  intro W base args ds gs before hval0 hW _ _ _ hL _ _
  obtain ⟨hb, ht, ho⟩ := tableS hL
  have hval : ∀ (j : Nat) t v, Tryz.f9.params[j]? = some t → args[j]? = some v → Value.okWide Tryz.prog W .any base t v := hval0
  have hW' := hW
  obtain ⟨p, q, hA0, hV, rfl, hfz, hnd⟩ := hW
  have hA : DataW.TrodAll enc Tryz.prog W 0 (fun _ => true) true Tryz.f9.params.toList args.toList ds p := hA0
  rw [Tryz.params9] at hA hval
  obtain ⟨v0, vs0, d0, ds0, p0, q0, hargs, rfl, rfl, h0, r0⟩ := trodAll_cons hA
  obtain ⟨rfl, rfl, rfl⟩ := trodAll_nil r0
  obtain rfl : args = #[v0] := by cases args; simp_all
  obtain ⟨rfl, rfl⟩ := trodVars_none hV
  obtain ⟨u0, hu0⟩ := in_ints (hval 0 22 v0 rfl rfl) h0
  clear hA0 hval0 hL
  simp only [List.append_nil] at hW'
  refine (walk_syntaxRoundTrip v0 u0 W hu0 hb ht ho).mono fun e W' ⟨he, bel⟩ => ?_
  subst he
  exact ⟨_, rfl, _, _, _, [], _, [], hW', trodAll_mk1 (shut_bool Tryz.underlying4 _), (trodAll_cons_mk (out_ints h0 bel (fun x hx => hW'.lt x (by first | exact hx | simp [hx]))) trodAll_mk0), rfl, Below.frame bel _, fun h => by cases h⟩
theorem syntaxRoundTrip_said : Rows.SyntaxRoundTripSaid :=
  OpenClaim.holds_of_cond 9 Tryz.f9 rfl rfl rfl rfl rfl rfl rfl ⟨rfl, rfl, rfl, rfl, rfl⟩ rfl rfl rfl rfl rfl (by kernel_rfl) Tryz.func9 (by kernel_rfl)
    (of_decide_eq_true (by kernel_rfl)) (by unfold Func.isWrapper; first | (rw [if_pos (by decide +kernel)]; kernel_rfl) | (rw [if_neg (by decide +kernel)]; exact ⟨rfl, rfl⟩))
    (fun os started H enc _ F => by rw [OpenClaim.pre_eq_preRow]; exact lifted_syntaxRoundTrip os started H enc F)
theorem plain_syntaxRoundTrip (f : FuncId) (fn : Func) (hf : Tryz.pinned.checked.prog.funcNamed "cnc/cnclaw06.SyntaxRoundTrip" = some f) (hfn : Tryz.pinned.checked.prog.funcs[f]? = some fn) :
    true = Tryz.pinned.checked.prog.looks [] ∧ ∀ (j : Nat) t, fn.params[j]? = some t → Tryz.pinned.checked.prog.wantsStandIn t = false := by
  obtain rfl : f = 9 := Option.some.inj ((show Tryz.prog.funcNamed "cnc/cnclaw06.SyntaxRoundTrip" = some 9 by kernel_rfl).symm.trans hf) |>.symm
  obtain rfl : fn = Tryz.f9 := (Option.some.inj (Tryz.func9.symm.trans hfn)).symm
  refine ⟨by kernel_rfl, fun j t ht => ?_⟩
  rw [Tryz.params9] at ht
  obtain rfl : t = 22 := by simpa using Array.mem_of_getElem? ht
  exact (show Tryz.prog.wantsStandIn 22 = false by kernel_rfl)
/-- The statement. -/
theorem syntaxRoundTrip_card : Rows.SyntaxRoundTripCardSaid :=
  Claim7.holds_tied_plain_at .later [] _ _ _ _ syntaxRoundTrip_said (fun _ h => by cases h) (by kernel_rfl) (fun _ h => by cases h) syntaxRoundTrip_row_tie rfl ⟨rfl, rfl⟩ (by kernel_rfl) rfl plain_syntaxRoundTrip (by kernel_rfl)
end Go.Proofs.YthfcimfoinidbaaGreatDoor

