/- SyntaxBrackets of layer 6: brackets and plus signs around an expression that a tape gives leave no trace.
   Conditions: the five listed tables lie as the program's own text lays them (the card ties them); every input. -/
import Derived.Test.YthfcimfoinidbaaGreatDoorZb5
import Derived.Test.YthfcimfoinidbaaGreatDoorZb22
import Derived.Test.YthfcimfoinidbaaGreatDoorZb29
import Derived.Test.YthfcimfoinidbaaGreatDoorZb30
import Derived.Deep.Cut

set_option linter.unusedVariables false
set_option linter.unusedSimpArgs false
namespace Go.Proofs.YthfcimfoinidbaaGreatDoor
open Go.ChangeShapes Go.WideShapes Go.ChangeAt Go.RowKit
theorem IntsB.then {w w' : World} {v : Value} {zs : List Int} (h : IntsB w.heap.size w v zs) (q : Qw w w') : IntsB w'.heap.size w' v zs := (h.kept q (Nat.le_refl _)).mono q.size
set_option maxRecDepth 100000 in
set_option maxHeartbeats 4000000 in
theorem walk_syntaxBrackets (v : Value) (zs : List Int) (a1 : Int) (x1 : -9223372036854775808 ≤ a1) (y1 : a1 ≤ 9223372036854775807) (w : World) (hv : IntsB w.heap.size w v zs) (hb : Tb w) (ht : Tn w) (ho : Ow w) :
    Calls Tryz.prog 12 #[v, .int .i64 a1] w fun e w' => e = .returned (.bool true) ∧ Qw w w' := by
  have aw : ∀ w1, Qw w w1 → _ := fun w1 q => awake6 w1 (ht.kept q) (ho.kept q) (hb.kept q)
  have AW := Lib.hid aw
  have HV := Lib.hid hv
  have HN := Lib.hid ht
  have HO := Lib.hid ho
  have HB := Lib.hid hb
  have QQ := Lib.hid (Qw.refl w)
  have m1 := fun w => modW a1 30 x1 y1 (by decide) (by decide) w
  obtain ⟨n, hn0⟩ : ∃ n : Nat, a1 % 30 = n := ⟨(a1 % 30).toNat, by omega⟩
  have hn : n < 30 := by omega
  rw [hn0] at m1
  have M1 := Lib.hid m1
  clear hv ht ho hb aw m1 hn0
  by_cases hl : zs.length ≤ 120
  · have d2 : decide (zs.length ≤ 120) = true := decide_eq_true hl
    go_enter Tryz.func12, Tryz.ntmps12
    go_upto_region 4 with (first
    | (go_at_call 13; ((with_reducible refine (lightF _ _ _ _ HV.out).mono ?_); rintro e w' ⟨rfl, rfl⟩))
    | (go_at_call 17; ((with_reducible refine (newF _ _ _ (HV.out.then QQ.out)).mono ?_); rintro e w' ⟨rfl, tp, q⟩; have TP := Lib.hid tp; clear tp; have QN := Lib.hid (Qw.le QQ.out); replace QQ := Lib.hid (Qw.trans QQ.out q); clear q))
    | (go_at_call 26; ((with_reducible refine (exprB4 _ _ _ _ TP.out).mono ?_); rintro e w1 ⟨x, ka, kc, rfl, ok, dp, hk, q⟩; clear TP; replace QQ : Hid (Qw w w1) := Lib.hid (Below.trans QQ.out (Below.mono q QN.out)); clear q QN; have Hp := Lib.hid hk; clear hk; have OK := Lib.hid ok; clear ok)))
    have hlen := (Sy.len4 OK.out dp).1
    have cp : ∀ (w2 : World) (R : Nat → Prop), Qw w w2 → KidsB w2 R ka kc x.ks → Calls Tryz.prog 40 #[.agg #[.int .i64 x.op, .int .i64 x.n, .slice ka x.ks.length kc]] w2 fun e w' => e = .returned (.string (bs (Sy.bpr x))) ∧ Qw w2 w' := fun w2 R q h => by
      have := sx_print x.op x.n x.ks ka kc R w2 (HO.out.kept q) (HB.out.kept q) h
      have e1 : Sy.Ex.mk x.op x.n x.ks = x := by cases x; rfl
      rw [e1, show Sy.prt x = Sy.bpr x by unfold Sy.prt; rw [if_pos]; unfold Sy.rgt; rw [OK.out, Sy.dep_le dp (by decide)]; rfl] at this
      exact this
    have cl : ∀ w2, Qw w w2 → _ := fun w2 q => lineX OK.out dp n hn w2 (HN.out.kept q) (HO.out.kept q)
    have CP := Lib.hid cp
    have CL := Lib.hid cl
    clear cp cl
    have Xp : Hid (Bx (w1.alloc (.cells #[.int .i64 x.op, .int .i64 x.n, .slice ka x.ks.length kc] 34)) w1.heap.size #[.int .i64 x.op, .int .i64 x.n, .slice ka x.ks.length kc] 34) := Lib.hid (Bx.new _ _ _)
    have xl := Xp.out.lt
    have c0 := Xp.out.cell' 0 _ rfl
    have c1 := Xp.out.cell' 1 _ rfl
    have c2 := Xp.out.cell' 2 _ rfl
    have hz0 : ¬ 9223372036854775807 < 1 + (bs (Sy.bpr x)).size := by rw [bs_size]; omega
    have hz1 : ¬ 9223372036854775807 < 1 + (bs (Sy.bpr x)).size + 1 := by rw [bs_size]; omega
    have E0 : Hid (bs [91] ++ bs (Sy.bpr x) ++ bs [93] = bs (Sy.bks x 0)) := Lib.hid (by rw [bs_app, bs_app]; rfl)
    generalize hP0 : w1.heap.size = P0 at *
    clear hP0
    go_upto_region 6 with (first
    | (go_at_call 40; ((with_reducible refine (CP.out _ _ (Qw.trans QQ.out (by repeat (first | exact Qw.refl _ | refine Qw.al ?_ _ | refine Qw.dr ?_))) (Hp.out.kept (by repeat (first | exact Qw.refl _ | refine Qw.al ?_ _ | refine Qw.dr ?_)))).mono ?_); rintro e w' ⟨rfl, q⟩; replace Hp := Lib.hid (Hp.out.kept (Qw.trans (by repeat (first | exact Qw.refl _ | refine Qw.al ?_ _ | refine Qw.dr ?_)) q)); replace Xp := Lib.hid (Bx.kept Xp.out q); replace QQ := Lib.hid (Qw.trans (Qw.trans QQ.out (by repeat (first | exact Qw.refl _ | refine Qw.al ?_ _ | refine Qw.dr ?_))) q); clear q))
    | (go_at_call 20; ((with_reducible refine (M1.out _).mono ?_); rintro e w' ⟨rfl, rfl⟩)))
    go_loop [6, 7] (fun sv iv => ∃ i j : Nat, sv = .string (bs (Sy.bks x j)) ∧ iv = .int .i64 (i : Int) ∧ i + j = n) (fun _ iv => (intOf iv).toNat)
    case atStart => exact ⟨n, 0, by rw [← E0.out]; rfl, rfl, rfl⟩
    case round =>
      obtain ⟨i, j, rfl, rfl, hij⟩ := hrel
      by_cases hi : 0 < i
      · obtain ⟨i, rfl⟩ : ∃ k, i = k + 1 := ⟨i - 1, by omega⟩
        have hi1 : ((i + 1 : Nat) : Int) = (i : Int) + 1 := by omega
        have eC : bs [91, 43] ++ bs (Sy.bks x j) ++ bs [93] = bs (Sy.bks x (j + 1)) := by rw [bs_app, bs_app]; rfl
        have hz2 : ¬ 9223372036854775807 < 2 + (bs (Sy.bks x j)).size := by rw [bs_size, Sy.bks_len]; omega
        have hz3 : ¬ 9223372036854775807 < 2 + (bs (Sy.bks x j)).size + 1 := by rw [bs_size, Sy.bks_len]; omega
        rw [hi1]
        have hi2 : (0 : Int) < (i : Int) + 1 := by omega
        have EC := Lib.hid eC
        clear eC hi1
        generalize bs (Sy.bks x j) = sv at *
        go_wp2_with fail
        go_round
        case rel => exact ⟨i, j + 1, by rw [← EC.out]; rfl, by go_num, by omega⟩
        case measure => simp [intOf]
      · obtain rfl : i = 0 := by omega
        obtain rfl : j = n := by omega
        have hz2 : ¬ 9223372036854775807 < 1 + (bs (Sy.bks x j)).size := by rw [bs_size, Sy.bks_len]; omega
        generalize bs (Sy.bks x j) = sv at *
        go_upto_region 10 with (go_at_call 35; ((with_reducible refine (CL.out _ QQ.out).mono ?_); rintro e w' ⟨g, off, wc, la, lc, xa, xc, ad, cc, m, rfl, gl, z0, z1, z2, z3, KK, q⟩; replace Hp := Lib.hid (Hp.out.kept q); replace Xp := Lib.hid (Bx.kept Xp.out q); replace QQ := Lib.hid (Qw.trans QQ.out q); have ZZ := Lib.hid (And.intro gl (And.intro z0 (And.intro z1 (And.intro z2 z3)))); have KL := Lib.hid KK; clear gl z0 z1 z2 z3 KK q))
        refine code_of (fun w2 => Hid (Bx w2 P0 #[.int .i64 x.op, .int .i64 x.n, .slice ka x.ks.length kc] 34) ∧ Hid (KidsB w2 (fun _ => True) ka kc x.ks) ∧ Hid (Bx w2 w'.heap.size #[.int .i64 0, .int .i64 0, .bool false, .slice (some ⟨g, off, none⟩) 1 wc, .int .i64 0, .int .i64 0, .slice la 0 lc, .int .i64 0, .int .i64 0, .slice xa 0 xc, .int .i64 0] 36) ∧ Hid (g < w2.heap.size ∧ w2.cell? ⟨g, off, none⟩ = some (.int .i64 88) ∧ w2.cell? ⟨g, off + 1, none⟩ = some (.int .i64 x.op) ∧ w2.cell? ⟨g, off + 2, none⟩ = some (.int .i64 x.n) ∧ w2.cell? ⟨g, off + 3, none⟩ = some (.slice ad x.ks.length cc)) ∧ Hid (KidsB w2 (fun _ => True) ad cc x.ks) ∧ Hid (Qw w w2))
          ⟨Lib.hid (Xp.out.alloc _), Lib.hid ((Hp.out.alloc _).mono fun _ _ => trivial), Lib.hid (Bx.new _ _ _), Lib.hid ⟨Nat.lt_of_lt_of_le ZZ.out.1 (Qw.le (Qw.al (Qw.refl _) _)), (World.cell?_of_block (Below.heap_alloc _ _ _ ZZ.out.1)).trans ZZ.out.2.1, (World.cell?_of_block (Below.heap_alloc _ _ _ ZZ.out.1)).trans ZZ.out.2.2.1, (World.cell?_of_block (Below.heap_alloc _ _ _ ZZ.out.1)).trans ZZ.out.2.2.2.1, (World.cell?_of_block (Below.heap_alloc _ _ _ ZZ.out.1)).trans ZZ.out.2.2.2.2⟩, Lib.hid ((KL.out.alloc _).mono fun _ _ => trivial), Lib.hid (QQ.out.al _)⟩ ?_
        clear Xp Hp QQ ZZ KL CL c0 c1 c2 xl
        generalize w'.heap.size = Q0
        rintro w2 ⟨Xp, Hp, Xq, ZZ, KL, QQ⟩
        have D1 : Hid (∀ p : Kept w2, Calls Tryz.prog 39 #[.agg #[.int .i64 x.op, .int .i64 x.n, .slice ad x.ks.length cc], .agg #[.int .i64 x.op, .int .i64 x.n, .slice ka x.ks.length kc]] p.v fun e w' => e = .returned (.bool true) ∧ Qw p.v w') := Lib.hid fun p => sx_sameExpr x ad ka cc kc _ _ p.v (KL.out.kept p.h) (Hp.out.kept p.h)
        have D2 : Hid (∀ p : Kept w2, Calls Tryz.prog 14 #[] p.v fun e w' => e = .returned (.bool true) ∧ Qw p.v w') := Lib.hid fun p => AW.out p.v (QQ.out.trans p.h)
        have k0 := Xp.out.kcell 0 _ rfl
        have k1 := Xp.out.kcell 1 _ rfl
        have k2 := Xp.out.kcell 2 _ rfl
        have k3 := Xq.out.kcell 3 _ rfl
        have z0 : ∀ p : Kept w2, p.v.cell? ⟨g, off, none⟩ = some (.int .i64 88) := fun p => (World.cell?_of_block (w := w2) (p.h.block _ ZZ.out.1)).trans ZZ.out.2.1
        have z1 : ∀ p : Kept w2, p.v.cell? ⟨g, off + 1, none⟩ = some (.int .i64 x.op) := fun p => (World.cell?_of_block (w := w2) (p.h.block _ ZZ.out.1)).trans ZZ.out.2.2.1
        have z2 : ∀ p : Kept w2, p.v.cell? ⟨g, off + 2, none⟩ = some (.int .i64 x.n) := fun p => (World.cell?_of_block (w := w2) (p.h.block _ ZZ.out.1)).trans ZZ.out.2.2.2.1
        have z3 : ∀ p : Kept w2, p.v.cell? ⟨g, off + 3, none⟩ = some (.slice ad x.ks.length cc) := fun p => (World.cell?_of_block (w := w2) (p.h.block _ ZZ.out.1)).trans ZZ.out.2.2.2.2
        clear Xp Hp Xq ZZ KL
        generalize x.ks.length = kl at *
        generalize x.op = ko at *
        generalize x.n = kn at *
        refine region_kept (by kernel_rfl) (by kernel_rfl) ?_
        repeat (go_big_quiet_step (first | (go_at_call 39; with_reducible exact Kept.call (D1.out _)) | (go_at_call 14; with_reducible exact Kept.call (D2.out _))))
        refine wpQuiet_nil ?_
        intro w3 q
        clear k0 k1 k2 k3 z0 z1 z2 z3 D1 D2
        replace QQ := Lib.hid (QQ.out.trans q)
        go_wp2_with fail
        go_ret
        exact ⟨rfl, QQ.out⟩
  · have d2 : decide (zs.length ≤ 120) = false := decide_eq_false hl
    go_enter Tryz.func12, Tryz.ntmps12
    go_wp2_with (first
    | (go_at_call 13; ((with_reducible refine (lightF _ _ _ _ HV.out).mono ?_); rintro e w' ⟨rfl, rfl⟩))
    | (go_at_call 14; ((with_reducible refine (AW.out _ (Qw.trans QQ.out (by repeat (first | exact Qw.refl _ | refine Qw.al ?_ _ | refine Qw.dr ?_)))).mono ?_); rintro e w' ⟨rfl, q⟩; replace QQ := Lib.hid (Qw.trans (Qw.trans QQ.out (by repeat (first | exact Qw.refl _ | refine Qw.al ?_ _ | refine Qw.dr ?_))) q); clear q)))
    go_ret
    exact ⟨rfl, QQ.out⟩
/-! ### the row and the card -/
theorem reads_syntaxBrackets (os : Os) {H : Type} (enc : TypeId × Value → H) : ∃ places, DataW.whole enc Tryz.prog ((laidWorldS os).forCall (fun _ _ => 0) ⟨#[], #[.slice none 0 0, .int .i64 0], []⟩).memory Tryz.f12.params.toList Rows.syntaxBracketsSpec.vars false #[(.slice none 0 0 : Value), .int .i64 0].toList 8 = some ([.nil, .lit (.int .i64 0)], [], places) :=
  ⟨[], by kernel_rfl⟩
set_option maxRecDepth 100000 in
theorem lifted_syntaxBrackets (os : Os) (started : os.Started) (H : Type) (enc : TypeId × Value → H) (F : Stop.Interp) :
    ReturnsInHanded {} Tryz.checked os 12 .any ((OpenSpec.ofChange Rows.syntaxBracketsSpec).preRow enc Tryz.prog Tryz.f12 Rows.syntaxBracketsRow.domain false Rows.syntaxBracketsRow.laid) (((OpenSpec.ofChange Rows.syntaxBracketsSpec).at F).post enc Tryz.prog Tryz.f12 false true false false) := by
  obtain ⟨places, hx⟩ := reads_syntaxBrackets os enc
  refine returnsInHanded_of_row (C := Tryz.checked) (s := OpenSpec.ofChange Rows.syntaxBracketsSpec) ownS started (by kernel_rfl) Tryz.func12
    (witness_row_at (enc := enc) (C := Tryz.checked) false (laidWorldS os) #[.slice none 0 0, .int .i64 0] rfl (by kernel_rfl) (by kernel_rfl) (by kernel_rfl)
      (OpenSpec.preRow_of_cond 8 hx (by kernel_rfl) (fun k hk => by cases hk) (by kernel_rfl) (laid_metS os _))) ?_
  intro W base args ds gs before hval0 hW _ _ _ hL _ _
  obtain ⟨hb, ht, ho⟩ := tableS hL
  have hval : ∀ (j : Nat) t v, Tryz.f12.params[j]? = some t → args[j]? = some v → Value.okWide Tryz.prog W .any base t v := hval0
  have hW' := hW
  obtain ⟨p, q, hA0, hV, rfl, hfz, hnd⟩ := hW
  have hA : DataW.TrodAll enc Tryz.prog W 0 (fun _ => true) true Tryz.f12.params.toList args.toList ds p := hA0
  rw [Tryz.params12] at hA hval
  obtain ⟨v0, vs0, d0, ds0, p0, q0, hargs, rfl, rfl, h0, r0⟩ := trodAll_cons hA
  obtain ⟨v1, vs1, d1, ds1, p1, q1, rfl, rfl, rfl, h1, r1⟩ := trodAll_cons r0
  obtain ⟨rfl, rfl, rfl⟩ := trodAll_nil r1
  obtain rfl : args = #[v0, v1] := by cases args; simp_all
  obtain ⟨rfl, rfl⟩ := trodVars_none hV
  obtain ⟨u0, hu0⟩ := in_ints (hval 0 22 v0 rfl rfl) h0
  obtain ⟨a1, rfl, rfl, rfl, w1⟩ := open_int Tryz.underlying3 (hval 1 3 v1 rfl rfl) h1
  obtain ⟨x1, y1⟩ := i64_of_wf w1
  clear hA0 hval0 hL
  simp only [List.append_nil] at hW'
  refine (walk_syntaxBrackets v0 u0 a1 x1 y1 W hu0 hb ht ho).mono fun e W' ⟨he, bel⟩ => ?_
  subst he
  exact ⟨_, rfl, _, _, _, [], _, [], hW', trodAll_mk1 (shut_bool Tryz.underlying4 _), (trodAll_cons_mk (out_ints h0 bel (fun x hx => hW'.lt x (by first | exact hx | simp [hx]))) (trodAll_cons_mk (shut_int Tryz.underlying3 w1) trodAll_mk0)), rfl, Below.frame bel _, fun h => by cases h⟩
theorem syntaxBrackets_said : Rows.SyntaxBracketsSaid :=
  OpenClaim.holds_of_cond 12 Tryz.f12 rfl rfl rfl rfl rfl rfl rfl ⟨rfl, rfl, rfl, rfl, rfl⟩ rfl rfl rfl rfl rfl (by kernel_rfl) Tryz.func12 (by kernel_rfl)
    (of_decide_eq_true (by kernel_rfl)) (by unfold Func.isWrapper; first | (rw [if_pos (by decide +kernel)]; kernel_rfl) | (rw [if_neg (by decide +kernel)]; exact ⟨rfl, rfl⟩))
    (fun os started H enc _ F => by rw [OpenClaim.pre_eq_preRow]; exact lifted_syntaxBrackets os started H enc F)
theorem plain_syntaxBrackets (f : FuncId) (fn : Func) (hf : Tryz.pinned.checked.prog.funcNamed "cnc/cnclaw06.SyntaxBrackets" = some f) (hfn : Tryz.pinned.checked.prog.funcs[f]? = some fn) :
    true = Tryz.pinned.checked.prog.looks [] ∧ ∀ (j : Nat) t, fn.params[j]? = some t → Tryz.pinned.checked.prog.wantsStandIn t = false := by
  obtain rfl : f = 12 := Option.some.inj ((show Tryz.prog.funcNamed "cnc/cnclaw06.SyntaxBrackets" = some 12 by kernel_rfl).symm.trans hf) |>.symm
  obtain rfl : fn = Tryz.f12 := (Option.some.inj (Tryz.func12.symm.trans hfn)).symm
  refine ⟨by kernel_rfl, fun j t ht => ?_⟩
  rw [Tryz.params12] at ht
  have hm : t = 22 ∨ t = 3 := by simpa using Array.mem_of_getElem? ht
  rcases hm with rfl | rfl
  · exact (show Tryz.prog.wantsStandIn 22 = false by kernel_rfl)
  · exact (show Tryz.prog.wantsStandIn 3 = false by kernel_rfl)
/-- The statement. -/
theorem syntaxBrackets_card : Rows.SyntaxBracketsCardSaid :=
  Claim7.holds_tied_plain_at .later [] _ _ _ _ syntaxBrackets_said (fun _ h => by cases h) (by kernel_rfl) (fun _ h => by cases h) syntaxBrackets_row_tie rfl ⟨rfl, rfl⟩ (by kernel_rfl) rfl plain_syntaxBrackets (by kernel_rfl)
end Go.Proofs.YthfcimfoinidbaaGreatDoor

