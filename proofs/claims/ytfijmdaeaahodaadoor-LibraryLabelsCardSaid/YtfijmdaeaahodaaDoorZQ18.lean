/- LibraryLabels of layer 9: each label leads to its block, in its own program only.
   Conditions: the listed table lies as the program's own text lays it (the card ties it); every input. -/
import Derived.Test.YtfijmdaeaahodaaDoorZQ0
import Derived.Test.YtfijmdaeaahodaaDoorZQ1
import Derived.Test.YtfijmdaeaahodaaDoorZQ17
import Derived.BigQuiet
import Derived.Deep.Cut

set_option linter.unusedVariables false
set_option linter.unusedSimpArgs false
namespace Go.Proofs.YtfijmdaeaahodaaDoor
open Go.ChangeShapes Go.WideShapes Go.ChangeAt Go.RowKit
set_option maxRecDepth 100000 in
set_option maxHeartbeats 4000000 in
theorem walk_libraryLabels (v0 : Value) (z0 : List Int) (w : World) (hv0 : IntsB w.heap.size w v0 z0) (ht : Ow w) :
    Calls Tryd.prog 9 #[v0] w fun e w' => e = .returned (.bool true) ∧ Qw w w' := by
  have HV0 := Lib.hid hv0
  have HT := Lib.hid ht
  have QQ := Lib.hid (Qw.refl w)
  clear hv0 ht
  by_cases l0 : z0.length ≤ 120
  · have d0 : decide (z0.length ≤ 120) = true := decide_eq_true l0
    go_enter Tryd.func9, Tryd.ntmps9
    go_upto_region 4 with (first
      | (go_at_call 13; ((with_reducible refine (lightF _ _ _ _ HV0.out).mono ?_); rintro e w' ⟨rfl, rfl⟩))
      | (go_at_call 17; refine (newX w _ HV0.out QQ.out).mono ?_; intro e w2 hn; obtain ⟨B, rfl, hB, tp, q2⟩ := hn.open_; have TP := Lib.hid (And.intro hB (And.intro tp q2)); clear hn hB tp q2)
      | (go_at_call 18; refine (flowX w _ TP.out.1 TP.out.2.1 TP.out.2.2).mono ?_; intro e w3 hf; obtain ⟨a, cap, l, s, rfl, h40, hbk, hbd, hfl, hfw, q3⟩ := hf.open_; have HF := Lib.hid (And.intro h40 (And.intro hbd (And.intro hfl hfw))); have HB := Lib.hid hbk; have Q3 := Lib.hid q3; clear hf h40 hbk hbd hfl hfw q3 TP)
      | (go_at_call 20; refine (build_ok HF.out.2.1 a cap _ _ (HT.out.kept Q3.out) HB.out).mono ?_; intro e w4 hb; obtain ⟨ba, bc, pa, pc, ma, mc, rfl, hx, q4⟩ := hb.open_; have HX := Lib.hid hx.any; have Q4 := Lib.hid (Qw.trans Q3.out q4); clear hb hx q4 Q3 HB))
    refine code_of (fun wx => Lw w w4.heap.size ba bc pa pc ma mc l s wx) ⟨Bx.new _ _ _, HX.out.kept (Qw.al (Qw.refl _) _), Qw.al Q4.out _⟩ ?_
    intro wL hL
    obtain ⟨h40, hbd, ⟨lab, hfl⟩, hfw⟩ := HF.out
    obtain ⟨hpl, hnum, hly, hsi, hat⟩ := Lb.fl_three hfl
    have hinc := hfl.inc
    have hval := hfl.vld
    clear HX Q4 HF hfw hbd
    generalize w4.heap.size = R at *
    have HL := Lib.hid hL
    have AW := Lib.hid (fun w1 (q : Qw w w1) => awake9 w1 (HT.out.kept q))
    have of_ := fun (n : Int) w1 (h : LibX w1 (fun _ => True) 0 ba bc pa pc ma mc l s) => lf_of h (by omega) n
    have la := fun (p : Nat) (hp : p < s.pg.length) (lab : Int) (hlab : 1 ≤ lab) w1 (h : LibX w1 (fun _ => True) 0 ba bc pa pc ma mc l s) => lf_label h (by omega) (by omega) (by rw [← hsi]; exact hly) p hp lab hlab
    have l0c := fun w1 (h : LibX w1 (fun _ => True) 0 ba bc pa pc ma mc l s) => lf_label0 h
    have ce := fun wx (h : Lw w R ba bc pa pc ma mc l s wx) => h.cells
    have plain := Lb.lab_case hfl
    have lpos : ∀ k, k < l.length → Lb.lbL l k ≠ 0 → 1 ≤ Lb.lbL l k := fun k hk h0 => by
      have := (Lb.vld_all (hval _ (List.getElem_mem hk))).2.1
      unfold Lb.lbL at h0 ⊢
      rw [List.getElem?_eq_getElem hk] at h0 ⊢
      dsimp only at h0 ⊢
      omega
    rw [hsi] at hly
    have LA := Lib.hid la
    simp only [hpl] at of_ ce l0c
    have OF := Lib.hid of_
    have L0 := Lib.hid l0c
    have CE := Lib.hid ce
    have PLN := Lib.hid plain
    have LPOS := Lib.hid lpos
    obtain ⟨c0, c1, c2, cR⟩ := CE.out _ hL
    have PL : Hid (s.pg.length = 3) := Lib.hid hpl
    clear of_ la l0c ce hL hpl hnum hly hsi hat hinc hval plain lpos hfl
    go_wp2_with (go_at_call 14; ((with_reducible refine (AW.out _ HL.out.Q).mono ?_); rintro e w' ⟨rfl, q⟩; replace HL := Lib.hid (HL.out.kept q); clear q; obtain ⟨d0', c1', d2', dR'⟩ := CE.out _ HL.out))
    clear c0 c1 c2 cR
    go_loopw [6] (fun iv wr => ∃ i : Nat, i ≤ l.length ∧ iv = .int .i64 (i : Int) ∧ Hid (Lw w R ba bc pa pc ma mc l s wr)) (fun iv _ => l.length - (intOf iv).toNat)
    case atStart => exact ⟨0, by omega, rfl, HL⟩
    case round =>
      clear HL d0' c1' d2' dR'
      obtain ⟨i, hi, rfl, HL⟩ := hrel
      obtain ⟨c0, c1, c2, cR⟩ := CE.out _ HL.out
      have hRn : R ≠ wr.heap.size := by omega
      have h63 : (i : Int) ≤ 9223372036854775806 := by omega
      by_cases hlt : i < l.length
      · obtain ⟨gb, off, hba, gbl, cl⟩ := HL.out.L.lab hlt
        subst hba
        have hlt' : (i : Int) < (l.length : Int) := by omega
        by_cases h0 : Lb.lbL l i = 0
        · rw [h0] at cl
          go_wp2
          go_roundw
          case measure => simp [intOf]; omega
          case rel => exact ⟨i + 1, by omega, by go_num, HL⟩
        · have h1 := LPOS.out i hlt h0
          have h0' : ¬ (Lb.lbL l i = 0) := h0
          obtain ⟨j, hj3, hof, hla⟩ := PLN.out i hlt h0
          generalize hlg : Lb.lbL l i = lab at *
          have HLG := Lib.hid hlg
          clear hlg
          have hl0b : (lab == 0) = false := beq_eq_false_iff_ne.2 h0
          have ofi := OF.out (i : Int)
          rw [hof, show ofV (some j) = .int .i64 (j : Int) from rfl] at ofi
          have OFi := Lib.hid ofi
          have HLA := Lib.hid hla
          clear ofi hof hla
          go_wp2
          go_loopw [7] (fun pv wq => ∃ p : Nat, p ≤ 3 ∧ pv = .int .i64 (p : Int) ∧ Hid (Lw w R (some ⟨gb, off, none⟩) bc pa pc ma mc l s wq)) (fun pv _ => 3 - (intOf pv).toNat)
          case atStart => exact ⟨0, by omega, rfl, HL⟩
          case round =>
            clear HL c0 c1 c2 cR
            obtain ⟨p, hp, rfl, HL⟩ := hrel
            obtain ⟨c0, c1, c2, cR⟩ := CE.out _ HL.out
            have h63p : (p : Int) ≤ 9223372036854775806 := by omega
            by_cases hp3 : p < 3
            · have hp3' : (p : Int) < 3 := by omega
              have hpl' : p < s.pg.length := by rw [PL.out]; exact hp3
              have lac := LA.out p hpl' lab h1
              rw [HLA.out p hpl'] at lac
              have ple := PL.out
              simp only [ple] at lac
              clear ple
              by_cases hpj : p = j
              · subst hpj
                rw [if_pos rfl, show fdV (some i) = .tuple #[.int .i64 (i : Int), .bool true] from rfl] at lac
                have eqb : ((p : Int) == (p : Int)) = true := by simp
                have kc0 : ∀ q : Kept wr, q.v.cell? ⟨R, 0, none⟩ = some (.slice (some ⟨gb, off, none⟩) l.length bc) := fun q => (CE.out _ (HL.out.kept q.h)).1
                have kc1 : ∀ q : Kept wr, q.v.cell? ⟨R, 1, none⟩ = some (.slice pa 3 pc) := fun q => (CE.out _ (HL.out.kept q.h)).2.1
                have kc2 : ∀ q : Kept wr, q.v.cell? ⟨R, 2, none⟩ = some (.slice ma s.mate.length mc) := fun q => (CE.out _ (HL.out.kept q.h)).2.2.1
                have kcl : ∀ q : Kept wr, q.v.cell? ⟨gb, off + i * 11 + 1, none⟩ = some (.int .i64 lab) := fun q => by
                  obtain ⟨gb', off', e', _, cl'⟩ := (HL.out.kept q.h).L.lab hlt
                  obtain ⟨rfl, rfl⟩ : gb = gb' ∧ off = off' := by simpa using e'
                  rw [HLG.out] at cl'
                  exact cl'
                have D1 := Lib.hid fun q : Kept wr => lac q.v (HL.out.kept q.h).L
                clear lac
                go_wp2
                clear c0 c1 c2 cR
                refine region_kept (by kernel_rfl) (by kernel_rfl) ?_
                repeat (go_big_quiet_step (first | (go_at_call 25; with_reducible exact Kept.call (D1.out _))))
                refine wpQuiet_nil ?_
                intro w2 q2
                have HL2 := Lib.hid (HL.out.kept q2)
                obtain ⟨c0, c1, c2, cR⟩ := CE.out _ HL2.out
                clear kc0 kc1 kc2 kcl D1 q2
                go_wp2_with (go_at_call 27; ((with_reducible refine (OFi.out _ HL2.out.L).mono ?_); rintro e w'' ⟨rfl, q⟩; have HL3 := Lib.hid (HL2.out.kept q); clear q))
                go_roundw
                case measure => simp [intOf]; omega
                case rel => exact ⟨p + 1, by omega, by go_num, HL3⟩
              · rw [if_neg hpj, show fdV none = .tuple #[.int .i64 0, .bool false] from rfl] at lac
                have eqb : ((p : Int) == (j : Int)) = false := beq_eq_false_iff_ne.2 (by omega)
                have kc0 : ∀ q : Kept wr, q.v.cell? ⟨R, 0, none⟩ = some (.slice (some ⟨gb, off, none⟩) l.length bc) := fun q => (CE.out _ (HL.out.kept q.h)).1
                have kc1 : ∀ q : Kept wr, q.v.cell? ⟨R, 1, none⟩ = some (.slice pa 3 pc) := fun q => (CE.out _ (HL.out.kept q.h)).2.1
                have kc2 : ∀ q : Kept wr, q.v.cell? ⟨R, 2, none⟩ = some (.slice ma s.mate.length mc) := fun q => (CE.out _ (HL.out.kept q.h)).2.2.1
                have kcl : ∀ q : Kept wr, q.v.cell? ⟨gb, off + i * 11 + 1, none⟩ = some (.int .i64 lab) := fun q => by
                  obtain ⟨gb', off', e', _, cl'⟩ := (HL.out.kept q.h).L.lab hlt
                  obtain ⟨rfl, rfl⟩ : gb = gb' ∧ off = off' := by simpa using e'
                  rw [HLG.out] at cl'
                  exact cl'
                have D1 := Lib.hid fun q : Kept wr => lac q.v (HL.out.kept q.h).L
                clear lac
                go_wp2
                clear c0 c1 c2 cR
                refine region_kept (by kernel_rfl) (by kernel_rfl) ?_
                repeat (go_big_quiet_step (first | (go_at_call 25; with_reducible exact Kept.call (D1.out _))))
                refine wpQuiet_nil ?_
                intro w2 q2
                have HL2 := Lib.hid (HL.out.kept q2)
                obtain ⟨c0, c1, c2, cR⟩ := CE.out _ HL2.out
                clear kc0 kc1 kc2 kcl D1 q2
                go_wp2_with (go_at_call 27; ((with_reducible refine (OFi.out _ HL2.out.L).mono ?_); rintro e w'' ⟨rfl, q⟩; have HL3 := Lib.hid (HL2.out.kept q); clear q))
                go_roundw
                case measure => simp [intOf]; omega
                case rel => exact ⟨p + 1, by omega, by go_num, HL3⟩
            · obtain rfl : p = 3 := by omega
              go_wp2
              go_roundw
              case measure => simp [intOf]; omega
              case rel => exact ⟨i + 1, by omega, by go_num, HL⟩
      · obtain rfl : i = l.length := by omega
        have hb : ¬ (l.length : Int) < (l.length : Int) := by omega
        go_wp2_with (go_at_call 25; ((with_reducible refine (L0.out _ HL.out.L).mono ?_); rintro e w' ⟨rfl, q⟩; replace HL := Lib.hid (HL.out.kept q); clear q))
        go_ret
        exact ⟨rfl, HL.out.Q⟩
  · have d0 : decide (z0.length ≤ 120) = false := decide_eq_false l0
    have AW := Lib.hid (awake9 w HT.out)
    go_enter Tryd.func9, Tryd.ntmps9
    go_wp2_with (first
      | (go_at_call 13; ((with_reducible refine (lightF _ _ _ _ HV0.out).mono ?_); rintro e w' ⟨rfl, rfl⟩))
      | (go_at_call 14; ((with_reducible refine AW.out.mono ?_); rintro e w' ⟨rfl, q⟩)))
    go_ret
    exact ⟨rfl, q⟩
/-! ### the row and the card -/
theorem reads_libraryLabels (os : Os) {H : Type} (enc : TypeId × Value → H) : ∃ places, DataW.whole enc Tryd.prog ((laidWorldO os).forCall (fun _ _ => 0) ⟨#[], #[.slice none 0 0], []⟩).memory Tryd.f9.params.toList Rows.libraryLabelsSpec.vars false #[(.slice none 0 0 : Value)].toList 8 = some ([.nil], [], places) :=
  ⟨[], by kernel_rfl⟩
set_option maxRecDepth 100000 in
theorem lifted_libraryLabels (os : Os) (started : os.Started) (H : Type) (enc : TypeId × Value → H) (F : Stop.Interp) :
    ReturnsInHanded {} Tryd.checked os 9 .any ((OpenSpec.ofChange Rows.libraryLabelsSpec).preRow enc Tryd.prog Tryd.f9 Rows.libraryLabelsRow.domain false Rows.libraryLabelsRow.laid) (((OpenSpec.ofChange Rows.libraryLabelsSpec).at F).post enc Tryd.prog Tryd.f9 false true false false) := by
  obtain ⟨places, hx⟩ := reads_libraryLabels os enc
  refine returnsInHanded_of_row (C := Tryd.checked) (s := OpenSpec.ofChange Rows.libraryLabelsSpec) ownO started (by kernel_rfl) Tryd.func9
    (witness_row_at (enc := enc) (C := Tryd.checked) false (laidWorldO os) #[.slice none 0 0] rfl (by kernel_rfl) (by kernel_rfl) (by kernel_rfl)
      (OpenSpec.preRow_of_cond 8 hx (by kernel_rfl) (fun k hk => by cases hk) (by kernel_rfl) (laid_metO os _))) ?_
  intro W base args ds gs before hval0 hW _ _ _ hL _ _
  have ht : Ow W := tableO hL
  have hval : ∀ (j : Nat) t v, Tryd.f9.params[j]? = some t → args[j]? = some v → Value.okWide Tryd.prog W .any base t v := hval0
  have hW' := hW
  obtain ⟨p, q, hA0, hV, rfl, hfz, hnd⟩ := hW
  have hA : DataW.TrodAll enc Tryd.prog W 0 (fun _ => true) true Tryd.f9.params.toList args.toList ds p := hA0
  rw [Tryd.params9] at hA hval
  obtain ⟨v0, vs0, d0, ds0, p0, q0, hargs, rfl, rfl, h0, r0⟩ := trodAll_cons hA
  obtain ⟨rfl, rfl, rfl⟩ := trodAll_nil r0
  obtain rfl : args = #[v0] := by cases args; simp_all
  obtain ⟨rfl, rfl⟩ := trodVars_none hV
  obtain ⟨u0, hu0⟩ := in_ints (hval 0 23 v0 rfl rfl) h0
  clear hA0 hval0 hL
  simp only [List.append_nil] at hW'
  refine (walk_libraryLabels v0 u0 W hu0 ht).mono fun e W' ⟨he, bel⟩ => ?_
  subst he
  exact ⟨_, rfl, _, _, _, [], _, [], hW', trodAll_mk1 (shut_bool Tryd.underlying4 _), (trodAll_cons_mk (out_ints h0 bel (fun x hx => hW'.lt x (by first | exact hx | simp [hx]))) trodAll_mk0), rfl, Below.frame bel _, fun h => by cases h⟩
theorem libraryLabels_said : Rows.LibraryLabelsSaid :=
  OpenClaim.holds_of_cond 9 Tryd.f9 rfl rfl rfl rfl rfl rfl rfl ⟨rfl, rfl, rfl, rfl, rfl⟩ rfl rfl rfl rfl rfl (by kernel_rfl) Tryd.func9 (by kernel_rfl)
    (of_decide_eq_true (by kernel_rfl)) (by unfold Func.isWrapper; first | (rw [if_pos (by decide +kernel)]; kernel_rfl) | (rw [if_neg (by decide +kernel)]; exact ⟨rfl, rfl⟩))
    (fun os started H enc _ F => by rw [OpenClaim.pre_eq_preRow]; exact lifted_libraryLabels os started H enc F)
theorem plain_libraryLabels (f : FuncId) (fn : Func) (hf : Tryd.pinned.checked.prog.funcNamed "cnc/cnclaw09.LibraryLabels" = some f) (hfn : Tryd.pinned.checked.prog.funcs[f]? = some fn) :
    false = Tryd.pinned.checked.prog.looks [] ∧ ∀ (j : Nat) t, fn.params[j]? = some t → Tryd.pinned.checked.prog.wantsStandIn t = false := by
  obtain rfl : f = 9 := Option.some.inj ((show Tryd.prog.funcNamed "cnc/cnclaw09.LibraryLabels" = some 9 by kernel_rfl).symm.trans hf) |>.symm
  obtain rfl : fn = Tryd.f9 := (Option.some.inj (Tryd.func9.symm.trans hfn)).symm
  refine ⟨by kernel_rfl, fun j t ht => ?_⟩
  rw [Tryd.params9] at ht
  obtain rfl : t = 23 := by simpa using Array.mem_of_getElem? ht
  exact (show Tryd.prog.wantsStandIn 23 = false by kernel_rfl)
/-- The statement. -/
theorem libraryLabels_card : Rows.LibraryLabelsCardSaid :=
  Claim7.holds_tied_plain_at .later [] _ _ _ _ libraryLabels_said (fun _ h => by cases h) (by kernel_rfl) (fun _ h => by cases h) libraryLabels_row_tie rfl ⟨rfl, rfl⟩ (by kernel_rfl) rfl plain_libraryLabels (by kernel_rfl)
end Go.Proofs.YtfijmdaeaahodaaDoor

