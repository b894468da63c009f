/- LibraryPrograms of layer 9: the programs divide the blocks, in order and with different numbers, and each is found.
   Conditions: the listed table lies as the program's own text lays it (the card ties it); every input. -/
import Derived.Test.YtfijmdaeaahodaaDoorZP0
import Derived.Test.YtfijmdaeaahodaaDoorZP16
import Derived.Deep.Cut

set_option linter.unusedVariables false
set_option linter.unusedSimpArgs false
namespace Go.Proofs.YtfijmdaeaahodaaDoor
open Go.ChangeShapes Go.WideShapes Go.ChangeAt Go.RowKit
set_option maxRecDepth 100000 in
set_option maxHeartbeats 4000000 in
theorem walk_libraryPrograms (v0 : Value) (z0 : List Int) (w : World) (hv0 : IntsB w.heap.size w v0 z0) (ht : Ow w) :
    Calls Tryd.prog 8 #[v0] w fun e w' => e = .returned (.bool true) ∧ Qw w w' := by
  have HV0 := Lib.hid hv0
  have HT := Lib.hid ht
  have QQ := Lib.hid (Qw.refl w)
  clear hv0 ht
  by_cases l0 : z0.length ≤ 120
  · have d0 : decide (z0.length ≤ 120) = true := decide_eq_true l0
    go_enter Tryd.func8, Tryd.ntmps8
    go_upto_region 4 with (first
      | (go_at_call 13; ((with_reducible refine (lightF _ _ _ _ HV0.out).mono ?_); rintro e w' ⟨rfl, rfl⟩))
      | (go_at_call 17; refine (newX w _ HV0.out QQ.out).mono ?_; intro e w2 hn; obtain ⟨B, rfl, hB, tp, q2⟩ := hn.open_; have TP := Lib.hid (And.intro hB (And.intro tp q2)); clear hn hB tp q2)
      | (go_at_call 18; refine (flowX w _ TP.out.1 TP.out.2.1 TP.out.2.2).mono ?_; intro e w3 hf; obtain ⟨a, cap, l, s, rfl, h40, hbk, hbd, hfl, hfw, q3⟩ := hf.open_; have HF := Lib.hid (And.intro h40 (And.intro hbd (And.intro hfl hfw))); have HB := Lib.hid hbk; have Q3 := Lib.hid q3; clear hf h40 hbk hbd hfl hfw q3 TP)
      | (go_at_call 20; refine (build_ok HF.out.2.1 a cap _ _ (HT.out.kept Q3.out) HB.out).mono ?_; intro e w4 hb; obtain ⟨ba, bc, pa, pc, ma, mc, rfl, hx, q4⟩ := hb.open_; have HX := Lib.hid hx.any; have Q4 := Lib.hid (Qw.trans Q3.out q4); clear hb hx q4 Q3 HB))
    refine code_of (fun wx => Lw w w4.heap.size ba bc pa pc ma mc l s wx) ⟨Bx.new _ _ _, HX.out.kept (Qw.al (Qw.refl _) _), Qw.al Q4.out _⟩ ?_
    intro wL hL
    obtain ⟨h40, hbd, ⟨lab, hfl⟩, hfw⟩ := HF.out
    obtain ⟨hpl, hnum, hly, hsi, hat⟩ := Lb.fl_three hfl
    have hnm := hfl.nm
    clear HX Q4 HF hfl hfw hbd
    generalize w4.heap.size = R at *
    have HL := Lib.hid hL
    have AW := Lib.hid (fun w1 (q : Qw w w1) => awake9 w1 (HT.out.kept q))
    have fi := fun (n : Int) w1 (h : LibX w1 (fun _ => True) 0 ba bc pa pc ma mc l s) => lf_find h (by omega) n
    have of_ := fun (n : Int) w1 (h : LibX w1 (fun _ => True) 0 ba bc pa pc ma mc l s) => lf_of h (by omega) n
    have ce := fun wx (h : Lw w R ba bc pa pc ma mc l s wx) => h.cells
    simp only [hpl] at fi of_ ce
    have FI := Lib.hid fi
    have OF := Lib.hid of_
    have CE := Lib.hid ce
    obtain ⟨c0, c1, c2, cR⟩ := CE.out _ hL
    have PL : Hid (s.pg.length = 3) := Lib.hid hpl
    have NUM := Lib.hid hnum
    have NM := Lib.hid hnm
    have LY := Lib.hid hly
    have SI := Lib.hid hsi
    have AT := Lib.hid hat
    clear fi of_ ce hL hpl hnum hnm hly hsi hat
    go_wp2_with (go_at_call 14; ((with_reducible refine (AW.out _ HL.out.Q).mono ?_); rintro e w' ⟨rfl, q⟩; replace HL := Lib.hid (HL.out.kept q); clear q; obtain ⟨d0', c1', d2', dR'⟩ := CE.out _ HL.out))
    clear c0 c1 c2 cR
    go_loopw [6, 7] (fun av iv wr => ∃ i : Nat, i ≤ 3 ∧ av = .int .i64 ((Lb.atP s.pg i : Nat) : Int) ∧ iv = .int .i64 (i : Int) ∧ Hid (Lw w R ba bc pa pc ma mc l s wr)) (fun _ iv _ => 3 - (intOf iv).toNat)
    case atStart => exact ⟨0, by omega, rfl, rfl, HL⟩
    case round =>
      clear HL d0' c1' d2' dR'
      obtain ⟨i, hi, rfl, rfl, HL⟩ := hrel
      obtain ⟨c0, c1, c2, cR⟩ := CE.out _ HL.out
      have hRn : R ≠ wr.heap.size := by omega
      have h63 : (i : Int) ≤ 9223372036854775806 := by omega
      by_cases hlt : i < 3
      · have hip : i < s.pg.length := by rw [PL.out]; exact hlt
        obtain ⟨g, rfl, gl, p0, p1, p2⟩ := HL.out.L.prog hip
        have gn : g ≠ wr.heap.size := by omega
        have hlt' : (i : Int) < 3 := by omega
        have f1 := Lb.atP_first LY.out hip
        have f2 := Lb.atP_succ s.pg hip
        have f3 := (Lb.lay_at LY.out i hip).2.1
        have f4 : Lb.atP s.pg (i + 1) ≤ 40 := by have := (Lb.lay_at LY.out i hip).2.2; have := SI.out; omega
        have HOF := Lib.hid (fun (k : Nat) (h1 : Lb.atP s.pg i ≤ k) (h2 : k < Lb.atP s.pg (i + 1)) => Lb.ofp_at LY.out 0 i hip k (by rw [f1]; exact h1) (by rw [← f2]; exact h2))
        have HFD : Hid (Lb.fnd s.pg (i : Int) 0 = some i) := Lib.hid (by
          have := Lb.fnd_nums s.pg 0 3 (by rw [NM.out]; unfold Lb.nums; simp) i hlt
          simpa using this)
        rw [NUM.out i hip] at p0
        rw [f1] at p1 f3
        rw [← f2] at p2 f3
        have FIi := Lib.hid (FI.out (i : Int))
        rw [HFD.out, show fdV (some i) = .tuple #[.int .i64 (i : Int), .bool true] from rfl] at FIi
        have X8 := Bx.new wr #[.int .i64 (i : Int), .int .i64 ((Lb.atP s.pg i : Nat) : Int), .int .i64 ((Lb.atP s.pg (i + 1) : Nat) : Int)] 56
        have HL8 := HL.out.kept (Qw.al (Qw.refl wr) (.cells #[.int .i64 (i : Int), .int .i64 ((Lb.atP s.pg i : Nat) : Int), .int .i64 ((Lb.atP s.pg (i + 1) : Nat) : Int)] 56))
        clear HFD f1 f2
        generalize Lb.atP s.pg i = a0 at *
        generalize hae : Lb.atP s.pg (i + 1) = a1 at *
        have HAE := Lib.hid hae
        clear hae
        have f3' : ¬ ((a1 : Int) < (a0 : Int)) := by omega
        have f3n : ¬ (a1 < a0) := by omega
        have f3d : decide (a1 < a0) = false := decide_eq_false f3n
        go_wp2_with (go_at_call 23; ((with_reducible refine (FIi.out _ HL8.L).mono ?_); rintro e w' ⟨rfl, q⟩; have HLn := Lib.hid (HL8.kept q); have X8n := Lib.hid (X8.kept q); clear q; have y0 := X8n.out.cell' 0 (.int .i64 (i : Int)) rfl; have y1 := X8n.out.cell' 1 (.int .i64 ((a0 : Nat) : Int)) rfl; have y2 := X8n.out.cell' 2 (.int .i64 ((a1 : Nat) : Int)) rfl))
        clear y0 y1 y2 FIi p0 p1 p2 X8 HL8 c0 c1 c2 cR
        go_loopw [6] (fun av wq => ∃ k : Nat, a0 ≤ k ∧ k ≤ a1 ∧ av = .int .i64 (k : Int) ∧ Hid (Lw w R ba bc (some ⟨g, 0, none⟩) pc ma mc l s wq) ∧ Hid (Bx wq wr.heap.size #[.int .i64 (i : Int), .int .i64 ((a0 : Nat) : Int), .int .i64 ((a1 : Nat) : Int)] 56)) (fun av _ => a1 - (intOf av).toNat)
        case atStart => exact ⟨a0, by omega, by omega, rfl, HLn, X8n⟩
        case round =>
          obtain ⟨k, hk0, hk1, rfl, HL2, X2⟩ := hrel
          obtain ⟨c0, c1, c2, cR⟩ := CE.out _ HL2.out
          have y2 := X2.out.cell' 2 (.int .i64 ((a1 : Nat) : Int)) rfl
          have h63k : (k : Int) ≤ 9223372036854775806 := by omega
          by_cases hk : k < a1
          · have hk' : (k : Int) < (a1 : Int) := by omega
            have ofk := OF.out (k : Int)
            rw [HOF.out k hk0 hk, Nat.zero_add, show ofV (some i) = .int .i64 (i : Int) from rfl] at ofk
            have OFk := Lib.hid ofk
            clear ofk
            go_wp2_with (go_at_call 27; ((with_reducible refine (OFk.out _ HL2.out.L).mono ?_); rintro e w'' ⟨rfl, q⟩; have HL3 := Lib.hid (HL2.out.kept q); have X3 := Lib.hid (X2.out.kept q); clear q))
            go_roundw
            case measure => simp [intOf]; omega
            case rel => exact ⟨k + 1, by omega, by omega, by go_num, HL3, X3⟩
          · obtain rfl : k = a1 := by omega
            have hk' : ¬ (k : Int) < (k : Int) := by omega
            go_wp2
            go_roundw
            case measure => simp [intOf]; omega
            case rel => exact ⟨i + 1, by omega, by rw [HAE.out], by go_num, HL2⟩
      · obtain rfl : i = 3 := by omega
        have ate := AT.out
        rw [ate]
        have FI77 := Lib.hid (FI.out 77)
        have hn77 : Lb.fnd s.pg 77 0 = none := Lb.fnd_none _ _ _ (fun p hp e => by
          obtain ⟨j, hj, rfl⟩ := List.mem_iff_getElem.1 hp
          rw [NUM.out j hj] at e
          have := PL.out
          omega)
        rw [hn77, show fdV none = .tuple #[.int .i64 0, .bool false] from rfl] at FI77
        have ofn := OF.out (l.length : Nat)
        have ofm := OF.out (-1)
        rw [Lb.ofp_none LY.out _ 0 (.inr (by have := SI.out; omega)), show ofV none = .int .i64 (-1) from rfl] at ofn
        rw [Lb.ofp_none LY.out _ 0 (.inl (by omega)), show ofV none = .int .i64 (-1) from rfl] at ofm
        have ON := Lib.hid ofn
        have OM := Lib.hid ofm
        clear hn77 ofn ofm ate
        go_wp2_with (first
          | (go_at_call 23; ((with_reducible refine (FI77.out _ HL.out.L).mono ?_); rintro e w' ⟨rfl, q⟩; replace HL := Lib.hid (HL.out.kept q); clear q; obtain ⟨b0, b1, b2, bR⟩ := CE.out _ HL.out))
          | (go_at_call 27; ((with_reducible refine (ON.out _ HL.out.L).mono ?_); rintro e w' ⟨rfl, q⟩; replace HL := Lib.hid (HL.out.kept q); clear q; obtain ⟨d0, d1, d2, dR⟩ := CE.out _ HL.out))
          | (go_at_call 27; ((with_reducible refine (OM.out _ HL.out.L).mono ?_); rintro e w' ⟨rfl, q⟩; replace HL := Lib.hid (HL.out.kept q); clear q; obtain ⟨d0, d1, d2, dR⟩ := CE.out _ HL.out)))
        go_ret
        exact ⟨rfl, HL.out.Q⟩
  · have d0 : decide (z0.length ≤ 120) = false := decide_eq_false l0
    have AW := Lib.hid (awake9 w HT.out)
    go_enter Tryd.func8, Tryd.ntmps8
    go_wp2_with (first
      | (go_at_call 13; ((with_reducible refine (lightF _ _ _ _ HV0.out).mono ?_); rintro e w' ⟨rfl, rfl⟩))
      | (go_at_call 14; ((with_reducible refine AW.out.mono ?_); rintro e w' ⟨rfl, q⟩)))
    go_ret
    exact ⟨rfl, q⟩
/-! ### the row and the card -/
theorem reads_libraryPrograms (os : Os) {H : Type} (enc : TypeId × Value → H) : ∃ places, DataW.whole enc Tryd.prog ((laidWorldO os).forCall (fun _ _ => 0) ⟨#[], #[.slice none 0 0], []⟩).memory Tryd.f8.params.toList Rows.libraryProgramsSpec.vars false #[(.slice none 0 0 : Value)].toList 8 = some ([.nil], [], places) :=
  ⟨[], by kernel_rfl⟩
set_option maxRecDepth 100000 in
theorem lifted_libraryPrograms (os : Os) (started : os.Started) (H : Type) (enc : TypeId × Value → H) (F : Stop.Interp) :
    ReturnsInHanded {} Tryd.checked os 8 .any ((OpenSpec.ofChange Rows.libraryProgramsSpec).preRow enc Tryd.prog Tryd.f8 Rows.libraryProgramsRow.domain false Rows.libraryProgramsRow.laid) (((OpenSpec.ofChange Rows.libraryProgramsSpec).at F).post enc Tryd.prog Tryd.f8 false true false false) := by
  obtain ⟨places, hx⟩ := reads_libraryPrograms os enc
  refine returnsInHanded_of_row (C := Tryd.checked) (s := OpenSpec.ofChange Rows.libraryProgramsSpec) ownO started (by kernel_rfl) Tryd.func8
    (witness_row_at (enc := enc) (C := Tryd.checked) false (laidWorldO os) #[.slice none 0 0] rfl (by kernel_rfl) (by kernel_rfl) (by kernel_rfl)
      (OpenSpec.preRow_of_cond 8 hx (by kernel_rfl) (fun k hk => by cases hk) (by kernel_rfl) (laid_metO os _))) ?_
  intro W base args ds gs before hval0 hW _ _ _ hL _ _
  have ht : Ow W := tableO hL
  have hval : ∀ (j : Nat) t v, Tryd.f8.params[j]? = some t → args[j]? = some v → Value.okWide Tryd.prog W .any base t v := hval0
  have hW' := hW
  obtain ⟨p, q, hA0, hV, rfl, hfz, hnd⟩ := hW
  have hA : DataW.TrodAll enc Tryd.prog W 0 (fun _ => true) true Tryd.f8.params.toList args.toList ds p := hA0
  rw [Tryd.params8] at hA hval
  obtain ⟨v0, vs0, d0, ds0, p0, q0, hargs, rfl, rfl, h0, r0⟩ := trodAll_cons hA
  obtain ⟨rfl, rfl, rfl⟩ := trodAll_nil r0
  obtain rfl : args = #[v0] := by cases args; simp_all
  obtain ⟨rfl, rfl⟩ := trodVars_none hV
  obtain ⟨u0, hu0⟩ := in_ints (hval 0 23 v0 rfl rfl) h0
  clear hA0 hval0 hL
  simp only [List.append_nil] at hW'
  refine (walk_libraryPrograms v0 u0 W hu0 ht).mono fun e W' ⟨he, bel⟩ => ?_
  subst he
  exact ⟨_, rfl, _, _, _, [], _, [], hW', trodAll_mk1 (shut_bool Tryd.underlying4 _), (trodAll_cons_mk (out_ints h0 bel (fun x hx => hW'.lt x (by first | exact hx | simp [hx]))) trodAll_mk0), rfl, Below.frame bel _, fun h => by cases h⟩
theorem libraryPrograms_said : Rows.LibraryProgramsSaid :=
  OpenClaim.holds_of_cond 8 Tryd.f8 rfl rfl rfl rfl rfl rfl rfl ⟨rfl, rfl, rfl, rfl, rfl⟩ rfl rfl rfl rfl rfl (by kernel_rfl) Tryd.func8 (by kernel_rfl)
    (of_decide_eq_true (by kernel_rfl)) (by unfold Func.isWrapper; first | (rw [if_pos (by decide +kernel)]; kernel_rfl) | (rw [if_neg (by decide +kernel)]; exact ⟨rfl, rfl⟩))
    (fun os started H enc _ F => by rw [OpenClaim.pre_eq_preRow]; exact lifted_libraryPrograms os started H enc F)
theorem plain_libraryPrograms (f : FuncId) (fn : Func) (hf : Tryd.pinned.checked.prog.funcNamed "cnc/cnclaw09.LibraryPrograms" = some f) (hfn : Tryd.pinned.checked.prog.funcs[f]? = some fn) :
    false = Tryd.pinned.checked.prog.looks [] ∧ ∀ (j : Nat) t, fn.params[j]? = some t → Tryd.pinned.checked.prog.wantsStandIn t = false := by
  obtain rfl : f = 8 := Option.some.inj ((show Tryd.prog.funcNamed "cnc/cnclaw09.LibraryPrograms" = some 8 by kernel_rfl).symm.trans hf) |>.symm
  obtain rfl : fn = Tryd.f8 := (Option.some.inj (Tryd.func8.symm.trans hfn)).symm
  refine ⟨by kernel_rfl, fun j t ht => ?_⟩
  rw [Tryd.params8] at ht
  obtain rfl : t = 23 := by simpa using Array.mem_of_getElem? ht
  exact (show Tryd.prog.wantsStandIn 23 = false by kernel_rfl)
/-- The statement. -/
theorem libraryPrograms_card : Rows.LibraryProgramsCardSaid :=
  Claim7.holds_tied_plain_at .later [] _ _ _ _ libraryPrograms_said (fun _ h => by cases h) (by kernel_rfl) (fun _ h => by cases h) libraryPrograms_row_tie rfl ⟨rfl, rfl⟩ (by kernel_rfl) rfl plain_libraryPrograms (by kernel_rfl)
end Go.Proofs.YtfijmdaeaahodaaDoor

