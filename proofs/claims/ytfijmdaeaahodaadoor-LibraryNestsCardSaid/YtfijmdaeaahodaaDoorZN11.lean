/- LibraryNests of layer 9: loops may be nested with different numbers only.
   Conditions: the listed table lies as the program's own text lays it (the card ties it); every input. -/
import Derived.Test.YtfijmdaeaahodaaDoorZN0
import Derived.Test.YtfijmdaeaahodaaDoorZN10
import Derived.Deep.Cut

set_option linter.unusedVariables false
set_option linter.unusedSimpArgs false
namespace Go.Proofs.YtfijmdaeaahodaaDoor
open Go.ChangeShapes Go.WideShapes Go.ChangeAt Go.RowKit
def oneX : Sy.Ex := .mk 0 1000000 []
def nW (x : Int) : Bi := plB 4 x oneX
def nE (x : Int) : Bi := plB 5 x Sy.zx
theorem vld_while {x : Int} (h : 1 ≤ x ∧ x ≤ 3) : Sy.vldb (nW x).b = true := by
  unfold Sy.vldb Sy.okb Sy.limb nW plB oneX
  have e1 : Sy.okx (.mk 0 1000000 []) = true := by rw [Sy.okx_mk]; decide
  have e2 : Sy.depB (.mk 0 1000000 []) = true := by unfold Sy.depB; rw [Sy.dpt_mk]; decide
  have e3 : Sy.noneB Sy.zx = true := by decide
  have e4 : Sy.depB Sy.zx = true := Sy.dpt_zx
  have e5 : Sy.cnt x 3 = true := by unfold Sy.cnt; simp; omega
  simp [e1, e2, e3, e4, e5]
theorem vld_endn {x : Int} (h : 1 ≤ x ∧ x ≤ 3) : Sy.vldb (nE x).b = true := (Sy.fwn_end (n := x) h.1 h.2).v
def nL (x y z : Int) : List Bi := [nW x, nW y, nE z, nE x]
theorem nests_run (x y z : Int) : (x = y → Lb.run ((nL x y z).map Bi.b) Lb.st0 = .bad 1 11) ∧ (x ≠ y → y ≠ z → Lb.run ((nL x y z).map Bi.b) Lb.st0 = .bad 2 11) ∧ (x ≠ y → y = z → (∃ s, Lb.fin (Lb.run ((nL x y z).map Bi.b) Lb.st0) = .ok s) ∧ Lb.fin (Lb.run (((nL x y z).map Bi.b).take 3) Lb.st0) = .bad 0 11) := by
  refine ⟨fun h => ?_, fun h1 h2 => ?_, fun h1 h2 => ⟨?_, ?_⟩⟩
  · subst h
    simp [nL, nW, nE, plB, Lb.run, Lb.stepS, Lb.pgS, Lb.labS, Lb.loopS, Lb.st0, Lb.more]
  · simp [nL, nW, nE, plB, Lb.run, Lb.stepS, Lb.pgS, Lb.labS, Lb.loopS, Lb.st0, Lb.more, h1, h2]
  · subst h2
    simp [nL, nW, nE, plB, Lb.run, Lb.stepS, Lb.pgS, Lb.labS, Lb.loopS, Lb.st0, Lb.more, h1, Lb.fin]
  · subst h2
    simp [nL, nW, nE, plB, Lb.run, Lb.stepS, Lb.pgS, Lb.labS, Lb.loopS, Lb.st0, Lb.more, h1, Lb.fin]
theorem nests_build {x y z : Int} (hx : 1 ≤ x ∧ x ≤ 3) (hy : 1 ≤ y ∧ y ≤ 3) (hz : 1 ≤ z ∧ z ≤ 3) : (x = y → Lb.build ((nL x y z).map Bi.b) = .bad 1 11) ∧ (x ≠ y → y ≠ z → Lb.build ((nL x y z).map Bi.b) = .bad 2 11) ∧ (x ≠ y → y = z → (∃ s, Lb.build ((nL x y z).map Bi.b) = .ok s) ∧ Lb.build (((nL x y z).map Bi.b).take 3) = .bad 0 11) := by
  have hv : ∀ b ∈ (nL x y z).map Bi.b, Sy.vldb b = true := by
    intro b hb
    simp [nL] at hb
    rcases hb with rfl | rfl | rfl | rfl
    · exact vld_while hx
    · exact vld_while hy
    · exact vld_endn hz
    · exact vld_endn hx
  have hv3 : ∀ b ∈ ((nL x y z).map Bi.b).take 3, Sy.vldb b = true := fun b hb => hv b (List.mem_of_mem_take hb)
  obtain ⟨r1, r2, r3⟩ := nests_run x y z
  refine ⟨fun h => ?_, fun h1 h2 => ?_, fun h1 h2 => ⟨?_, ?_⟩⟩
  · unfold Lb.build; rw [if_neg (by simp [nL]), Lb.inv_none hv, r1 h]; rfl
  · unfold Lb.build; rw [if_neg (by simp [nL]), Lb.inv_none hv, r2 h1 h2]; rfl
  · obtain ⟨⟨s, hs⟩, _⟩ := r3 h1 h2
    refine ⟨s, ?_⟩
    unfold Lb.build; rw [if_neg (by simp [nL]), Lb.inv_none hv]; exact hs
  · obtain ⟨_, hs⟩ := r3 h1 h2
    unfold Lb.build; rw [if_neg (by simp [nL]), Lb.inv_none hv3]; exact hs
theorem nl_blocks {w : World} {g : Nat} {t : TypeId} (x y z : Int) (X : Bx w g (bicells (nL x y z)).toArray t) : BlksB w (fun b => b < w.heap.size) (some ⟨g, 0, none⟩) 4 ((nL x y z).map Bi.b) ∧ BlksB w (fun b => b < w.heap.size) (some ⟨g, 0, none⟩) 4 (((nL x y z).map Bi.b).take 3) := by
  have h0 : ∀ d ∈ nL x y z, d.b.words = [] ∧ d.b.left.ks = [] ∧ d.b.x.ks = [] ∧ d.wa = none ∧ d.wc = 0 ∧ d.la = none ∧ d.lc = 0 ∧ d.xa = none ∧ d.xc = 0 := by
    intro d hd
    simp [nL] at hd
    rcases hd with rfl | rfl | rfl | rfl <;> exact ⟨rfl, rfl, rfl, rfl, rfl, rfl, rfl, rfl, rfl⟩
  have b4 := lit_blocks (ds := nL x y z) (cap := 4) X (fun i hi j u hj => by
    rw [List.getElem?_toArray, bicells_get _ i hi j (bicell_lt hj)]; exact hj) h0 (by simp [nL]) (by decide)
  refine ⟨b4, by simp [nL], by decide, ?_⟩
  rcases b4.2.2 with h | ⟨g', off, f, e, hS, hc⟩
  · simp [nL] at h
  · exact .inr ⟨g', off, f, e, hS, fun i hi => by
      have hi' : i < ((nL x y z).map Bi.b).length := by simp [nL] at hi ⊢; omega
      obtain ⟨k1, k2, k3⟩ := hc i hi'
      exact ⟨by rw [k1, List.getElem_take], k2, k3⟩⟩
set_option maxRecDepth 100000 in
set_option maxHeartbeats 4000000 in
theorem walk_libraryNests (a0 : Int) (x0 : -9223372036854775808 ≤ a0) (y0 : a0 ≤ 9223372036854775807) (a1 : Int) (x1 : -9223372036854775808 ≤ a1) (y1 : a1 ≤ 9223372036854775807) (a2 : Int) (x2 : -9223372036854775808 ≤ a2) (y2 : a2 ≤ 9223372036854775807) (w : World) (ht : Ow w) :
    Calls Tryd.prog 11 #[.int .i64 a0, .int .i64 a1, .int .i64 a2] w fun e w' => e = .returned (.bool true) ∧ Qw w w' := by
  have m0 := fun w => modW a0 3 x0 y0 (by decide) (by decide) w
  have m1 := fun w => modW a1 3 x1 y1 (by decide) (by decide) w
  have m2 := fun w => modW a2 3 x2 y2 (by decide) (by decide) w
  have r0 : 0 ≤ a0 % 3 ∧ a0 % 3 ≤ 2 := by omega
  have r1 : 0 ≤ a1 % 3 ∧ a1 % 3 ≤ 2 := by omega
  have r2 : 0 ≤ a2 % 3 ∧ a2 % 3 ≤ 2 := by omega
  generalize a0 % 3 = b0 at *
  generalize a1 % 3 = b1 at *
  generalize a2 % 3 = b2 at *
  have M0 := Lib.hid m0
  have M1 := Lib.hid m1
  have M2 := Lib.hid m2
  obtain ⟨n1, n2, n3⟩ := nests_build (x := 1 + b0) (y := 1 + b1) (z := 1 + b2) (by omega) (by omega) (by omega)
  have HO := Lib.hid ht
  have AW := Lib.hid (fun w1 (q : Qw w w1) => awake9 w1 (ht.kept q))
  have e0 : IntKind.i64.wrap (1 + b0) = 1 + b0 := IntWalk.i64_in _ (by omega)
  have e1 : IntKind.i64.wrap (1 + b1) = 1 + b1 := IntWalk.i64_in _ (by omega)
  have e2 : IntKind.i64.wrap (1 + b2) = 1 + b2 := IntWalk.i64_in _ (by omega)
  clear m0 m1 m2 ht
  have N1 := Lib.hid n1
  have N2 := Lib.hid n2
  have N3 := Lib.hid n3
  clear n1 n2 n3
  go_enter Tryd.func11, Tryd.ntmps11
  go_upto_region 4 with (first
    | (go_at_call 19; ((with_reducible refine (M0.out _).mono ?_); rintro e w' ⟨rfl, rfl⟩))
    | (go_at_call 19; ((with_reducible refine (M1.out _).mono ?_); rintro e w' ⟨rfl, rfl⟩))
    | (go_at_call 19; ((with_reducible refine (M2.out _).mono ?_); rintro e w' ⟨rfl, rfl⟩)))
  have sz : ∀ o : Obj, (w.alloc o).heap.size = w.heap.size + 1 := fun o => by simp
  have XE := Bx.new (w.alloc (.cells #[.int .i64 0, .int .i64 1000000, .slice none 0 0] 35)) (bicells (nL (1 + b0) (1 + b1) (1 + b2))).toArray 37
  rw [sz] at XE
  refine code_of (fun w1 => Bx w1 (w.heap.size + 1) (bicells (nL (1 + b0) (1 + b1) (1 + b2))).toArray 37 ∧ Qw w w1) ⟨XE, Qw.al (Qw.al (Qw.refl w) _) _⟩ ?_
  clear XE sz
  rintro w1 ⟨X1, q1⟩
  obtain ⟨k4, k3⟩ := nl_blocks _ _ _ X1
  have Q1 := Lib.hid q1
  have O1 := Lib.hid (HO.out.kept q1)
  have K4 := Lib.hid k4
  have K3 := Lib.hid k3
  clear X1 q1 k4 k3
  by_cases h1 : b0 = b1
  · subst h1
    have C1 := Lib.hid (build_bad (N1.out rfl) _ _ _ w1 O1.out K4.out)
    clear N1 N2 N3 K4 K3
    go_wp2_with (go_at_call 20; refine C1.out.mono ?_)
    intro e w2 h2
    obtain ⟨rfl, q2⟩ := h2
    have Q2 := Lib.hid (Qw.trans Q1.out q2)
    clear q2
    go_wp2_with (go_at_call 14; ((with_reducible refine (AW.out _ (Qw.al Q2.out _)).mono ?_); rintro e w' ⟨rfl, q⟩; have QL := Lib.hid q; clear q))
    go_ret
    exact ⟨rfl, Qw.trans (Qw.al Q2.out _) QL.out⟩
  · have h1b : (b0 == b1) = false := beq_eq_false_iff_ne.2 h1
    by_cases h2 : b1 = b2
    · subst h2
      obtain ⟨⟨s, hs⟩, hb3⟩ := N3.out (by omega) rfl
      have C1 := Lib.hid (build_ok hs _ _ _ w1 O1.out K4.out)
      have C2 := Lib.hid (fun w3 (q : Qw w1 w3) => build_bad hb3 _ _ _ w3 (O1.out.kept q) (K3.out.kept q))
      clear N1 N2 N3 K4 K3 hs hb3
      go_wp2_with (go_at_call 20; refine C1.out.mono ?_)
      intro e w2 h2
      obtain ⟨ba, bc, pa, pc, ma, mc, rfl, _, q2⟩ := h2
      have Q2 := Lib.hid q2
      clear q2
      go_wp2_with (go_at_call 20; refine (C2.out _ (Qw.al Q2.out _)).mono ?_)
      intro e w3 h3
      obtain ⟨rfl, q3⟩ := h3
      have Q3 := Lib.hid (Qw.trans Q1.out (Qw.trans (Qw.al Q2.out _) q3))
      clear q3
      go_wp2_with (go_at_call 14; ((with_reducible refine (AW.out _ (Qw.al Q3.out _)).mono ?_); rintro e w' ⟨rfl, q⟩; have QL := Lib.hid q; clear q))
      go_ret
      exact ⟨rfl, Qw.trans (Qw.al Q3.out _) QL.out⟩
    · have h2b : (b1 == b2) = false := beq_eq_false_iff_ne.2 h2
      have h2c : (b1 != b2) = true := bne_iff_ne.2 h2
      have C1 := Lib.hid (build_bad (N2.out (by omega) (by omega)) _ _ _ w1 O1.out K4.out)
      clear N1 N2 N3 K4 K3
      go_wp2_with (go_at_call 20; refine C1.out.mono ?_)
      intro e w2 h2
      obtain ⟨rfl, q2⟩ := h2
      have Q2 := Lib.hid (Qw.trans Q1.out q2)
      clear q2
      go_wp2_with (go_at_call 14; ((with_reducible refine (AW.out _ (Qw.al Q2.out _)).mono ?_); rintro e w' ⟨rfl, q⟩; have QL := Lib.hid q; clear q))
      go_ret
      exact ⟨rfl, Qw.trans (Qw.al Q2.out _) QL.out⟩
/-! ### the row and the card -/
theorem reads_libraryNests (os : Os) {H : Type} (enc : TypeId × Value → H) : ∃ places, DataW.whole enc Tryd.prog ((laidWorldO os).forCall (fun _ _ => 0) ⟨#[], #[.int .i64 0, .int .i64 0, .int .i64 0], []⟩).memory Tryd.f11.params.toList Rows.libraryNestsSpec.vars false #[(.int .i64 0 : Value), .int .i64 0, .int .i64 0].toList 8 = some ([.lit (.int .i64 0), .lit (.int .i64 0), .lit (.int .i64 0)], [], places) :=
  ⟨[], by kernel_rfl⟩
set_option maxRecDepth 100000 in
theorem lifted_libraryNests (os : Os) (started : os.Started) (H : Type) (enc : TypeId × Value → H) (F : Stop.Interp) :
    ReturnsInHanded {} Tryd.checked os 11 .any ((OpenSpec.ofChange Rows.libraryNestsSpec).preRow enc Tryd.prog Tryd.f11 Rows.libraryNestsRow.domain false Rows.libraryNestsRow.laid) (((OpenSpec.ofChange Rows.libraryNestsSpec).at F).post enc Tryd.prog Tryd.f11 false true false false) := by
  obtain ⟨places, hx⟩ := reads_libraryNests os enc
  refine returnsInHanded_of_row (C := Tryd.checked) (s := OpenSpec.ofChange Rows.libraryNestsSpec) ownO started (by kernel_rfl) Tryd.func11
    (witness_row_at (enc := enc) (C := Tryd.checked) false (laidWorldO os) #[.int .i64 0, .int .i64 0, .int .i64 0] rfl (by kernel_rfl) (by kernel_rfl) (by kernel_rfl)
      (OpenSpec.preRow_of_cond 8 hx (by kernel_rfl) (fun k hk => by cases hk) (by kernel_rfl) (laid_metO os _))) ?_
  intro W base args ds gs before hval0 hW _ _ _ hL _ _
  have ht : Ow W := tableO hL
  have hval : ∀ (j : Nat) t v, Tryd.f11.params[j]? = some t → args[j]? = some v → Value.okWide Tryd.prog W .any base t v := hval0
  have hW' := hW
  obtain ⟨p, q, hA0, hV, rfl, hfz, hnd⟩ := hW
  have hA : DataW.TrodAll enc Tryd.prog W 0 (fun _ => true) true Tryd.f11.params.toList args.toList ds p := hA0
  rw [Tryd.params11] at hA hval
  obtain ⟨v0, vs0, d0, ds0, p0, q0, hargs, rfl, rfl, h0, r0⟩ := trodAll_cons hA
  obtain ⟨v1, vs1, d1, ds1, p1, q1, rfl, rfl, rfl, h1, r1⟩ := trodAll_cons r0
  obtain ⟨v2, vs2, d2, ds2, p2, q2, rfl, rfl, rfl, h2, r2⟩ := trodAll_cons r1
  obtain ⟨rfl, rfl, rfl⟩ := trodAll_nil r2
  obtain rfl : args = #[v0, v1, v2] := by cases args; simp_all
  obtain ⟨rfl, rfl⟩ := trodVars_none hV
  obtain ⟨a0, rfl, rfl, rfl, w0⟩ := open_int Tryd.underlying3 (hval 0 3 v0 rfl rfl) h0
  obtain ⟨x0, y0⟩ := i64_of_wf w0
  obtain ⟨a1, rfl, rfl, rfl, w1⟩ := open_int Tryd.underlying3 (hval 1 3 v1 rfl rfl) h1
  obtain ⟨x1, y1⟩ := i64_of_wf w1
  obtain ⟨a2, rfl, rfl, rfl, w2⟩ := open_int Tryd.underlying3 (hval 2 3 v2 rfl rfl) h2
  obtain ⟨x2, y2⟩ := i64_of_wf w2
  clear hA0 hval0 hL
  simp only [List.append_nil] at hW'
  refine (walk_libraryNests a0 x0 y0 a1 x1 y1 a2 x2 y2 W ht).mono fun e W' ⟨he, bel⟩ => ?_
  subst he
  exact ⟨_, rfl, _, _, _, [], _, [], hW', trodAll_mk1 (shut_bool Tryd.underlying4 _), (trodAll_cons_mk (shut_int Tryd.underlying3 w0) (trodAll_cons_mk (shut_int Tryd.underlying3 w1) (trodAll_cons_mk (shut_int Tryd.underlying3 w2) trodAll_mk0))), rfl, Below.frame bel _, fun h => by cases h⟩
theorem libraryNests_said : Rows.LibraryNestsSaid :=
  OpenClaim.holds_of_cond 11 Tryd.f11 rfl rfl rfl rfl rfl rfl rfl ⟨rfl, rfl, rfl, rfl, rfl⟩ rfl rfl rfl rfl rfl (by kernel_rfl) Tryd.func11 (by kernel_rfl)
    (of_decide_eq_true (by kernel_rfl)) (by unfold Func.isWrapper; first | (rw [if_pos (by decide +kernel)]; kernel_rfl) | (rw [if_neg (by decide +kernel)]; exact ⟨rfl, rfl⟩))
    (fun os started H enc _ F => by rw [OpenClaim.pre_eq_preRow]; exact lifted_libraryNests os started H enc F)
theorem plain_libraryNests (f : FuncId) (fn : Func) (hf : Tryd.pinned.checked.prog.funcNamed "cnc/cnclaw09.LibraryNests" = some f) (hfn : Tryd.pinned.checked.prog.funcs[f]? = some fn) :
    false = Tryd.pinned.checked.prog.looks [] ∧ ∀ (j : Nat) t, fn.params[j]? = some t → Tryd.pinned.checked.prog.wantsStandIn t = false := by
  obtain rfl : f = 11 := Option.some.inj ((show Tryd.prog.funcNamed "cnc/cnclaw09.LibraryNests" = some 11 by kernel_rfl).symm.trans hf) |>.symm
  obtain rfl : fn = Tryd.f11 := (Option.some.inj (Tryd.func11.symm.trans hfn)).symm
  refine ⟨by kernel_rfl, fun j t ht => ?_⟩
  rw [Tryd.params11] at ht
  obtain rfl : t = 3 := by simpa using Array.mem_of_getElem? ht
  exact (show Tryd.prog.wantsStandIn 3 = false by kernel_rfl)
/-- The statement. -/
theorem libraryNests_card : Rows.LibraryNestsCardSaid :=
  Claim7.holds_tied_plain_at .later [] _ _ _ _ libraryNests_said (fun _ h => by cases h) (by kernel_rfl) (fun _ h => by cases h) libraryNests_row_tie rfl ⟨rfl, rfl⟩ (by kernel_rfl) rfl plain_libraryNests (by kernel_rfl)
end Go.Proofs.YtfijmdaeaahodaaDoor

