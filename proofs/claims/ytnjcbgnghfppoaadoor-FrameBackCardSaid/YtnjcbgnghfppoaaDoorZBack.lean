import Derived.Test.YtnjcbgnghfppoaaDoorGSc
import Derived.Test.YtnjcbgnghfppoaaDoorGS
import Derived.Test.YtnjcbgnghfppoaaDoorGFa
import Derived.Test.YtnjcbgnghfppoaaDoorGR
import Derived.Test.YtnjcbgnghfppoaaDoorGH

/- FrameBack: From undoes To, exactly without a rotation and within 1 in each coordinate with one.
   Conditions: the listed table lies as the program's own text lays it (the card ties it); every input. -/
set_option linter.unusedVariables false
set_option linter.unusedSimpArgs false
namespace Go.Proofs.YtnjcbgnghfppoaaDoor
open Go.ChangeShapes Go.WideShapes Go.ChangeAt Go.RowKit

set_option maxRecDepth 100000 in
set_option maxHeartbeats 8000000 in
theorem walk_frameBack (v1 : Value) (z1 : List Int) (v2 : Value) (z2 : List Int) (w : World) (h1 : IntsB w.heap.size w v1 z1) (h2 : IntsB w.heap.size w v2 z2) (T : Tc w) : Calls Tryd.prog 6 #[v1, v2] w fun e w' => e = .returned (.bool true) ∧ Below w.heap.size w w' := by
  have AW := Lib.hid (fun (w' : World) (q : Qw w w') => awake12 w' (T.kept q))
  cases k1 : decide (z1.length ≤ 120)
  · have L1 := Lib.hid (fun (w' : World) (q : Qw w w') => lightN h1 q k1)
    clear k1 h1 h2 T
    go_enter Tryd.func6, Tryd.ntmps6
    go_wp2_with (first | (go_at_call 11; ((with_reducible refine (L1.out _ (Qw.refl w)).mono ?_); rintro e w' ⟨rfl, rfl⟩)) | (go_at_call 12; ((with_reducible refine (AW.out _ (Qw.refl w)).mono ?_); rintro e w9 ⟨rfl, q⟩; have Q9 := Lib.hid q; clear q)))
    go_ret
    exact ⟨rfl, Q9.out⟩
  cases k2 : decide (z2.length ≤ 120)
  · have L1 := Lib.hid (fun (w' : World) (q : Qw w w') => lightN h1 q k1)
    have L2 := Lib.hid (fun (w' : World) (q : Qw w w') => lightN h2 q k2)
    clear k1 k2 h1 h2 T
    go_enter Tryd.func6, Tryd.ntmps6
    go_wp2_with (first | (go_at_call 11; ((with_reducible refine (L1.out _ (Qw.refl w)).mono ?_); rintro e w' ⟨rfl, rfl⟩)) | (go_at_call 11; ((with_reducible refine (L2.out _ (Qw.refl w)).mono ?_); rintro e w' ⟨rfl, rfl⟩)) | (go_at_call 12; ((with_reducible refine (AW.out _ (Qw.refl w)).mono ?_); rintro e w9 ⟨rfl, q⟩; have Q9 := Lib.hid q; clear q)))
    go_ret
    exact ⟨rfl, Q9.out⟩
  have L1 := Lib.hid (fun (w' : World) (q : Qw w w') => lightN h1 q k1)
  have L2 := Lib.hid (fun (w' : World) (q : Qw w w') => lightN h2 q k2)
  have H1 := Lib.hid h1
  have H2 := Lib.hid h2
  have TK := Lib.hid (fun (w' : World) (q : Qw w w') => T.kept q)
  clear k1 k2 h1 h2 T
  go_enter Tryd.func6, Tryd.ntmps6
  go_upto_region 3 with (first | (go_at_call 11; ((with_reducible refine (L1.out _ (Qw.refl w)).mono ?_); rintro e w' ⟨rfl, rfl⟩)) | (go_at_call 11; ((with_reducible refine (L2.out _ (Qw.refl w)).mono ?_); rintro e w' ⟨rfl, rfl⟩)))
  go_upto_region 4 with (first | (go_at_call 14; ((with_reducible refine (newN H1.out (Qw.refl w)).mono ?_); rintro e w1 ⟨rfl, t, q⟩; have T1 := Lib.hid t; have Q1 := Lib.hid q; clear t q)) | (go_at_call 13; ((with_reducible refine (frameN T1.out Q1.out (Nat.le_refl _)).mono ?_); rintro e w2 ⟨⟨f, rfl, hg⟩, q⟩; have G2 := Lib.hid hg; have Q2 := Lib.hid q; clear hg q)) | (refine al_fr ?_; intro w3 P hp X q; have X3 := Lib.hid X; have Q3 := Lib.hid q; clear X q) | (refine st_fr2 5 23 rfl rfl X3.out ?_))
  refine code_of (fun w' => Bx w' P (frc f) FT ∧ Qw w w') ⟨X3.out.srS, (Qw.trans Q2.out Q3.out).sr' (Nat.le_trans Q2.out.size hp) _⟩ ?_
  have hP : w.heap.size ≤ P := Nat.le_trans Q2.out.size hp
  clear L1 L2 H1 T1 Q1 Q2 X3 Q3 hp
  rintro w4 ⟨F, q⟩
  have FX := Lib.hid (fun (w' : World) (q : Qw w4 w') => F.kept q)
  have Q4 := Lib.hid q
  clear F q
  go_upto_region 5 with (first | (go_at_call 14; ((with_reducible refine (newN H2.out Q4.out).mono ?_); rintro e w5 ⟨rfl, t, q⟩; have T5 := Lib.hid t; have Q5 := Lib.hid q; clear t q)) | (go_at_call 29; ((with_reducible refine (vecN T5.out Q5.out (Nat.le_refl _) 200000 (by decide) (by decide)).mono ?_); rintro e w6 ⟨⟨x, y, z, rfl, hx, hy, hz⟩, q⟩; have HB := Lib.hid (And.intro hx (And.intro hy hz)); have Q6 := Lib.hid q; clear hx hy hz q)))
  refine code_of (fun w' => Bx w' w6.heap.size #[.int .i64 x, .int .i64 y, .int .i64 z] 23 ∧ Qw w4 w') ⟨Bx.new _ _ _, Qw.al Q6.out _⟩ ?_
  clear H2 T5 Q5 Q6
  generalize w6.heap.size = A at *
  rintro w7 ⟨AA, q⟩
  have AX := Lib.hid (fun (w' : World) (q : Qw w7 w') => AA.kept q)
  have F7 := Lib.hid (fun (w' : World) (q' : Qw w7 w') => FX.out w' (Qw.trans q q'))
  have Q7 := Lib.hid (Qw.trans Q4.out q)
  clear AA q FX Q4
  obtain ⟨hx, hy, hz⟩ := HB.out
  have to2 := G2.out.to2 hx hy hz
  have fr2 := G2.out.fr2 hx hy hz
  have bk := G2.out.back hx hy hz
  have t2 := G2.out.t2 hx hy hz f.a
  have oo := G2.out.o
  have ms : (-500000 ≤ Fm.mx f x y z ∧ Fm.mx f x y z ≤ 500000) ∧ (-500000 ≤ Fm.my f x y z ∧ Fm.my f x y z ≤ 500000) ∧ (-500000 ≤ Fm.mz f x y z ∧ Fm.mz f x y z ≤ 500000) := by unfold Fm.mx Fm.my Fm.mz; omega
  have TO : Hid (∀ w' : World, Qw w w' → Calls Tryd.prog 20 #[.agg (frc f), .agg #[.int .i64 x, .int .i64 y, .int .i64 z]] w' fun e w'' => e = .returned (.tuple #[.agg #[.int .i64 (Fm.mx f x y z), .int .i64 (Fm.my f x y z), .int .i64 (Fm.mz f x y z)], .int .i64 0]) ∧ Qw w' w'') := Lib.hid (fun w' q => by have := fmToAny f G2.out x y z (by omega) (by omega) (by omega) (by omega) (by omega) (by omega) w' (TK.out _ q); rwa [to2.1, to2.2.1, to2.2.1, to2.2.1] at this)
  have FR : Hid (∀ w' : World, Qw w w' → Calls Tryd.prog 22 #[.agg (frc f), .agg #[.int .i64 (Fm.mx f x y z), .int .i64 (Fm.my f x y z), .int .i64 (Fm.mz f x y z)]] w' fun e w'' => e = .returned (.tuple #[.agg #[.int .i64 (Fm.bx f x y z), .int .i64 (Fm.by_ f x y z), .int .i64 (Fm.bz f x y z)], .int .i64 0]) ∧ Qw w' w'') := Lib.hid (fun w' q => by have := fmFromAny f G2.out (Fm.mx f x y z) (Fm.my f x y z) (Fm.mz f x y z) (by omega) (by omega) (by omega) (by omega) (by omega) (by omega) w' (TK.out _ q); rwa [fr2.1, fr2.2.1, fr2.2.2.1, fr2.2.2.2] at this)
  have st : f.t = false → Fm.bx f x y z = x ∧ Fm.by_ f x y z = y ∧ Fm.bz f x y z = z := fun ht => by
    have e := Fm.Gd.stay ht
    unfold Fm.bx Fm.by_ Fm.bz
    rw [(e _ _ _ _).1, (e _ _ _ _).1, (e _ _ _ _).2.1, (e _ _ _ _).2.1, (e _ _ _ _).2.2, (e _ _ _ _).2.2]
    exact ⟨rfl, rfl, rfl⟩
  generalize Fm.mx f x y z = m0 at *
  generalize Fm.my f x y z = m1 at *
  generalize Fm.mz f x y z = m2 at *
  generalize Fm.bx f x y z = b0 at *
  generalize Fm.by_ f x y z = b1 at *
  generalize Fm.bz f x y z = b2 at *
  have SU := Lib.hid (fun w' => vr_sub b0 b1 b2 x y z (by omega) (by omega) (by omega) (by omega) (by omega) (by omega) (by omega) (by omega) (by omega) (by omega) (by omega) (by omega) w')
  have BK := Lib.hid bk
  have ST := Lib.hid st
  clear to2 fr2 t2 oo ms bk st hx hy hz TK HB
  have a0 := (AX.out _ (Qw.refl w7)).cell' 0 (.int .i64 x) rfl; have a1 := (AX.out _ (Qw.refl w7)).cell' 1 (.int .i64 y) rfl; have a2 := (AX.out _ (Qw.refl w7)).cell' 2 (.int .i64 z) rfl
  go_upto_region 6 with (first | (refine ld_fr 5 rfl (F7.out _ (Qw.refl w7)) ?_) | (go_at_call 20; ((with_reducible refine (TO.out _ Q7.out).mono ?_); rintro e w8 ⟨rfl, q⟩; have Q8 := Lib.hid q; clear q)))
  refine code_of (fun w' => Bx w' w8.heap.size #[.int .i64 m0, .int .i64 m1, .int .i64 m2] 23 ∧ Qw w7 w') ⟨Bx.new _ _ _, Qw.al Q8.out _⟩ ?_
  clear a0 a1 a2 Q8 TO
  generalize w8.heap.size = M at *
  rintro w9 ⟨MM, q⟩
  have Q9 := Lib.hid q
  clear q
  have a0 := (MM).cell' 0 (.int .i64 m0) rfl; have a1 := (MM).cell' 1 (.int .i64 m1) rfl; have a2 := (MM).cell' 2 (.int .i64 m2) rfl
  clear MM
  go_upto_region 7 with (first | (refine ld_fr 5 rfl (F7.out _ Q9.out) ?_) | (go_at_call 22; ((with_reducible refine (FR.out _ (Qw.trans Q7.out Q9.out)).mono ?_); rintro e w10 ⟨rfl, q⟩; have Q10 := Lib.hid (Qw.trans Q9.out q); clear q)))
  refine code_of (fun w' => Bx w' w10.heap.size #[.int .i64 b0, .int .i64 b1, .int .i64 b2] 23 ∧ Qw w7 w') ⟨Bx.new _ _ _, Qw.al Q10.out _⟩ ?_
  clear a0 a1 a2 Q9 Q10 FR
  generalize w10.heap.size = N at *
  rintro w11 ⟨NN, q⟩
  have NX := Lib.hid (fun (w' : World) (q : Qw w11 w') => NN.kept q)
  have Q11 := Lib.hid q
  clear q NN
  cases ht : f.t
  · have HT := Lib.hid ht
    obtain ⟨e1, e2, e3⟩ := ST.out ht
    have NX2 : Hid (∀ w' : World, Qw w11 w' → Bx w' N #[.int .i64 x, .int .i64 y, .int .i64 z] 23) := Lib.hid (fun w' q => by have := NX.out w' q; rwa [e1, e2, e3] at this)
    clear ht ST BK SU e1 e2 e3 NX
    have NX := NX2
    clear NX2
    go_wp2_with (go_at_call 12; ((with_reducible refine (AW.out _ (Qw.trans Q7.out Q11.out)).mono ?_); rintro e w12 ⟨rfl, q⟩; have QB := Lib.hid (Qw.trans (Qw.trans Q7.out Q11.out) q); have c26 := (F7.out _ (Qw.trans Q11.out q)).cell' 26 (.bool false) (at_t HT.out); have a0 := (AX.out _ (Qw.trans Q11.out q)).cell' 0 (.int .i64 x) rfl; have a1 := (AX.out _ (Qw.trans Q11.out q)).cell' 1 (.int .i64 y) rfl; have a2 := (AX.out _ (Qw.trans Q11.out q)).cell' 2 (.int .i64 z) rfl; have n0 := (NX.out _ q).cell' 0 (.int .i64 x) rfl; have n1 := (NX.out _ q).cell' 1 (.int .i64 y) rfl; have n2 := (NX.out _ q).cell' 2 (.int .i64 z) rfl; clear q))
    go_ret
    exact ⟨rfl, QB.out⟩
  · have HT := Lib.hid ht
    have eb := BK.out
    obtain ⟨⟨e1, e2⟩, ⟨e3, e4⟩, e5, e6⟩ := eb
    obtain ⟨M6, hM, rM⟩ := run_max6 Tryd.prog #[3, 3, 3, 3, 3, 3] 3 (m := 1) (a := b0 - x) (b := -(b0 - x)) (c := b1 - y) (d := -(b1 - y)) (e := b2 - z) (f := -(b2 - z)) (by omega) (by omega) (by omega) (by omega) (by omega) (by omega)
    clear ht ST BK
    go_wp2_with (first | (go_at_call 12; ((with_reducible refine (AW.out _ (Qw.trans Q7.out Q11.out)).mono ?_); rintro e w12 ⟨rfl, q⟩; have QB := Lib.hid (Qw.trans (Qw.trans Q7.out Q11.out) q); have c26 := (F7.out _ (Qw.trans Q11.out q)).cell' 26 (.bool true) (at_t HT.out); have a0 := (AX.out _ (Qw.trans Q11.out q)).cell' 0 (.int .i64 x) rfl; have a1 := (AX.out _ (Qw.trans Q11.out q)).cell' 1 (.int .i64 y) rfl; have a2 := (AX.out _ (Qw.trans Q11.out q)).cell' 2 (.int .i64 z) rfl; have n0 := (NX.out _ q).cell' 0 (.int .i64 b0) rfl; have n1 := (NX.out _ q).cell' 1 (.int .i64 b1) rfl; have n2 := (NX.out _ q).cell' 2 (.int .i64 b2) rfl; clear q)) | (go_at_call 30; ((with_reducible refine (SU.out _).mono ?_); rintro e w13 ⟨rfl, q⟩; have Q13 := Lib.hid q; clear q)))
    go_ret
    exact ⟨rfl, Qw.al (Qw.trans QB.out Q13.out) _⟩

/-! ### the row and the card -/
theorem reads_frameBack (os : Os) {H : Type} (enc : TypeId × Value → H) : ∃ places, DataW.whole enc Tryd.prog ((laidWorldC os).forCall (fun _ _ => 0) ⟨#[], #[.slice none 0 0, .slice none 0 0], []⟩).memory Tryd.f6.params.toList Rows.frameBackSpec.vars false #[(.slice none 0 0 : Value), .slice none 0 0].toList 8 = some ([.nil, .nil], [], places) :=
  ⟨[], by kernel_rfl⟩
set_option maxRecDepth 100000 in
theorem lifted_frameBack (os : Os) (started : os.Started) (H : Type) (enc : TypeId × Value → H) (F : Stop.Interp) :
    ReturnsInHanded {} Tryd.checked os 6 .any ((OpenSpec.ofChange Rows.frameBackSpec).preRow enc Tryd.prog Tryd.f6 Rows.frameBackRow.domain false Rows.frameBackRow.laid) (((OpenSpec.ofChange Rows.frameBackSpec).at F).post enc Tryd.prog Tryd.f6 false true false false) := by
  obtain ⟨places, hx⟩ := reads_frameBack os enc
  refine returnsInHanded_of_row (C := Tryd.checked) (s := OpenSpec.ofChange Rows.frameBackSpec) ownC started (by kernel_rfl) Tryd.func6
    (witness_row_at (enc := enc) (C := Tryd.checked) false (laidWorldC os) #[.slice none 0 0, .slice none 0 0] rfl (by kernel_rfl) (by kernel_rfl) (by kernel_rfl)
      (OpenSpec.preRow_of_cond 8 hx (by kernel_rfl) (fun k hk => by cases hk) (by kernel_rfl) (laid_metC os _))) ?_
  intro W base args ds gs before hval0 hW _ _ _ hL _ _
  have ht : Tc W := tableC hL
  have hval : ∀ (j : Nat) t v, Tryd.f6.params[j]? = some t → args[j]? = some v → Value.okWide Tryd.prog W .any base t v := hval0
  have hW' := hW
  obtain ⟨p, q, hA0, hV, rfl, hfz, hnd⟩ := hW
  have hA : DataW.TrodAll enc Tryd.prog W 0 (fun _ => true) true Tryd.f6.params.toList args.toList ds p := hA0
  rw [Tryd.params6] at hA hval
  obtain ⟨v0, vs0, d0, ds0, p0, q0, hargs, rfl, rfl, h0, r0⟩ := trodAll_cons hA
  obtain ⟨v1, vs1, d1, ds1, p1, q1, rfl, rfl, rfl, h1, r1⟩ := trodAll_cons r0
  obtain ⟨rfl, rfl, rfl⟩ := trodAll_nil r1
  obtain rfl : args = #[v0, v1] := by cases args; simp_all
  obtain ⟨rfl, rfl⟩ := trodVars_none hV
  obtain ⟨u0, hu0⟩ := inM_ints (hval 0 27 v0 rfl rfl) h0
  obtain ⟨u1, hu1⟩ := inM_ints (hval 1 27 v1 rfl rfl) h1
  clear hA0 hval0 hL
  simp only [List.append_nil] at hW'
  refine (walk_frameBack v0 u0 v1 u1 W hu0 hu1 ht).mono fun e W' ⟨he, bel⟩ => ?_
  subst he
  exact ⟨_, rfl, _, _, _, [], _, [], hW', trodAll_mk1 (shut_bool Tryd.underlying4 _), (trodAll_cons_mk (outM_ints h0 bel (fun x hx => hW'.lt x (by first | exact hx | simp [hx]))) (trodAll_cons_mk (outM_ints h1 bel (fun x hx => hW'.lt x (by first | exact hx | simp [hx]))) trodAll_mk0)), rfl, Below.frame bel _, fun h => by cases h⟩

theorem frameBack_said : Rows.FrameBackSaid :=
  OpenClaim.holds_of_cond 6 Tryd.f6 rfl rfl rfl rfl rfl rfl rfl ⟨rfl, rfl, rfl, rfl, rfl⟩ rfl rfl rfl rfl rfl (by kernel_rfl) Tryd.func6 (by kernel_rfl)
    (of_decide_eq_true (by kernel_rfl)) (by unfold Func.isWrapper; first | (rw [if_pos (by decide +kernel)]; kernel_rfl) | (rw [if_neg (by decide +kernel)]; exact ⟨rfl, rfl⟩))
    (fun os started H enc _ F => by rw [OpenClaim.pre_eq_preRow]; exact lifted_frameBack os started H enc F)

theorem plain_frameBack (f : FuncId) (fn : Func) (hf : Tryd.pinned.checked.prog.funcNamed "cnc/cnclaw12.FrameBack" = some f) (hfn : Tryd.pinned.checked.prog.funcs[f]? = some fn) :
    false = Tryd.pinned.checked.prog.looks [] ∧ ∀ (j : Nat) t, fn.params[j]? = some t → Tryd.pinned.checked.prog.wantsStandIn t = false := by
  obtain rfl : f = 6 := Option.some.inj ((show Tryd.prog.funcNamed "cnc/cnclaw12.FrameBack" = some 6 by kernel_rfl).symm.trans hf) |>.symm
  obtain rfl : fn = Tryd.f6 := (Option.some.inj (Tryd.func6.symm.trans hfn)).symm
  refine ⟨by kernel_rfl, fun j t ht => ?_⟩
  rw [Tryd.params6] at ht
  obtain rfl : t = 27 := by simpa using Array.mem_of_getElem? ht
  exact (show Tryd.prog.wantsStandIn 27 = false by kernel_rfl)

/-- The statement. -/
theorem frameBack_card : Rows.FrameBackCardSaid :=
  Claim7.holds_tied_plain_at .later [] _ _ _ _ frameBack_said (fun _ h => by cases h) (by kernel_rfl) (fun _ h => by cases h) frameBack_row_tie rfl ⟨rfl, rfl⟩ (by kernel_rfl) rfl plain_frameBack (by kernel_rfl)

end Go.Proofs.YtnjcbgnghfppoaaDoor
