import Derived.Test.YtnjcbgnghfppoaaDoorGSc
import Derived.Test.YtnjcbgnghfppoaaDoorGS
import Derived.Test.YtnjcbgnghfppoaaDoorGFa
import Derived.Test.YtnjcbgnghfppoaaDoorFlD
import Derived.Test.YtnjcbgnghfppoaaDoorGO
import Derived.Test.YtnjcbgnghfppoaaDoorGN

/- FrameMaps: To and From lead to the positions that the specification names, for any position.
   Conditions: the listed table lies as the program's own text lays it (the card ties it); every input. -/
set_option linter.unusedVariables false
set_option linter.unusedSimpArgs false
namespace Go.Proofs.YtnjcbgnghfppoaaDoor
open Go.ChangeShapes Go.WideShapes Go.ChangeAt Go.RowKit

set_option maxRecDepth 100000 in
set_option maxHeartbeats 8000000 in
theorem walk_frameMaps (v1 : Value) (z1 : List Int) (x : Int) (x1 : -9223372036854775808 ≤ x) (x2 : x ≤ 9223372036854775807) (y : Int) (y1 : -9223372036854775808 ≤ y) (y2 : y ≤ 9223372036854775807) (z : Int) (z1_ : -9223372036854775808 ≤ z) (z2 : z ≤ 9223372036854775807) (s : Int) (s1 : -9223372036854775808 ≤ s) (s2 : s ≤ 9223372036854775807) (w : World) (h1 : IntsB w.heap.size w v1 z1) (T : Tc w) : Calls Tryd.prog 4 #[v1, .agg #[.int .i64 x, .int .i64 y, .int .i64 z], .int .i64 s] w fun e w' => e = .returned (.bool true) ∧ Below w.heap.size w w' := by
  have AW := Lib.hid (fun (w' : World) (q : Qw w w') => awake12 w' (T.kept q))
  have BQ : Hid (Qw w (w.alloc (.cells #[.int .i64 x, .int .i64 y, .int .i64 z] 23))) := Lib.hid (Qw.al (Qw.refl w) _)
  cases k1 : decide (z1.length ≤ 120)
  · have L1 := Lib.hid (fun (w' : World) (q : Qw w w') => lightN h1 q k1)
    clear k1 h1 T
    go_enter Tryd.func4, Tryd.ntmps4
    go_wp2_with (first | (go_at_call 11; ((with_reducible refine (L1.out _ BQ.out).mono ?_); rintro e w' ⟨rfl, rfl⟩)) | (go_at_call 12; ((with_reducible refine (AW.out _ BQ.out).mono ?_); rintro e w9 ⟨rfl, q⟩; have Q9 := Lib.hid q; clear q)))
    go_ret
    exact ⟨rfl, Qw.trans BQ.out Q9.out⟩
  have L1 := Lib.hid (fun (w' : World) (q : Qw w w') => lightN h1 q k1)
  have H1 := Lib.hid h1
  have TK := Lib.hid (fun (w' : World) (q : Qw w w') => T.kept q)
  have MS := Lib.hid (fun w => modW s 100000 s1 s2 (by decide) (by decide) w)
  have ms : 0 ≤ s % 100000 ∧ s % 100000 < 100000 := by omega
  generalize s % 100000 = sm at *
  clear k1 h1 T s1 s2
  go_enter Tryd.func4, Tryd.ntmps4
  go_upto_region 3 with ((go_at_call 11; ((with_reducible refine (L1.out _ BQ.out).mono ?_); rintro e w' ⟨rfl, rfl⟩)))
  refine code_of (fun w' => Bx w' w.heap.size #[.int .i64 x, .int .i64 y, .int .i64 z] 23 ∧ Qw w w') ⟨Bx.new _ _ _, BQ.out⟩ ?_
  rintro w0 ⟨x0, q0⟩
  have X0 := Lib.hid x0
  have Q0 := Lib.hid q0
  have hA : w.heap.size ≤ w.heap.size := Nat.le_refl _
  clear x0 q0 BQ L1
  have hA2 : w.heap.size ≤ w.heap.size := Nat.le_refl _
  go_upto_region 4 with (first | (go_at_call 14; ((with_reducible refine (newN H1.out Q0.out).mono ?_); rintro e w1 ⟨rfl, t, q⟩; have T1 := Lib.hid t; have Q1 := Lib.hid q; clear t q)) | (go_at_call 13; ((with_reducible refine (frameN T1.out Q1.out (Nat.le_refl _)).mono ?_); rintro e w2 ⟨⟨f, rfl, hg⟩, q⟩; have G2 := Lib.hid hg; have Q2 := Lib.hid q; clear hg q)) | (refine al_fr ?_; intro w3 P hp X q; have X3 := Lib.hid X; have Q3 := Lib.hid q; clear X q) | (refine st_fr2 7 24 rfl rfl X3.out ?_))
  refine code_of (fun w' => Bx w' P (frc f) FT ∧ Qw w0 w') ⟨X3.out.srS, (Qw.trans Q2.out Q3.out).sr' (Nat.le_trans Q2.out.size hp) _⟩ ?_
  have hP : w0.heap.size ≤ P := Nat.le_trans Q2.out.size hp
  have nA : P ≠ w.heap.size := by have := X0.out.lt; omega
  clear H1 T1 Q1 Q2 X3 Q3 hp
  rintro w4 ⟨F, q⟩
  have X4 := Lib.hid (X0.out.kept q)
  have F4 := Lib.hid F
  have Q4 := Lib.hid (Qw.trans Q0.out q)
  clear F q X0 Q0
  go_wp2
  go_loopw [8] (fun iv wr => ∃ (i : Nat) (a b c : Int), i ≤ 3 ∧ iv = .int .i64 (i : Int) ∧ -9223372036854775808 ≤ a ∧ a ≤ 9223372036854775807 ∧ -9223372036854775808 ≤ b ∧ b ≤ 9223372036854775807 ∧ -9223372036854775808 ≤ c ∧ c ≤ 9223372036854775807 ∧ Hid (Bx wr w.heap.size #[.int .i64 a, .int .i64 b, .int .i64 c] 23) ∧ Hid (Bx wr P (frc f) FT) ∧ Hid (Qw w wr)) (fun iv _ => 3 - (intOf iv).toNat)
  case atStart => exact ⟨0, x, y, z, by omega, rfl, x1, x2, y1, y2, z1_, z2, X4, F4, Q4⟩
  case round =>
    clear x1 x2 y1 y2 z1_ z2 X4 F4 Q4
    obtain ⟨i, a, b, c, hi, rfl, a1, a2, b1, b2, c1, c2, HX, HF, HQ⟩ := hrel
    by_cases h3 : i < 3
    · have h3' : (i : Int) < 3 := by omega
      have TO := Lib.hid (fun w' (q : Qw w w') => fmToAny f G2.out a b c a1 a2 b1 b2 c1 c2 w' (TK.out _ q))
      have RT := Lib.hid (fun w' => rfToAny f G2.out a b c a1 a2 b1 b2 c1 c2 w')
      have FR := Lib.hid (fun w' (q : Qw w w') => fmFromAny f G2.out a b c a1 a2 b1 b2 c1 c2 w' (TK.out _ q))
      have RF := Lib.hid (fun w' => rfFromAny f G2.out a b c a1 a2 b1 b2 c1 c2 w')
      generalize Fm.toV f a b c (Fm.mx f a b c) = k0 at *
      generalize Fm.toV f a b c (Fm.my f a b c) = k1 at *
      generalize Fm.toV f a b c (Fm.mz f a b c) = k2 at *
      generalize Fm.toE f a b c = k3 at *
      generalize Fm.frV f a b c (Fm.px f a b c) = l0 at *
      generalize Fm.frV f a b c (Fm.py f a b c) = l1 at *
      generalize Fm.frV f a b c (Fm.pz f a b c) = l2 at *
      generalize Fm.frE f a b c = l3 at *
      have PO := Lib.hid (fun w' => pointN a b c a1 a2 b1 b2 c1 c2 w')
      have XW := Lib.hid (fun (w' : World) (q : Qw wr w') => HX.out.kept q)
      have FW := Lib.hid (fun (w' : World) (q : Qw wr w') => HF.out.kept q)
      have lA : w.heap.size < wr.heap.size := HX.out.lt
      clear HX HF a1 a2 b1 b2 c1 c2 h3
      have QQ : Hid (Qw wr wr) := Lib.hid (Qw.refl wr)
      go_upto_region 7 with fail
      have y0 := (XW.out _ QQ.out).cell' 0 (.int .i64 a) rfl
      have y1 := (XW.out _ QQ.out).cell' 1 (.int .i64 b) rfl
      have y2 := (XW.out _ QQ.out).cell' 2 (.int .i64 c) rfl
      go_upto_region 8 with (first | (refine ld_fr 7 rfl (FW.out _ QQ.out) ?_) | (go_at_call 20; ((with_reducible refine (TO.out _ (Qw.trans HQ.out QQ.out)).mono ?_); rintro e w5 ⟨rfl, q⟩; have QS := Lib.hid (Qw.trans QQ.out q); have qs := Lib.hid q; clear q)))
      refine code_of (fun w' => Bx w' w5.heap.size #[.int .i64 k0, .int .i64 k1, .int .i64 k2] 23 ∧ Qw wr w') ⟨Bx.new _ _ _, Qw.al QS.out _⟩ ?_
      clear y0 y1 y2 QS qs QQ
      generalize w5.heap.size = N0 at *
      rintro w5 ⟨bb, qq⟩
      have B0 := Lib.hid bb
      have QQ := Lib.hid qq
      clear bb qq
      have y0 := (XW.out _ QQ.out).cell' 0 (.int .i64 a) rfl
      have y1 := (XW.out _ QQ.out).cell' 1 (.int .i64 b) rfl
      have y2 := (XW.out _ QQ.out).cell' 2 (.int .i64 c) rfl
      go_upto_region 9 with (first | (refine ld_fr 7 rfl (FW.out _ QQ.out) ?_) | (go_at_call 21; ((with_reducible refine (RT.out _).mono ?_); rintro e w5 ⟨rfl, q⟩; have QS := Lib.hid (Qw.trans QQ.out q); have qs := Lib.hid q; clear q)))
      refine code_of (fun w' => Bx w' w5.heap.size #[.int .i64 k0, .int .i64 k1, .int .i64 k2] 23 ∧ Qw wr w' ∧ Bx w' N0 #[.int .i64 k0, .int .i64 k1, .int .i64 k2] 23) ⟨Bx.new _ _ _, Qw.al QS.out _, (B0.out.kept qs.out).alloc _⟩ ?_
      clear y0 y1 y2 QS qs QQ B0
      generalize w5.heap.size = N1 at *
      rintro w5 ⟨bb, qq, b0_⟩
      have B1 := Lib.hid bb
      have QQ := Lib.hid qq
      clear bb qq
      have B0 := Lib.hid b0_
      clear b0_
      have y0 := (XW.out _ QQ.out).cell' 0 (.int .i64 a) rfl
      have y1 := (XW.out _ QQ.out).cell' 1 (.int .i64 b) rfl
      have y2 := (XW.out _ QQ.out).cell' 2 (.int .i64 c) rfl
      go_upto_region 10 with (first | (refine ld_fr 7 rfl (FW.out _ QQ.out) ?_) | (go_at_call 22; ((with_reducible refine (FR.out _ (Qw.trans HQ.out QQ.out)).mono ?_); rintro e w5 ⟨rfl, q⟩; have QS := Lib.hid (Qw.trans QQ.out q); have qs := Lib.hid q; clear q)))
      refine code_of (fun w' => Bx w' w5.heap.size #[.int .i64 l0, .int .i64 l1, .int .i64 l2] 23 ∧ Qw wr w' ∧ Bx w' N0 #[.int .i64 k0, .int .i64 k1, .int .i64 k2] 23 ∧ Bx w' N1 #[.int .i64 k0, .int .i64 k1, .int .i64 k2] 23) ⟨Bx.new _ _ _, Qw.al QS.out _, (B0.out.kept qs.out).alloc _, (B1.out.kept qs.out).alloc _⟩ ?_
      clear y0 y1 y2 QS qs QQ B0 B1
      generalize w5.heap.size = N2 at *
      rintro w5 ⟨bb, qq, b0_, b1_⟩
      have B2 := Lib.hid bb
      have QQ := Lib.hid qq
      clear bb qq
      have B0 := Lib.hid b0_
      clear b0_
      have B1 := Lib.hid b1_
      clear b1_
      have y0 := (XW.out _ QQ.out).cell' 0 (.int .i64 a) rfl
      have y1 := (XW.out _ QQ.out).cell' 1 (.int .i64 b) rfl
      have y2 := (XW.out _ QQ.out).cell' 2 (.int .i64 c) rfl
      go_upto_region 11 with (first | (refine ld_fr 7 rfl (FW.out _ QQ.out) ?_) | (go_at_call 23; ((with_reducible refine (RF.out _).mono ?_); rintro e w5 ⟨rfl, q⟩; have QS := Lib.hid (Qw.trans QQ.out q); have qs := Lib.hid q; clear q)))
      refine code_of (fun w' => Bx w' w5.heap.size #[.int .i64 l0, .int .i64 l1, .int .i64 l2] 23 ∧ Qw wr w' ∧ Bx w' N0 #[.int .i64 k0, .int .i64 k1, .int .i64 k2] 23 ∧ Bx w' N1 #[.int .i64 k0, .int .i64 k1, .int .i64 k2] 23 ∧ Bx w' N2 #[.int .i64 l0, .int .i64 l1, .int .i64 l2] 23) ⟨Bx.new _ _ _, Qw.al QS.out _, (B0.out.kept qs.out).alloc _, (B1.out.kept qs.out).alloc _, (B2.out.kept qs.out).alloc _⟩ ?_
      clear y0 y1 y2 QS qs QQ B0 B1 B2
      generalize w5.heap.size = N3 at *
      rintro w5 ⟨bb, qq, b0_, b1_, b2_⟩
      have B3 := Lib.hid bb
      have QQ := Lib.hid qq
      clear bb qq
      have B0 := Lib.hid b0_
      clear b0_
      have B1 := Lib.hid b1_
      clear b1_
      have B2 := Lib.hid b2_
      clear b2_
      have n00 := B0.out.cell' 0 (.int .i64 k0) rfl
      have n01 := B0.out.cell' 1 (.int .i64 k1) rfl
      have n02 := B0.out.cell' 2 (.int .i64 k2) rfl
      have n10 := B1.out.cell' 0 (.int .i64 k0) rfl
      have n11 := B1.out.cell' 1 (.int .i64 k1) rfl
      have n12 := B1.out.cell' 2 (.int .i64 k2) rfl
      have n20 := B2.out.cell' 0 (.int .i64 l0) rfl
      have n21 := B2.out.cell' 1 (.int .i64 l1) rfl
      have n22 := B2.out.cell' 2 (.int .i64 l2) rfl
      have n30 := B3.out.cell' 0 (.int .i64 l0) rfl
      have n31 := B3.out.cell' 1 (.int .i64 l1) rfl
      have n32 := B3.out.cell' 2 (.int .i64 l2) rfl
      have y0 := (XW.out _ QQ.out).cell' 0 (.int .i64 a) rfl
      have y1 := (XW.out _ QQ.out).cell' 1 (.int .i64 b) rfl
      have y2 := (XW.out _ QQ.out).cell' 2 (.int .i64 c) rfl
      go_upto_region 14 with (go_at_call 24; ((with_reducible refine (PO.out _).mono ?_); rintro e w7 ⟨rfl, q⟩; have Q7 := Lib.hid (Qw.trans QQ.out q); have y0 := (XW.out _ Q7.out).cell' 0 (.int .i64 a) rfl; have y1 := (XW.out _ Q7.out).cell' 1 (.int .i64 b) rfl; have y2 := (XW.out _ Q7.out).cell' 2 (.int .i64 c) rfl; have g0 := (XW.out _ Q7.out).free 0; have g1 := (XW.out _ Q7.out).free 1; have g2 := (XW.out _ Q7.out).free 2; clear q))
      obtain ⟨ba1, ba2⟩ := bt_bd a
      obtain ⟨bb1, bb2⟩ := bt_bd b
      obtain ⟨bc1, bc2⟩ := bt_bd c
      refine code_of (fun w' => Bx w' w.heap.size #[.int .i64 (bt a), .int .i64 (bt b), .int .i64 (bt c)] 23 ∧ Bx w' P (frc f) FT ∧ Qw w w') ⟨(XW.out _ Q7.out).st3 _ _ _, fst3 (FW.out _ Q7.out) nA _ _ _, Qw.st3 (Qw.trans HQ.out Q7.out) hA2 _ _ _⟩ ?_
      clear TO RT FR RF PO XW FW QQ Q7 HQ B0 B1 B2 B3 y0 y1 y2 g0 g1 g2 n00 n01 n02 n10 n11 n12 n20 n21 n22 n30 n31 n32
      generalize bt a = a at *
      generalize bt b = b at *
      generalize bt c = c at *
      rintro w8 ⟨x8, f8, q8⟩
      have X8 := Lib.hid x8
      have F8 := Lib.hid f8
      have Q8 := Lib.hid q8
      clear x8 f8 q8
      by_cases h1 : i = 1
      · subst h1
        obtain ⟨ms1, ms2⟩ := ms
        go_upto_region 16 with (go_at_call 15; ((with_reducible refine (MS.out _).mono ?_); rintro e w' ⟨rfl, rfl⟩))
        have M0 := Lib.hid (fun w => modW a (1 + sm) (by omega) (by omega) (by omega) (by omega) w)
        have M1 := Lib.hid (fun w => modW b (1 + sm) (by omega) (by omega) (by omega) (by omega) w)
        have M2 := Lib.hid (fun w => modW c (1 + sm) (by omega) (by omega) (by omega) (by omega) w)
        have d0 : 0 ≤ a % (1 + sm) ∧ a % (1 + sm) < 1 + sm := ⟨Int.emod_nonneg _ (by omega), Int.emod_lt_of_pos _ (by omega)⟩
        have d1 : 0 ≤ b % (1 + sm) ∧ b % (1 + sm) < 1 + sm := ⟨Int.emod_nonneg _ (by omega), Int.emod_lt_of_pos _ (by omega)⟩
        have d2 : 0 ≤ c % (1 + sm) ∧ c % (1 + sm) < 1 + sm := ⟨Int.emod_nonneg _ (by omega), Int.emod_lt_of_pos _ (by omega)⟩
        generalize a % (1 + sm) = a' at *
        generalize b % (1 + sm) = b' at *
        generalize c % (1 + sm) = c' at *
        have x0 := X8.out.kcell 0 (.int .i64 a) rfl
        have x1 := X8.out.kcell 1 (.int .i64 b) rfl
        have x2 := X8.out.kcell 2 (.int .i64 c) rfl
        refine region_kept_tail 13 (by kernel_rfl) (by kernel_rfl) ?_
        simp only [List.take_succ_cons, List.take_zero, List.drop_succ_cons, List.drop_zero]
        repeat (go_big_quiet_step (first | (go_at_call 15; with_reducible exact Kept.same (M0.out _)) | (go_at_call 15; with_reducible exact Kept.same (M1.out _)) | (go_at_call 15; with_reducible exact Kept.same (M2.out _))))
        refine wpQuiet_nil ?_
        intro w9 q9
        clear x0 x1 x2
        have X9 := Lib.hid (X8.out.kept q9)
        have F9 := Lib.hid (F8.out.kept q9)
        have Q9 := Lib.hid (Qw.trans Q8.out q9)
        clear q9 X8 F8 Q8
        have r0 := X9.out.cell' 0 (.int .i64 a) rfl
        have g0 := X9.out.free 0
        have r1 := X9.out.cell' 1 (.int .i64 b) rfl
        have g1 := X9.out.free 1
        have r2 := X9.out.cell' 2 (.int .i64 c) rfl
        have g2 := X9.out.free 2
        obtain ⟨d3, d4⟩ := d0
        obtain ⟨d5, d6⟩ := d1
        obtain ⟨d7, d8⟩ := d2
        go_wp2
        go_roundw
        case rel => exact ⟨2, a', b', c', by omega, rfl, by omega, by omega, by omega, by omega, by omega, by omega, Lib.hid (X9.out.st3 _ _ _), Lib.hid (fst3 F9.out nA _ _ _), Lib.hid (Qw.st3 Q9.out hA2 _ _ _)⟩
        case measure => simp [intOf]
      · have zi : ((i : Int) == 1) = false := beq_eq_false_iff_ne.2 (by omega)
        clear h1
        go_wp2
        go_roundw
        case rel => exact ⟨i + 1, a, b, c, by omega, by go_num, by omega, by omega, by omega, by omega, by omega, by omega, X8, F8, Q8⟩
        case measure => simp [intOf]; omega
    · obtain rfl : i = 3 := by omega
      clear h3 hi
      go_wp2_with ((go_at_call 12; ((with_reducible refine (AW.out _ HQ.out).mono ?_); rintro e w9 ⟨rfl, q⟩; have Q9 := Lib.hid q; clear q)))
      go_ret
      exact ⟨rfl, Qw.trans HQ.out Q9.out⟩

/-! ### the row and the card -/
theorem reads_frameMaps (os : Os) {H : Type} (enc : TypeId × Value → H) : ∃ places, DataW.whole enc Tryd.prog ((laidWorldC os).forCall (fun _ _ => 0) ⟨#[], #[.slice none 0 0, .agg #[.int .i64 0, .int .i64 0, .int .i64 0], .int .i64 0], []⟩).memory Tryd.f4.params.toList Rows.frameMapsSpec.vars false #[(.slice none 0 0 : Value), .agg #[.int .i64 0, .int .i64 0, .int .i64 0], .int .i64 0].toList 8 = some ([.nil, .agg [.lit (.int .i64 0), .lit (.int .i64 0), .lit (.int .i64 0)], .lit (.int .i64 0)], [], places) :=
  ⟨[], by kernel_rfl⟩
set_option maxRecDepth 100000 in
theorem lifted_frameMaps (os : Os) (started : os.Started) (H : Type) (enc : TypeId × Value → H) (F : Stop.Interp) :
    ReturnsInHanded {} Tryd.checked os 4 .any ((OpenSpec.ofChange Rows.frameMapsSpec).preRow enc Tryd.prog Tryd.f4 Rows.frameMapsRow.domain false Rows.frameMapsRow.laid) (((OpenSpec.ofChange Rows.frameMapsSpec).at F).post enc Tryd.prog Tryd.f4 false true false false) := by
  obtain ⟨places, hx⟩ := reads_frameMaps os enc
  refine returnsInHanded_of_row (C := Tryd.checked) (s := OpenSpec.ofChange Rows.frameMapsSpec) ownC started (by kernel_rfl) Tryd.func4
    (witness_row_at (enc := enc) (C := Tryd.checked) false (laidWorldC os) #[.slice none 0 0, .agg #[.int .i64 0, .int .i64 0, .int .i64 0], .int .i64 0] rfl (by kernel_rfl) (by kernel_rfl) (by kernel_rfl)
      (OpenSpec.preRow_of_cond 8 hx (by kernel_rfl) (fun k hk => by cases hk) (by kernel_rfl) (laid_metC os _))) ?_
  intro W base args ds gs before hval0 hW _ _ _ hL _ _
  have ht : Tc W := tableC hL
  have hval : ∀ (j : Nat) t v, Tryd.f4.params[j]? = some t → args[j]? = some v → Value.okWide Tryd.prog W .any base t v := hval0
  have hW' := hW
  obtain ⟨p, q, hA0, hV, rfl, hfz, hnd⟩ := hW
  have hA : DataW.TrodAll enc Tryd.prog W 0 (fun _ => true) true Tryd.f4.params.toList args.toList ds p := hA0
  rw [Tryd.params4] at hA hval
  obtain ⟨v0, vs0, d0, ds0, p0, q0, hargs, rfl, rfl, h0, r0⟩ := trodAll_cons hA
  obtain ⟨v1, vs1, d1, ds1, p1, q1, rfl, rfl, rfl, h1, r1⟩ := trodAll_cons r0
  obtain ⟨v2, vs2, d2, ds2, p2, q2, rfl, rfl, rfl, h2, r2⟩ := trodAll_cons r1
  obtain ⟨rfl, rfl, rfl⟩ := trodAll_nil r2
  obtain rfl : args = #[v0, v1, v2] := by cases args; simp_all
  obtain ⟨rfl, rfl⟩ := trodVars_none hV
  obtain ⟨u0, hu0⟩ := inM_ints (hval 0 27 v0 rfl rfl) h0
  obtain ⟨a1_0, a1_1, a1_2, rfl, rfl, rfl, w1_0, w1_1, w1_2⟩ := open_vec (hval 1 23 v1 rfl rfl) h1
  obtain ⟨x1_0, y1_0⟩ := i64_wfC w1_0
  obtain ⟨x1_1, y1_1⟩ := i64_wfC w1_1
  obtain ⟨x1_2, y1_2⟩ := i64_wfC w1_2
  obtain ⟨a2, rfl, rfl, rfl, w2⟩ := open_int Tryd.underlying3 (hval 2 3 v2 rfl rfl) h2
  obtain ⟨x2, y2⟩ := i64_wfC w2
  clear hA0 hval0 hL
  simp only [List.append_nil] at hW'
  refine (walk_frameMaps v0 u0 a1_0 x1_0 y1_0 a1_1 x1_1 y1_1 a1_2 x1_2 y1_2 a2 x2 y2 W hu0 ht).mono fun e W' ⟨he, bel⟩ => ?_
  subst he
  exact ⟨_, rfl, _, _, _, [], _, [], hW', trodAll_mk1 (shut_bool Tryd.underlying4 _), (trodAll_cons_mk (outM_ints h0 bel (fun x hx => hW'.lt x (by first | exact hx | simp [hx]))) (trodAll_cons_mk (shut_vec w1_0 w1_1 w1_2) (trodAll_cons_mk (shut_int Tryd.underlying3 w2) trodAll_mk0))), rfl, Below.frame bel _, fun h => by cases h⟩

theorem frameMaps_said : Rows.FrameMapsSaid :=
  OpenClaim.holds_of_cond 4 Tryd.f4 rfl rfl rfl rfl rfl rfl rfl ⟨rfl, rfl, rfl, rfl, rfl⟩ rfl rfl rfl rfl rfl (by kernel_rfl) Tryd.func4 (by kernel_rfl)
    (of_decide_eq_true (by kernel_rfl)) (by unfold Func.isWrapper; first | (rw [if_pos (by decide +kernel)]; kernel_rfl) | (rw [if_neg (by decide +kernel)]; exact ⟨rfl, rfl⟩))
    (fun os started H enc _ F => by rw [OpenClaim.pre_eq_preRow]; exact lifted_frameMaps os started H enc F)

theorem plain_frameMaps (f : FuncId) (fn : Func) (hf : Tryd.pinned.checked.prog.funcNamed "cnc/cnclaw12.FrameMaps" = some f) (hfn : Tryd.pinned.checked.prog.funcs[f]? = some fn) :
    false = Tryd.pinned.checked.prog.looks [] ∧ ∀ (j : Nat) t, fn.params[j]? = some t → Tryd.pinned.checked.prog.wantsStandIn t = false := by
  obtain rfl : f = 4 := Option.some.inj ((show Tryd.prog.funcNamed "cnc/cnclaw12.FrameMaps" = some 4 by kernel_rfl).symm.trans hf) |>.symm
  obtain rfl : fn = Tryd.f4 := (Option.some.inj (Tryd.func4.symm.trans hfn)).symm
  refine ⟨by kernel_rfl, fun j t ht => ?_⟩
  rw [Tryd.params4] at ht
  have hm : t = 27 ∨ t = 23 ∨ t = 3 := by simpa using Array.mem_of_getElem? ht
  rcases hm with rfl | rfl | rfl
  · exact (show Tryd.prog.wantsStandIn 27 = false by kernel_rfl)
  · exact (show Tryd.prog.wantsStandIn 23 = false by kernel_rfl)
  · exact (show Tryd.prog.wantsStandIn 3 = false by kernel_rfl)

/-- The statement. -/
theorem frameMaps_card : Rows.FrameMapsCardSaid :=
  Claim7.holds_tied_plain_at .later [] _ _ _ _ frameMaps_said (fun _ h => by cases h) (by kernel_rfl) (fun _ h => by cases h) frameMaps_row_tie rfl ⟨rfl, rfl⟩ (by kernel_rfl) rfl plain_frameMaps (by kernel_rfl)

end Go.Proofs.YtnjcbgnghfppoaaDoor
