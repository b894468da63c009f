import Derived.Test.YtnjcbgnghfppoaaDoorGN
import Derived.Test.YtnjcbgnghfppoaaDoorGKb

/- The walk of the specification's Valid of frames. -/
set_option linter.unusedVariables false
set_option linter.unusedSimpArgs false
namespace Go.Proofs.YtnjcbgnghfppoaaDoor
open Go.RowKit

theorem vf_no {f : Fm.F} (h : Fm.vldF f = true → False) : Fm.vldF f = false := by
  cases e : Fm.vldF f
  · rfl
  · exact absurd e (fun e => h e)
theorem vf_parts {f : Fm.F} (h : Fm.vldF f = true) : 54 ≤ f.n ∧ f.n ≤ 59 ∧ -1048576 ≤ f.g ∧ f.g ≤ 1048576 ∧ 0 ≤ f.a ∧ f.a < 360000000 := by
  unfold Fm.vldF Fm.hasB at h
  simp only [Bool.and_eq_true, decide_eq_true_eq] at h
  obtain ⟨_, ⟨a, b⟩, _, _, _, g, t⟩ := h
  have g3 := (Fm.wth_bd g).2.2
  have ta : 0 ≤ f.a ∧ f.a < 360000000 := by
    unfold Fm.trnB at t
    cases e : f.t
    · rw [e] at t
      simp [Fm.zer] at t
      omega
    · rw [e] at t
      simp at t
      omega
  omega
theorem vf_z {f : Fm.F} (h : Fm.vldF f = true) (e : f.t = false) : f.p = 0 ∧ f.ex = 0 ∧ f.ey = 0 ∧ f.ez = 0 ∧ f.a = 0 := by
  unfold Fm.vldF Fm.trnB Fm.zer at h
  rw [e] at h
  simp only [Bool.and_eq_true, decide_eq_true_eq, Bool.false_eq_true, if_false] at h
  omega
theorem vf_mk {f : Fm.F} {b : Bool} (ha : Fm.allB f 6 = true) (hl : wth f.lx f.ly f.lz = true) (hm : wth f.sx f.sy f.sz = true) (he : wth f.ex f.ey f.ez = true) (n1 : 54 ≤ f.n) (n2 : f.n ≤ 59) (g : -1048576 ≤ f.g ∧ f.g ≤ 1048576) (t : Fm.trnB f = b) : Fm.vldF f = b := by
  have hh : Fm.hasB f = true := by simp [Fm.hasB, n1, n2]
  have hg : wth 0 0 f.g = true := Fm.wth_of (by omega) (by omega) g
  simp [Fm.vldF, ha, hh, hl, hm, he, hg, t]
theorem vf_noT {f : Fm.F} (ha : Fm.allB f 6 = true) (hl : wth f.lx f.ly f.lz = true) (hm : wth f.sx f.sy f.sz = true) (he : wth f.ex f.ey f.ez = true) (n1 : 54 ≤ f.n) (n2 : f.n ≤ 59) (g : -1048576 ≤ f.g ∧ f.g ≤ 1048576) (e : f.t = false) (_ : 0 ≤ f.a)
    (z : f.p = 0 ∧ f.ex = 0 ∧ f.ey = 0 ∧ f.ez = 0 ∧ f.a = 0) : Fm.vldF f = true :=
  vf_mk ha hl hm he n1 n2 g (by simp [Fm.trnB, Fm.zer, e, z])
theorem vf_yesT {f : Fm.F} (ha : Fm.allB f 6 = true) (hl : wth f.lx f.ly f.lz = true) (hm : wth f.sx f.sy f.sz = true) (he : wth f.ex f.ey f.ez = true) (n1 : 54 ≤ f.n) (n2 : f.n ≤ 59) (g : -1048576 ≤ f.g ∧ f.g ≤ 1048576) (e : f.t = true) (a : 0 ≤ f.a ∧ f.a < 360000000) : Fm.vldF f = pin f.p :=
  vf_mk ha hl hm he n1 n2 g (by simp [Fm.trnB, e, a])
set_option maxRecDepth 100000 in
set_option maxHeartbeats 8000000 in
theorem rfValid (f : Fm.F) (hw : Fm.Wf f) (w : World) : Calls Tryd.prog 17 #[.agg (frc f)] w fun e w' => e = .returned (.bool (Fm.vldF f)) ∧ Qw w w' := by
  have cs := fun (k : Nat) (hk : k < 6) w => vr_within (f.c (3 * k)) (f.c (3 * k + 1)) (f.c (3 * k + 2)) (hw.c _ (by omega)).1 (hw.c _ (by omega)).2 (hw.c _ (by omega)).1 (hw.c _ (by omega)).2 (hw.c _ (by omega)).1 (hw.c _ (by omega)).2 w
  have CS := Lib.hid cs
  have CL := Lib.hid (fun w => vr_within f.lx f.ly f.lz hw.lx.1 hw.lx.2 hw.ly.1 hw.ly.2 hw.lz.1 hw.lz.2 w)
  have CM := Lib.hid (fun w => vr_within f.sx f.sy f.sz hw.sx.1 hw.sx.2 hw.sy.1 hw.sy.2 hw.sz.1 hw.sz.2 w)
  have CE := Lib.hid (fun w => vr_within f.ex f.ey f.ez hw.ex.1 hw.ex.2 hw.ey.1 hw.ey.2 hw.ez.1 hw.ez.2 w)
  have HP := Lib.hid (fun w => rfPlane f.p w)
  clear hw cs
  go_enter Tryd.func17, Tryd.ntmps17
  go_wp2_with (refine box_fr 0 rfl ?_; intro w1 P hp X q; have X1 := Lib.hid X; have Q1 := Lib.hid q; clear X q hp)
  go_loopw [3] (fun kv wr => ∃ k : Nat, k ≤ 6 ∧ kv = .int .i64 (k : Int) ∧ Hid (Fm.allB f k = true) ∧ Hid (Qw w wr) ∧ Hid (Bx wr P (frc f) FT)) (fun kv _ => 6 - (intOf kv).toNat)
  case atStart => exact ⟨0, by omega, rfl, Lib.hid rfl, Q1, X1⟩
  case round =>
    clear Q1 X1
    obtain ⟨k, hk, rfl, HA, HQ, HX⟩ := hrel
    by_cases h6 : k < 6
    · have h6' : k = 0 ∨ k = 1 ∨ k = 2 ∨ k = 3 ∨ k = 4 ∨ k = 5 := by omega
      clear CL CM CE HP hk
      rcases h6' with rfl | rfl | rfl | rfl | rfl | rfl
      · have c1 := CS.out 0 h6
        have x0 := HX.out.cell' 0 (.int .i64 (f.c 0)) rfl
        have x1 := HX.out.cell' 1 (.int .i64 (f.c 1)) rfl
        have x2 := HX.out.cell' 2 (.int .i64 (f.c 2)) rfl
        cases hs : Fm.sysB f 0
        · have EV : Hid (Fm.vldF f = false) := Lib.hid (vldF_f h6 hs)
          unfold Fm.sysB at hs
          rw [hs] at c1
          have C1 := Lib.hid c1
          clear c1 hs CS
          go_wp2_with (go_at_call 46; ((with_reducible refine (C1.out _).mono ?_); rintro e w3 ⟨rfl, q⟩; have Q3 := Lib.hid (Qw.trans HQ.out q); clear q))
          go_ret
          exact ⟨by rw [EV.out]; rfl, Q3.out⟩
        · have EA : Hid (Fm.allB f 1 = true) := Lib.hid (by rw [Fm.allB, HA.out, hs]; rfl)
          unfold Fm.sysB at hs
          rw [hs] at c1
          have C1 := Lib.hid c1
          clear c1 hs CS
          go_wp2_with (go_at_call 46; ((with_reducible refine (C1.out _).mono ?_); rintro e w3 ⟨rfl, q⟩; have Q3 := Lib.hid (Qw.trans HQ.out q); have X3 := Lib.hid (HX.out.kept q); clear q))
          go_roundw
          case rel => exact ⟨1, by omega, rfl, EA, Q3, X3⟩
          case measure => simp [intOf]
      · have c1 := CS.out 1 h6
        have x0 := HX.out.cell' 3 (.int .i64 (f.c 3)) rfl
        have x1 := HX.out.cell' 4 (.int .i64 (f.c 4)) rfl
        have x2 := HX.out.cell' 5 (.int .i64 (f.c 5)) rfl
        cases hs : Fm.sysB f 1
        · have EV : Hid (Fm.vldF f = false) := Lib.hid (vldF_f h6 hs)
          unfold Fm.sysB at hs
          rw [hs] at c1
          have C1 := Lib.hid c1
          clear c1 hs CS
          go_wp2_with (go_at_call 46; ((with_reducible refine (C1.out _).mono ?_); rintro e w3 ⟨rfl, q⟩; have Q3 := Lib.hid (Qw.trans HQ.out q); clear q))
          go_ret
          exact ⟨by rw [EV.out]; rfl, Q3.out⟩
        · have EA : Hid (Fm.allB f 2 = true) := Lib.hid (by rw [Fm.allB, HA.out, hs]; rfl)
          unfold Fm.sysB at hs
          rw [hs] at c1
          have C1 := Lib.hid c1
          clear c1 hs CS
          go_wp2_with (go_at_call 46; ((with_reducible refine (C1.out _).mono ?_); rintro e w3 ⟨rfl, q⟩; have Q3 := Lib.hid (Qw.trans HQ.out q); have X3 := Lib.hid (HX.out.kept q); clear q))
          go_roundw
          case rel => exact ⟨2, by omega, rfl, EA, Q3, X3⟩
          case measure => simp [intOf]
      · have c1 := CS.out 2 h6
        have x0 := HX.out.cell' 6 (.int .i64 (f.c 6)) rfl
        have x1 := HX.out.cell' 7 (.int .i64 (f.c 7)) rfl
        have x2 := HX.out.cell' 8 (.int .i64 (f.c 8)) rfl
        cases hs : Fm.sysB f 2
        · have EV : Hid (Fm.vldF f = false) := Lib.hid (vldF_f h6 hs)
          unfold Fm.sysB at hs
          rw [hs] at c1
          have C1 := Lib.hid c1
          clear c1 hs CS
          go_wp2_with (go_at_call 46; ((with_reducible refine (C1.out _).mono ?_); rintro e w3 ⟨rfl, q⟩; have Q3 := Lib.hid (Qw.trans HQ.out q); clear q))
          go_ret
          exact ⟨by rw [EV.out]; rfl, Q3.out⟩
        · have EA : Hid (Fm.allB f 3 = true) := Lib.hid (by rw [Fm.allB, HA.out, hs]; rfl)
          unfold Fm.sysB at hs
          rw [hs] at c1
          have C1 := Lib.hid c1
          clear c1 hs CS
          go_wp2_with (go_at_call 46; ((with_reducible refine (C1.out _).mono ?_); rintro e w3 ⟨rfl, q⟩; have Q3 := Lib.hid (Qw.trans HQ.out q); have X3 := Lib.hid (HX.out.kept q); clear q))
          go_roundw
          case rel => exact ⟨3, by omega, rfl, EA, Q3, X3⟩
          case measure => simp [intOf]
      · have c1 := CS.out 3 h6
        have x0 := HX.out.cell' 9 (.int .i64 (f.c 9)) rfl
        have x1 := HX.out.cell' 10 (.int .i64 (f.c 10)) rfl
        have x2 := HX.out.cell' 11 (.int .i64 (f.c 11)) rfl
        cases hs : Fm.sysB f 3
        · have EV : Hid (Fm.vldF f = false) := Lib.hid (vldF_f h6 hs)
          unfold Fm.sysB at hs
          rw [hs] at c1
          have C1 := Lib.hid c1
          clear c1 hs CS
          go_wp2_with (go_at_call 46; ((with_reducible refine (C1.out _).mono ?_); rintro e w3 ⟨rfl, q⟩; have Q3 := Lib.hid (Qw.trans HQ.out q); clear q))
          go_ret
          exact ⟨by rw [EV.out]; rfl, Q3.out⟩
        · have EA : Hid (Fm.allB f 4 = true) := Lib.hid (by rw [Fm.allB, HA.out, hs]; rfl)
          unfold Fm.sysB at hs
          rw [hs] at c1
          have C1 := Lib.hid c1
          clear c1 hs CS
          go_wp2_with (go_at_call 46; ((with_reducible refine (C1.out _).mono ?_); rintro e w3 ⟨rfl, q⟩; have Q3 := Lib.hid (Qw.trans HQ.out q); have X3 := Lib.hid (HX.out.kept q); clear q))
          go_roundw
          case rel => exact ⟨4, by omega, rfl, EA, Q3, X3⟩
          case measure => simp [intOf]
      · have c1 := CS.out 4 h6
        have x0 := HX.out.cell' 12 (.int .i64 (f.c 12)) rfl
        have x1 := HX.out.cell' 13 (.int .i64 (f.c 13)) rfl
        have x2 := HX.out.cell' 14 (.int .i64 (f.c 14)) rfl
        cases hs : Fm.sysB f 4
        · have EV : Hid (Fm.vldF f = false) := Lib.hid (vldF_f h6 hs)
          unfold Fm.sysB at hs
          rw [hs] at c1
          have C1 := Lib.hid c1
          clear c1 hs CS
          go_wp2_with (go_at_call 46; ((with_reducible refine (C1.out _).mono ?_); rintro e w3 ⟨rfl, q⟩; have Q3 := Lib.hid (Qw.trans HQ.out q); clear q))
          go_ret
          exact ⟨by rw [EV.out]; rfl, Q3.out⟩
        · have EA : Hid (Fm.allB f 5 = true) := Lib.hid (by rw [Fm.allB, HA.out, hs]; rfl)
          unfold Fm.sysB at hs
          rw [hs] at c1
          have C1 := Lib.hid c1
          clear c1 hs CS
          go_wp2_with (go_at_call 46; ((with_reducible refine (C1.out _).mono ?_); rintro e w3 ⟨rfl, q⟩; have Q3 := Lib.hid (Qw.trans HQ.out q); have X3 := Lib.hid (HX.out.kept q); clear q))
          go_roundw
          case rel => exact ⟨5, by omega, rfl, EA, Q3, X3⟩
          case measure => simp [intOf]
      · have c1 := CS.out 5 h6
        have x0 := HX.out.cell' 15 (.int .i64 (f.c 15)) rfl
        have x1 := HX.out.cell' 16 (.int .i64 (f.c 16)) rfl
        have x2 := HX.out.cell' 17 (.int .i64 (f.c 17)) rfl
        cases hs : Fm.sysB f 5
        · have EV : Hid (Fm.vldF f = false) := Lib.hid (vldF_f h6 hs)
          unfold Fm.sysB at hs
          rw [hs] at c1
          have C1 := Lib.hid c1
          clear c1 hs CS
          go_wp2_with (go_at_call 46; ((with_reducible refine (C1.out _).mono ?_); rintro e w3 ⟨rfl, q⟩; have Q3 := Lib.hid (Qw.trans HQ.out q); clear q))
          go_ret
          exact ⟨by rw [EV.out]; rfl, Q3.out⟩
        · have EA : Hid (Fm.allB f 6 = true) := Lib.hid (by rw [Fm.allB, HA.out, hs]; rfl)
          unfold Fm.sysB at hs
          rw [hs] at c1
          have C1 := Lib.hid c1
          clear c1 hs CS
          go_wp2_with (go_at_call 46; ((with_reducible refine (C1.out _).mono ?_); rintro e w3 ⟨rfl, q⟩; have Q3 := Lib.hid (Qw.trans HQ.out q); have X3 := Lib.hid (HX.out.kept q); clear q))
          go_roundw
          case rel => exact ⟨6, by omega, rfl, EA, Q3, X3⟩
          case measure => simp [intOf]
    · obtain rfl : k = 6 := by omega
      clear h6 CS
      cases hl : wth f.lx f.ly f.lz
      · have EV : Hid (Fm.vldF f = false) := Lib.hid (by simp [Fm.vldF, hl])
        have K0 := CL.out
        rw [hl] at K0
        replace CL := Lib.hid K0
        clear K0 hl
        have c19 := HX.out.cell' 19 (.int .i64 f.lx) rfl
        have c20 := HX.out.cell' 20 (.int .i64 f.ly) rfl
        have c21 := HX.out.cell' 21 (.int .i64 f.lz) rfl
        go_wp2_with (first | (go_at_call 46; ((with_reducible refine (CL.out _).mono ?_); rintro e w4 ⟨rfl, q⟩; have HX0 := Lib.hid (HX.out.kept q); have HQ0 := Lib.hid (Qw.trans HQ.out q); have c22 := HX0.out.cell' 22 (.int .i64 f.sx) rfl; have c23 := HX0.out.cell' 23 (.int .i64 f.sy) rfl; have c24 := HX0.out.cell' 24 (.int .i64 f.sz) rfl; clear q)))
        go_ret
        exact ⟨by rw [EV.out]; rfl, HQ0.out⟩
      · cases hm : wth f.sx f.sy f.sz
        · have EV : Hid (Fm.vldF f = false) := Lib.hid (by simp [Fm.vldF, hl, hm])
          have K0 := CL.out
          rw [hl] at K0
          replace CL := Lib.hid K0
          have K1 := CM.out
          rw [hm] at K1
          replace CM := Lib.hid K1
          clear K0 K1 hl hm
          have c19 := HX.out.cell' 19 (.int .i64 f.lx) rfl
          have c20 := HX.out.cell' 20 (.int .i64 f.ly) rfl
          have c21 := HX.out.cell' 21 (.int .i64 f.lz) rfl
          go_wp2_with (first | (go_at_call 46; ((with_reducible refine (CL.out _).mono ?_); rintro e w4 ⟨rfl, q⟩; have HX0 := Lib.hid (HX.out.kept q); have HQ0 := Lib.hid (Qw.trans HQ.out q); have c22 := HX0.out.cell' 22 (.int .i64 f.sx) rfl; have c23 := HX0.out.cell' 23 (.int .i64 f.sy) rfl; have c24 := HX0.out.cell' 24 (.int .i64 f.sz) rfl; clear q)) | (go_at_call 46; ((with_reducible refine (CM.out _).mono ?_); rintro e w4 ⟨rfl, q⟩; have HX1 := Lib.hid (HX0.out.kept q); have HQ1 := Lib.hid (Qw.trans HQ0.out q); have c28 := HX1.out.cell' 28 (.int .i64 f.ex) rfl; have c29 := HX1.out.cell' 29 (.int .i64 f.ey) rfl; have c30 := HX1.out.cell' 30 (.int .i64 f.ez) rfl; clear q)))
          go_ret
          exact ⟨by rw [EV.out]; rfl, HQ1.out⟩
        · cases he : wth f.ex f.ey f.ez
          · have EV : Hid (Fm.vldF f = false) := Lib.hid (by simp [Fm.vldF, hl, hm, he])
            have K0 := CL.out
            rw [hl] at K0
            replace CL := Lib.hid K0
            have K1 := CM.out
            rw [hm] at K1
            replace CM := Lib.hid K1
            have K2 := CE.out
            rw [he] at K2
            replace CE := Lib.hid K2
            clear K0 K1 K2 hl hm he
            have c19 := HX.out.cell' 19 (.int .i64 f.lx) rfl
            have c20 := HX.out.cell' 20 (.int .i64 f.ly) rfl
            have c21 := HX.out.cell' 21 (.int .i64 f.lz) rfl
            go_wp2_with (first | (go_at_call 46; ((with_reducible refine (CL.out _).mono ?_); rintro e w4 ⟨rfl, q⟩; have HX0 := Lib.hid (HX.out.kept q); have HQ0 := Lib.hid (Qw.trans HQ.out q); have c22 := HX0.out.cell' 22 (.int .i64 f.sx) rfl; have c23 := HX0.out.cell' 23 (.int .i64 f.sy) rfl; have c24 := HX0.out.cell' 24 (.int .i64 f.sz) rfl; clear q)) | (go_at_call 46; ((with_reducible refine (CM.out _).mono ?_); rintro e w4 ⟨rfl, q⟩; have HX1 := Lib.hid (HX0.out.kept q); have HQ1 := Lib.hid (Qw.trans HQ0.out q); have c28 := HX1.out.cell' 28 (.int .i64 f.ex) rfl; have c29 := HX1.out.cell' 29 (.int .i64 f.ey) rfl; have c30 := HX1.out.cell' 30 (.int .i64 f.ez) rfl; clear q)) | (go_at_call 46; ((with_reducible refine (CE.out _).mono ?_); rintro e w4 ⟨rfl, q⟩; have HX2 := Lib.hid (HX1.out.kept q); have HQ2 := Lib.hid (Qw.trans HQ1.out q); clear q)))
            go_ret
            exact ⟨by rw [EV.out]; rfl, HQ2.out⟩
          · have K0 := CL.out
            rw [hl] at K0
            have K1 := CM.out
            rw [hm] at K1
            have K2 := CE.out
            rw [he] at K2
            replace CL := Lib.hid K0
            replace CM := Lib.hid K1
            replace CE := Lib.hid K2
            clear K0 K1 K2
            have c19 := HX.out.cell' 19 (.int .i64 f.lx) rfl
            have c20 := HX.out.cell' 20 (.int .i64 f.ly) rfl
            have c21 := HX.out.cell' 21 (.int .i64 f.lz) rfl
            by_cases n1 : f.n < 54
            · have EV : Hid (Fm.vldF f = false) := Lib.hid (by exact vf_no (fun h => by have k := vf_parts h; omega))
              have d_n1 : decide (f.n < 54) = true := by simpa using n1
              clear hl hm he n1
              go_wp2_with (first | (go_at_call 46; ((with_reducible refine (CL.out _).mono ?_); rintro e w4 ⟨rfl, q⟩; have HX0 := Lib.hid (HX.out.kept q); have HQ0 := Lib.hid (Qw.trans HQ.out q); have c22 := HX0.out.cell' 22 (.int .i64 f.sx) rfl; have c23 := HX0.out.cell' 23 (.int .i64 f.sy) rfl; have c24 := HX0.out.cell' 24 (.int .i64 f.sz) rfl; clear q)) | (go_at_call 46; ((with_reducible refine (CM.out _).mono ?_); rintro e w4 ⟨rfl, q⟩; have HX1 := Lib.hid (HX0.out.kept q); have HQ1 := Lib.hid (Qw.trans HQ0.out q); have c28 := HX1.out.cell' 28 (.int .i64 f.ex) rfl; have c29 := HX1.out.cell' 29 (.int .i64 f.ey) rfl; have c30 := HX1.out.cell' 30 (.int .i64 f.ez) rfl; clear q)) | (go_at_call 46; ((with_reducible refine (CE.out _).mono ?_); rintro e w4 ⟨rfl, q⟩; have HX2 := Lib.hid (HX1.out.kept q); have HQ2 := Lib.hid (Qw.trans HQ1.out q); have c18 := HX2.out.cell' 18 (.int .i64 f.n) rfl; have c25 := HX2.out.cell' 25 (.int .i64 f.g) rfl; have c31 := HX2.out.cell' 31 (.int .i64 f.a) rfl; have c27 := HX2.out.cell' 27 (.int .i64 f.p) rfl; have c28 := HX2.out.cell' 28 (.int .i64 f.ex) rfl; have c29 := HX2.out.cell' 29 (.int .i64 f.ey) rfl; have c30 := HX2.out.cell' 30 (.int .i64 f.ez) rfl; clear q)) | (go_at_call 47; ((with_reducible refine (HP.out _).mono ?_); rintro e w5 ⟨rfl, rfl⟩)))
              go_ret
              exact ⟨by rw [EV.out]; rfl, HQ2.out⟩
            · by_cases n2 : f.n > 59
              · have EV : Hid (Fm.vldF f = false) := Lib.hid (by exact vf_no (fun h => by have k := vf_parts h; omega))
                have d_n1 : decide (f.n < 54) = false := by simpa using n1
                have d_n2 : decide (f.n > 59) = true := by simpa using n2
                clear hl hm he n1 n2
                go_wp2_with (first | (go_at_call 46; ((with_reducible refine (CL.out _).mono ?_); rintro e w4 ⟨rfl, q⟩; have HX0 := Lib.hid (HX.out.kept q); have HQ0 := Lib.hid (Qw.trans HQ.out q); have c22 := HX0.out.cell' 22 (.int .i64 f.sx) rfl; have c23 := HX0.out.cell' 23 (.int .i64 f.sy) rfl; have c24 := HX0.out.cell' 24 (.int .i64 f.sz) rfl; clear q)) | (go_at_call 46; ((with_reducible refine (CM.out _).mono ?_); rintro e w4 ⟨rfl, q⟩; have HX1 := Lib.hid (HX0.out.kept q); have HQ1 := Lib.hid (Qw.trans HQ0.out q); have c28 := HX1.out.cell' 28 (.int .i64 f.ex) rfl; have c29 := HX1.out.cell' 29 (.int .i64 f.ey) rfl; have c30 := HX1.out.cell' 30 (.int .i64 f.ez) rfl; clear q)) | (go_at_call 46; ((with_reducible refine (CE.out _).mono ?_); rintro e w4 ⟨rfl, q⟩; have HX2 := Lib.hid (HX1.out.kept q); have HQ2 := Lib.hid (Qw.trans HQ1.out q); have c18 := HX2.out.cell' 18 (.int .i64 f.n) rfl; have c25 := HX2.out.cell' 25 (.int .i64 f.g) rfl; have c31 := HX2.out.cell' 31 (.int .i64 f.a) rfl; have c27 := HX2.out.cell' 27 (.int .i64 f.p) rfl; have c28 := HX2.out.cell' 28 (.int .i64 f.ex) rfl; have c29 := HX2.out.cell' 29 (.int .i64 f.ey) rfl; have c30 := HX2.out.cell' 30 (.int .i64 f.ez) rfl; clear q)) | (go_at_call 47; ((with_reducible refine (HP.out _).mono ?_); rintro e w5 ⟨rfl, rfl⟩)))
                go_ret
                exact ⟨by rw [EV.out]; rfl, HQ2.out⟩
              · by_cases g1 : f.g > 1048576
                · have EV : Hid (Fm.vldF f = false) := Lib.hid (by exact vf_no (fun h => by have k := vf_parts h; omega))
                  have d_n1 : decide (f.n < 54) = false := by simpa using n1
                  have d_n2 : decide (f.n > 59) = false := by simpa using n2
                  have d_g1 : decide (f.g > 1048576) = true := by simpa using g1
                  clear hl hm he n1 n2 g1
                  go_wp2_with (first | (go_at_call 46; ((with_reducible refine (CL.out _).mono ?_); rintro e w4 ⟨rfl, q⟩; have HX0 := Lib.hid (HX.out.kept q); have HQ0 := Lib.hid (Qw.trans HQ.out q); have c22 := HX0.out.cell' 22 (.int .i64 f.sx) rfl; have c23 := HX0.out.cell' 23 (.int .i64 f.sy) rfl; have c24 := HX0.out.cell' 24 (.int .i64 f.sz) rfl; clear q)) | (go_at_call 46; ((with_reducible refine (CM.out _).mono ?_); rintro e w4 ⟨rfl, q⟩; have HX1 := Lib.hid (HX0.out.kept q); have HQ1 := Lib.hid (Qw.trans HQ0.out q); have c28 := HX1.out.cell' 28 (.int .i64 f.ex) rfl; have c29 := HX1.out.cell' 29 (.int .i64 f.ey) rfl; have c30 := HX1.out.cell' 30 (.int .i64 f.ez) rfl; clear q)) | (go_at_call 46; ((with_reducible refine (CE.out _).mono ?_); rintro e w4 ⟨rfl, q⟩; have HX2 := Lib.hid (HX1.out.kept q); have HQ2 := Lib.hid (Qw.trans HQ1.out q); have c18 := HX2.out.cell' 18 (.int .i64 f.n) rfl; have c25 := HX2.out.cell' 25 (.int .i64 f.g) rfl; have c31 := HX2.out.cell' 31 (.int .i64 f.a) rfl; have c27 := HX2.out.cell' 27 (.int .i64 f.p) rfl; have c28 := HX2.out.cell' 28 (.int .i64 f.ex) rfl; have c29 := HX2.out.cell' 29 (.int .i64 f.ey) rfl; have c30 := HX2.out.cell' 30 (.int .i64 f.ez) rfl; clear q)) | (go_at_call 47; ((with_reducible refine (HP.out _).mono ?_); rintro e w5 ⟨rfl, rfl⟩)))
                  go_ret
                  exact ⟨by rw [EV.out]; rfl, HQ2.out⟩
                · by_cases g2 : f.g < -1048576
                  · have EV : Hid (Fm.vldF f = false) := Lib.hid (by exact vf_no (fun h => by have k := vf_parts h; omega))
                    have d_n1 : decide (f.n < 54) = false := by simpa using n1
                    have d_n2 : decide (f.n > 59) = false := by simpa using n2
                    have d_g1 : decide (f.g > 1048576) = false := by simpa using g1
                    have d_g2 : decide (f.g < -1048576) = true := by simpa using g2
                    clear hl hm he n1 n2 g1 g2
                    go_wp2_with (first | (go_at_call 46; ((with_reducible refine (CL.out _).mono ?_); rintro e w4 ⟨rfl, q⟩; have HX0 := Lib.hid (HX.out.kept q); have HQ0 := Lib.hid (Qw.trans HQ.out q); have c22 := HX0.out.cell' 22 (.int .i64 f.sx) rfl; have c23 := HX0.out.cell' 23 (.int .i64 f.sy) rfl; have c24 := HX0.out.cell' 24 (.int .i64 f.sz) rfl; clear q)) | (go_at_call 46; ((with_reducible refine (CM.out _).mono ?_); rintro e w4 ⟨rfl, q⟩; have HX1 := Lib.hid (HX0.out.kept q); have HQ1 := Lib.hid (Qw.trans HQ0.out q); have c28 := HX1.out.cell' 28 (.int .i64 f.ex) rfl; have c29 := HX1.out.cell' 29 (.int .i64 f.ey) rfl; have c30 := HX1.out.cell' 30 (.int .i64 f.ez) rfl; clear q)) | (go_at_call 46; ((with_reducible refine (CE.out _).mono ?_); rintro e w4 ⟨rfl, q⟩; have HX2 := Lib.hid (HX1.out.kept q); have HQ2 := Lib.hid (Qw.trans HQ1.out q); have c18 := HX2.out.cell' 18 (.int .i64 f.n) rfl; have c25 := HX2.out.cell' 25 (.int .i64 f.g) rfl; have c31 := HX2.out.cell' 31 (.int .i64 f.a) rfl; have c27 := HX2.out.cell' 27 (.int .i64 f.p) rfl; have c28 := HX2.out.cell' 28 (.int .i64 f.ex) rfl; have c29 := HX2.out.cell' 29 (.int .i64 f.ey) rfl; have c30 := HX2.out.cell' 30 (.int .i64 f.ez) rfl; clear q)) | (go_at_call 47; ((with_reducible refine (HP.out _).mono ?_); rintro e w5 ⟨rfl, rfl⟩)))
                    go_ret
                    exact ⟨by rw [EV.out]; rfl, HQ2.out⟩
                  · by_cases a1 : f.a < 0
                    · have EV : Hid (Fm.vldF f = false) := Lib.hid (by exact vf_no (fun h => by have k := vf_parts h; omega))
                      have d_n1 : decide (f.n < 54) = false := by simpa using n1
                      have d_n2 : decide (f.n > 59) = false := by simpa using n2
                      have d_g1 : decide (f.g > 1048576) = false := by simpa using g1
                      have d_g2 : decide (f.g < -1048576) = false := by simpa using g2
                      have d_a1 : decide (f.a < 0) = true := by simpa using a1
                      clear hl hm he n1 n2 g1 g2 a1
                      go_wp2_with (first | (go_at_call 46; ((with_reducible refine (CL.out _).mono ?_); rintro e w4 ⟨rfl, q⟩; have HX0 := Lib.hid (HX.out.kept q); have HQ0 := Lib.hid (Qw.trans HQ.out q); have c22 := HX0.out.cell' 22 (.int .i64 f.sx) rfl; have c23 := HX0.out.cell' 23 (.int .i64 f.sy) rfl; have c24 := HX0.out.cell' 24 (.int .i64 f.sz) rfl; clear q)) | (go_at_call 46; ((with_reducible refine (CM.out _).mono ?_); rintro e w4 ⟨rfl, q⟩; have HX1 := Lib.hid (HX0.out.kept q); have HQ1 := Lib.hid (Qw.trans HQ0.out q); have c28 := HX1.out.cell' 28 (.int .i64 f.ex) rfl; have c29 := HX1.out.cell' 29 (.int .i64 f.ey) rfl; have c30 := HX1.out.cell' 30 (.int .i64 f.ez) rfl; clear q)) | (go_at_call 46; ((with_reducible refine (CE.out _).mono ?_); rintro e w4 ⟨rfl, q⟩; have HX2 := Lib.hid (HX1.out.kept q); have HQ2 := Lib.hid (Qw.trans HQ1.out q); have c18 := HX2.out.cell' 18 (.int .i64 f.n) rfl; have c25 := HX2.out.cell' 25 (.int .i64 f.g) rfl; have c31 := HX2.out.cell' 31 (.int .i64 f.a) rfl; have c27 := HX2.out.cell' 27 (.int .i64 f.p) rfl; have c28 := HX2.out.cell' 28 (.int .i64 f.ex) rfl; have c29 := HX2.out.cell' 29 (.int .i64 f.ey) rfl; have c30 := HX2.out.cell' 30 (.int .i64 f.ez) rfl; clear q)) | (go_at_call 47; ((with_reducible refine (HP.out _).mono ?_); rintro e w5 ⟨rfl, rfl⟩)))
                      go_ret
                      exact ⟨by rw [EV.out]; rfl, HQ2.out⟩
                    · by_cases a2 : f.a ≥ 360000000
                      · have EV : Hid (Fm.vldF f = false) := Lib.hid (by exact vf_no (fun h => by have k := vf_parts h; omega))
                        have d_n1 : decide (f.n < 54) = false := by simpa using n1
                        have d_n2 : decide (f.n > 59) = false := by simpa using n2
                        have d_g1 : decide (f.g > 1048576) = false := by simpa using g1
                        have d_g2 : decide (f.g < -1048576) = false := by simpa using g2
                        have d_a1 : decide (f.a < 0) = false := by simpa using a1
                        have d_a2 : decide (f.a ≥ 360000000) = true := by simpa using a2
                        clear hl hm he n1 n2 g1 g2 a1 a2
                        go_wp2_with (first | (go_at_call 46; ((with_reducible refine (CL.out _).mono ?_); rintro e w4 ⟨rfl, q⟩; have HX0 := Lib.hid (HX.out.kept q); have HQ0 := Lib.hid (Qw.trans HQ.out q); have c22 := HX0.out.cell' 22 (.int .i64 f.sx) rfl; have c23 := HX0.out.cell' 23 (.int .i64 f.sy) rfl; have c24 := HX0.out.cell' 24 (.int .i64 f.sz) rfl; clear q)) | (go_at_call 46; ((with_reducible refine (CM.out _).mono ?_); rintro e w4 ⟨rfl, q⟩; have HX1 := Lib.hid (HX0.out.kept q); have HQ1 := Lib.hid (Qw.trans HQ0.out q); have c28 := HX1.out.cell' 28 (.int .i64 f.ex) rfl; have c29 := HX1.out.cell' 29 (.int .i64 f.ey) rfl; have c30 := HX1.out.cell' 30 (.int .i64 f.ez) rfl; clear q)) | (go_at_call 46; ((with_reducible refine (CE.out _).mono ?_); rintro e w4 ⟨rfl, q⟩; have HX2 := Lib.hid (HX1.out.kept q); have HQ2 := Lib.hid (Qw.trans HQ1.out q); have c18 := HX2.out.cell' 18 (.int .i64 f.n) rfl; have c25 := HX2.out.cell' 25 (.int .i64 f.g) rfl; have c31 := HX2.out.cell' 31 (.int .i64 f.a) rfl; have c27 := HX2.out.cell' 27 (.int .i64 f.p) rfl; have c28 := HX2.out.cell' 28 (.int .i64 f.ex) rfl; have c29 := HX2.out.cell' 29 (.int .i64 f.ey) rfl; have c30 := HX2.out.cell' 30 (.int .i64 f.ez) rfl; clear q)) | (go_at_call 47; ((with_reducible refine (HP.out _).mono ?_); rintro e w5 ⟨rfl, rfl⟩)))
                        go_ret
                        exact ⟨by rw [EV.out]; rfl, HQ2.out⟩
                      · cases ht : f.t
                        · by_cases zp : f.p = 0
                          · by_cases za : f.a = 0
                            · by_cases zex : f.ex = 0
                              · by_cases zey : f.ey = 0
                                · by_cases zez : f.ez = 0
                                  · have EV : Hid (Fm.vldF f = true) := Lib.hid (by exact vf_noT HA.out hl hm he (by omega) (by omega) (by omega) ht (by omega) ⟨zp, zex, zey, zez, za⟩)
                                    have d_n1 : decide (f.n < 54) = false := by simpa using n1
                                    have d_n2 : decide (f.n > 59) = false := by simpa using n2
                                    have d_g1 : decide (f.g > 1048576) = false := by simpa using g1
                                    have d_g2 : decide (f.g < -1048576) = false := by simpa using g2
                                    have d_a1 : decide (f.a < 0) = false := by simpa using a1
                                    have d_a2 : decide (f.a ≥ 360000000) = false := by simpa using a2
                                    have yp : (f.p == 0) = true := by simpa using zp
                                    have ya : (f.a == 0) = true := by simpa using za
                                    have yex : (f.ex == 0) = true := by simpa using zex
                                    have yey : (f.ey == 0) = true := by simpa using zey
                                    have yez : (f.ez == 0) = true := by simpa using zez
                                    have HT := Lib.hid ht
                                    clear ht zp za zex zey zez
                                    clear hl hm he n1 n2 g1 g2 a1 a2
                                    go_wp2_with (first | (go_at_call 46; ((with_reducible refine (CL.out _).mono ?_); rintro e w4 ⟨rfl, q⟩; have HX0 := Lib.hid (HX.out.kept q); have HQ0 := Lib.hid (Qw.trans HQ.out q); have c22 := HX0.out.cell' 22 (.int .i64 f.sx) rfl; have c23 := HX0.out.cell' 23 (.int .i64 f.sy) rfl; have c24 := HX0.out.cell' 24 (.int .i64 f.sz) rfl; clear q)) | (go_at_call 46; ((with_reducible refine (CM.out _).mono ?_); rintro e w4 ⟨rfl, q⟩; have HX1 := Lib.hid (HX0.out.kept q); have HQ1 := Lib.hid (Qw.trans HQ0.out q); have c28 := HX1.out.cell' 28 (.int .i64 f.ex) rfl; have c29 := HX1.out.cell' 29 (.int .i64 f.ey) rfl; have c30 := HX1.out.cell' 30 (.int .i64 f.ez) rfl; clear q)) | (go_at_call 46; ((with_reducible refine (CE.out _).mono ?_); rintro e w4 ⟨rfl, q⟩; have HX2 := Lib.hid (HX1.out.kept q); have HQ2 := Lib.hid (Qw.trans HQ1.out q); have c18 := HX2.out.cell' 18 (.int .i64 f.n) rfl; have c25 := HX2.out.cell' 25 (.int .i64 f.g) rfl; have c31 := HX2.out.cell' 31 (.int .i64 f.a) rfl; have c27 := HX2.out.cell' 27 (.int .i64 f.p) rfl; have c28 := HX2.out.cell' 28 (.int .i64 f.ex) rfl; have c29 := HX2.out.cell' 29 (.int .i64 f.ey) rfl; have c30 := HX2.out.cell' 30 (.int .i64 f.ez) rfl; have c26 := HX2.out.cell' 26 (.bool false) (at_t HT.out); clear q)) | (go_at_call 47; ((with_reducible refine (HP.out _).mono ?_); rintro e w5 ⟨rfl, rfl⟩)))
                                    go_ret
                                    exact ⟨by rw [EV.out]; rfl, HQ2.out⟩
                                  · have EV : Hid (Fm.vldF f = false) := Lib.hid (by exact vf_no (fun h => zez (vf_z h ht).2.2.2.1))
                                    have d_n1 : decide (f.n < 54) = false := by simpa using n1
                                    have d_n2 : decide (f.n > 59) = false := by simpa using n2
                                    have d_g1 : decide (f.g > 1048576) = false := by simpa using g1
                                    have d_g2 : decide (f.g < -1048576) = false := by simpa using g2
                                    have d_a1 : decide (f.a < 0) = false := by simpa using a1
                                    have d_a2 : decide (f.a ≥ 360000000) = false := by simpa using a2
                                    have yp : (f.p == 0) = true := by simpa using zp
                                    have ya : (f.a == 0) = true := by simpa using za
                                    have yex : (f.ex == 0) = true := by simpa using zex
                                    have yey : (f.ey == 0) = true := by simpa using zey
                                    have yez : (f.ez == 0) = false := by simpa using zez
                                    have HT := Lib.hid ht
                                    clear ht zp za zex zey zez
                                    clear hl hm he n1 n2 g1 g2 a1 a2
                                    go_wp2_with (first | (go_at_call 46; ((with_reducible refine (CL.out _).mono ?_); rintro e w4 ⟨rfl, q⟩; have HX0 := Lib.hid (HX.out.kept q); have HQ0 := Lib.hid (Qw.trans HQ.out q); have c22 := HX0.out.cell' 22 (.int .i64 f.sx) rfl; have c23 := HX0.out.cell' 23 (.int .i64 f.sy) rfl; have c24 := HX0.out.cell' 24 (.int .i64 f.sz) rfl; clear q)) | (go_at_call 46; ((with_reducible refine (CM.out _).mono ?_); rintro e w4 ⟨rfl, q⟩; have HX1 := Lib.hid (HX0.out.kept q); have HQ1 := Lib.hid (Qw.trans HQ0.out q); have c28 := HX1.out.cell' 28 (.int .i64 f.ex) rfl; have c29 := HX1.out.cell' 29 (.int .i64 f.ey) rfl; have c30 := HX1.out.cell' 30 (.int .i64 f.ez) rfl; clear q)) | (go_at_call 46; ((with_reducible refine (CE.out _).mono ?_); rintro e w4 ⟨rfl, q⟩; have HX2 := Lib.hid (HX1.out.kept q); have HQ2 := Lib.hid (Qw.trans HQ1.out q); have c18 := HX2.out.cell' 18 (.int .i64 f.n) rfl; have c25 := HX2.out.cell' 25 (.int .i64 f.g) rfl; have c31 := HX2.out.cell' 31 (.int .i64 f.a) rfl; have c27 := HX2.out.cell' 27 (.int .i64 f.p) rfl; have c28 := HX2.out.cell' 28 (.int .i64 f.ex) rfl; have c29 := HX2.out.cell' 29 (.int .i64 f.ey) rfl; have c30 := HX2.out.cell' 30 (.int .i64 f.ez) rfl; have c26 := HX2.out.cell' 26 (.bool false) (at_t HT.out); clear q)) | (go_at_call 47; ((with_reducible refine (HP.out _).mono ?_); rintro e w5 ⟨rfl, rfl⟩)))
                                    go_ret
                                    exact ⟨by rw [EV.out]; rfl, HQ2.out⟩
                                · have EV : Hid (Fm.vldF f = false) := Lib.hid (by exact vf_no (fun h => zey (vf_z h ht).2.2.1))
                                  have d_n1 : decide (f.n < 54) = false := by simpa using n1
                                  have d_n2 : decide (f.n > 59) = false := by simpa using n2
                                  have d_g1 : decide (f.g > 1048576) = false := by simpa using g1
                                  have d_g2 : decide (f.g < -1048576) = false := by simpa using g2
                                  have d_a1 : decide (f.a < 0) = false := by simpa using a1
                                  have d_a2 : decide (f.a ≥ 360000000) = false := by simpa using a2
                                  have yp : (f.p == 0) = true := by simpa using zp
                                  have ya : (f.a == 0) = true := by simpa using za
                                  have yex : (f.ex == 0) = true := by simpa using zex
                                  have yey : (f.ey == 0) = false := by simpa using zey
                                  have HT := Lib.hid ht
                                  clear ht zp za zex zey
                                  clear hl hm he n1 n2 g1 g2 a1 a2
                                  go_wp2_with (first | (go_at_call 46; ((with_reducible refine (CL.out _).mono ?_); rintro e w4 ⟨rfl, q⟩; have HX0 := Lib.hid (HX.out.kept q); have HQ0 := Lib.hid (Qw.trans HQ.out q); have c22 := HX0.out.cell' 22 (.int .i64 f.sx) rfl; have c23 := HX0.out.cell' 23 (.int .i64 f.sy) rfl; have c24 := HX0.out.cell' 24 (.int .i64 f.sz) rfl; clear q)) | (go_at_call 46; ((with_reducible refine (CM.out _).mono ?_); rintro e w4 ⟨rfl, q⟩; have HX1 := Lib.hid (HX0.out.kept q); have HQ1 := Lib.hid (Qw.trans HQ0.out q); have c28 := HX1.out.cell' 28 (.int .i64 f.ex) rfl; have c29 := HX1.out.cell' 29 (.int .i64 f.ey) rfl; have c30 := HX1.out.cell' 30 (.int .i64 f.ez) rfl; clear q)) | (go_at_call 46; ((with_reducible refine (CE.out _).mono ?_); rintro e w4 ⟨rfl, q⟩; have HX2 := Lib.hid (HX1.out.kept q); have HQ2 := Lib.hid (Qw.trans HQ1.out q); have c18 := HX2.out.cell' 18 (.int .i64 f.n) rfl; have c25 := HX2.out.cell' 25 (.int .i64 f.g) rfl; have c31 := HX2.out.cell' 31 (.int .i64 f.a) rfl; have c27 := HX2.out.cell' 27 (.int .i64 f.p) rfl; have c28 := HX2.out.cell' 28 (.int .i64 f.ex) rfl; have c29 := HX2.out.cell' 29 (.int .i64 f.ey) rfl; have c30 := HX2.out.cell' 30 (.int .i64 f.ez) rfl; have c26 := HX2.out.cell' 26 (.bool false) (at_t HT.out); clear q)) | (go_at_call 47; ((with_reducible refine (HP.out _).mono ?_); rintro e w5 ⟨rfl, rfl⟩)))
                                  go_ret
                                  exact ⟨by rw [EV.out]; rfl, HQ2.out⟩
                              · have EV : Hid (Fm.vldF f = false) := Lib.hid (by exact vf_no (fun h => zex (vf_z h ht).2.1))
                                have d_n1 : decide (f.n < 54) = false := by simpa using n1
                                have d_n2 : decide (f.n > 59) = false := by simpa using n2
                                have d_g1 : decide (f.g > 1048576) = false := by simpa using g1
                                have d_g2 : decide (f.g < -1048576) = false := by simpa using g2
                                have d_a1 : decide (f.a < 0) = false := by simpa using a1
                                have d_a2 : decide (f.a ≥ 360000000) = false := by simpa using a2
                                have yp : (f.p == 0) = true := by simpa using zp
                                have ya : (f.a == 0) = true := by simpa using za
                                have yex : (f.ex == 0) = false := by simpa using zex
                                have HT := Lib.hid ht
                                clear ht zp za zex
                                clear hl hm he n1 n2 g1 g2 a1 a2
                                go_wp2_with (first | (go_at_call 46; ((with_reducible refine (CL.out _).mono ?_); rintro e w4 ⟨rfl, q⟩; have HX0 := Lib.hid (HX.out.kept q); have HQ0 := Lib.hid (Qw.trans HQ.out q); have c22 := HX0.out.cell' 22 (.int .i64 f.sx) rfl; have c23 := HX0.out.cell' 23 (.int .i64 f.sy) rfl; have c24 := HX0.out.cell' 24 (.int .i64 f.sz) rfl; clear q)) | (go_at_call 46; ((with_reducible refine (CM.out _).mono ?_); rintro e w4 ⟨rfl, q⟩; have HX1 := Lib.hid (HX0.out.kept q); have HQ1 := Lib.hid (Qw.trans HQ0.out q); have c28 := HX1.out.cell' 28 (.int .i64 f.ex) rfl; have c29 := HX1.out.cell' 29 (.int .i64 f.ey) rfl; have c30 := HX1.out.cell' 30 (.int .i64 f.ez) rfl; clear q)) | (go_at_call 46; ((with_reducible refine (CE.out _).mono ?_); rintro e w4 ⟨rfl, q⟩; have HX2 := Lib.hid (HX1.out.kept q); have HQ2 := Lib.hid (Qw.trans HQ1.out q); have c18 := HX2.out.cell' 18 (.int .i64 f.n) rfl; have c25 := HX2.out.cell' 25 (.int .i64 f.g) rfl; have c31 := HX2.out.cell' 31 (.int .i64 f.a) rfl; have c27 := HX2.out.cell' 27 (.int .i64 f.p) rfl; have c28 := HX2.out.cell' 28 (.int .i64 f.ex) rfl; have c29 := HX2.out.cell' 29 (.int .i64 f.ey) rfl; have c30 := HX2.out.cell' 30 (.int .i64 f.ez) rfl; have c26 := HX2.out.cell' 26 (.bool false) (at_t HT.out); clear q)) | (go_at_call 47; ((with_reducible refine (HP.out _).mono ?_); rintro e w5 ⟨rfl, rfl⟩)))
                                go_ret
                                exact ⟨by rw [EV.out]; rfl, HQ2.out⟩
                            · have EV : Hid (Fm.vldF f = false) := Lib.hid (by exact vf_no (fun h => za (vf_z h ht).2.2.2.2))
                              have d_n1 : decide (f.n < 54) = false := by simpa using n1
                              have d_n2 : decide (f.n > 59) = false := by simpa using n2
                              have d_g1 : decide (f.g > 1048576) = false := by simpa using g1
                              have d_g2 : decide (f.g < -1048576) = false := by simpa using g2
                              have d_a1 : decide (f.a < 0) = false := by simpa using a1
                              have d_a2 : decide (f.a ≥ 360000000) = false := by simpa using a2
                              have yp : (f.p == 0) = true := by simpa using zp
                              have ya : (f.a == 0) = false := by simpa using za
                              have HT := Lib.hid ht
                              clear ht zp za
                              clear hl hm he n1 n2 g1 g2 a1 a2
                              go_wp2_with (first | (go_at_call 46; ((with_reducible refine (CL.out _).mono ?_); rintro e w4 ⟨rfl, q⟩; have HX0 := Lib.hid (HX.out.kept q); have HQ0 := Lib.hid (Qw.trans HQ.out q); have c22 := HX0.out.cell' 22 (.int .i64 f.sx) rfl; have c23 := HX0.out.cell' 23 (.int .i64 f.sy) rfl; have c24 := HX0.out.cell' 24 (.int .i64 f.sz) rfl; clear q)) | (go_at_call 46; ((with_reducible refine (CM.out _).mono ?_); rintro e w4 ⟨rfl, q⟩; have HX1 := Lib.hid (HX0.out.kept q); have HQ1 := Lib.hid (Qw.trans HQ0.out q); have c28 := HX1.out.cell' 28 (.int .i64 f.ex) rfl; have c29 := HX1.out.cell' 29 (.int .i64 f.ey) rfl; have c30 := HX1.out.cell' 30 (.int .i64 f.ez) rfl; clear q)) | (go_at_call 46; ((with_reducible refine (CE.out _).mono ?_); rintro e w4 ⟨rfl, q⟩; have HX2 := Lib.hid (HX1.out.kept q); have HQ2 := Lib.hid (Qw.trans HQ1.out q); have c18 := HX2.out.cell' 18 (.int .i64 f.n) rfl; have c25 := HX2.out.cell' 25 (.int .i64 f.g) rfl; have c31 := HX2.out.cell' 31 (.int .i64 f.a) rfl; have c27 := HX2.out.cell' 27 (.int .i64 f.p) rfl; have c28 := HX2.out.cell' 28 (.int .i64 f.ex) rfl; have c29 := HX2.out.cell' 29 (.int .i64 f.ey) rfl; have c30 := HX2.out.cell' 30 (.int .i64 f.ez) rfl; have c26 := HX2.out.cell' 26 (.bool false) (at_t HT.out); clear q)) | (go_at_call 47; ((with_reducible refine (HP.out _).mono ?_); rintro e w5 ⟨rfl, rfl⟩)))
                              go_ret
                              exact ⟨by rw [EV.out]; rfl, HQ2.out⟩
                          · have EV : Hid (Fm.vldF f = false) := Lib.hid (by exact vf_no (fun h => zp (vf_z h ht).1))
                            have d_n1 : decide (f.n < 54) = false := by simpa using n1
                            have d_n2 : decide (f.n > 59) = false := by simpa using n2
                            have d_g1 : decide (f.g > 1048576) = false := by simpa using g1
                            have d_g2 : decide (f.g < -1048576) = false := by simpa using g2
                            have d_a1 : decide (f.a < 0) = false := by simpa using a1
                            have d_a2 : decide (f.a ≥ 360000000) = false := by simpa using a2
                            have yp : (f.p == 0) = false := by simpa using zp
                            have HT := Lib.hid ht
                            clear ht zp
                            clear hl hm he n1 n2 g1 g2 a1 a2
                            go_wp2_with (first | (go_at_call 46; ((with_reducible refine (CL.out _).mono ?_); rintro e w4 ⟨rfl, q⟩; have HX0 := Lib.hid (HX.out.kept q); have HQ0 := Lib.hid (Qw.trans HQ.out q); have c22 := HX0.out.cell' 22 (.int .i64 f.sx) rfl; have c23 := HX0.out.cell' 23 (.int .i64 f.sy) rfl; have c24 := HX0.out.cell' 24 (.int .i64 f.sz) rfl; clear q)) | (go_at_call 46; ((with_reducible refine (CM.out _).mono ?_); rintro e w4 ⟨rfl, q⟩; have HX1 := Lib.hid (HX0.out.kept q); have HQ1 := Lib.hid (Qw.trans HQ0.out q); have c28 := HX1.out.cell' 28 (.int .i64 f.ex) rfl; have c29 := HX1.out.cell' 29 (.int .i64 f.ey) rfl; have c30 := HX1.out.cell' 30 (.int .i64 f.ez) rfl; clear q)) | (go_at_call 46; ((with_reducible refine (CE.out _).mono ?_); rintro e w4 ⟨rfl, q⟩; have HX2 := Lib.hid (HX1.out.kept q); have HQ2 := Lib.hid (Qw.trans HQ1.out q); have c18 := HX2.out.cell' 18 (.int .i64 f.n) rfl; have c25 := HX2.out.cell' 25 (.int .i64 f.g) rfl; have c31 := HX2.out.cell' 31 (.int .i64 f.a) rfl; have c27 := HX2.out.cell' 27 (.int .i64 f.p) rfl; have c28 := HX2.out.cell' 28 (.int .i64 f.ex) rfl; have c29 := HX2.out.cell' 29 (.int .i64 f.ey) rfl; have c30 := HX2.out.cell' 30 (.int .i64 f.ez) rfl; have c26 := HX2.out.cell' 26 (.bool false) (at_t HT.out); clear q)) | (go_at_call 47; ((with_reducible refine (HP.out _).mono ?_); rintro e w5 ⟨rfl, rfl⟩)))
                            go_ret
                            exact ⟨by rw [EV.out]; rfl, HQ2.out⟩
                        · have EV : Hid (Fm.vldF f = pin f.p) := Lib.hid (by exact vf_yesT HA.out hl hm he (by omega) (by omega) (by omega) ht (by omega))
                          have d_n1 : decide (f.n < 54) = false := by simpa using n1
                          have d_n2 : decide (f.n > 59) = false := by simpa using n2
                          have d_g1 : decide (f.g > 1048576) = false := by simpa using g1
                          have d_g2 : decide (f.g < -1048576) = false := by simpa using g2
                          have d_a1 : decide (f.a < 0) = false := by simpa using a1
                          have d_a2 : decide (f.a ≥ 360000000) = false := by simpa using a2
                          have HT := Lib.hid ht
                          clear ht
                          clear hl hm he n1 n2 g1 g2 a1 a2
                          go_wp2_with (first | (go_at_call 46; ((with_reducible refine (CL.out _).mono ?_); rintro e w4 ⟨rfl, q⟩; have HX0 := Lib.hid (HX.out.kept q); have HQ0 := Lib.hid (Qw.trans HQ.out q); have c22 := HX0.out.cell' 22 (.int .i64 f.sx) rfl; have c23 := HX0.out.cell' 23 (.int .i64 f.sy) rfl; have c24 := HX0.out.cell' 24 (.int .i64 f.sz) rfl; clear q)) | (go_at_call 46; ((with_reducible refine (CM.out _).mono ?_); rintro e w4 ⟨rfl, q⟩; have HX1 := Lib.hid (HX0.out.kept q); have HQ1 := Lib.hid (Qw.trans HQ0.out q); have c28 := HX1.out.cell' 28 (.int .i64 f.ex) rfl; have c29 := HX1.out.cell' 29 (.int .i64 f.ey) rfl; have c30 := HX1.out.cell' 30 (.int .i64 f.ez) rfl; clear q)) | (go_at_call 46; ((with_reducible refine (CE.out _).mono ?_); rintro e w4 ⟨rfl, q⟩; have HX2 := Lib.hid (HX1.out.kept q); have HQ2 := Lib.hid (Qw.trans HQ1.out q); have c18 := HX2.out.cell' 18 (.int .i64 f.n) rfl; have c25 := HX2.out.cell' 25 (.int .i64 f.g) rfl; have c31 := HX2.out.cell' 31 (.int .i64 f.a) rfl; have c27 := HX2.out.cell' 27 (.int .i64 f.p) rfl; have c28 := HX2.out.cell' 28 (.int .i64 f.ex) rfl; have c29 := HX2.out.cell' 29 (.int .i64 f.ey) rfl; have c30 := HX2.out.cell' 30 (.int .i64 f.ez) rfl; have c26 := HX2.out.cell' 26 (.bool true) (at_t HT.out); clear q)) | (go_at_call 47; ((with_reducible refine (HP.out _).mono ?_); rintro e w5 ⟨rfl, rfl⟩)))
                          go_ret
                          exact ⟨by rw [EV.out]; rfl, HQ2.out⟩
end Go.Proofs.YtnjcbgnghfppoaaDoor
