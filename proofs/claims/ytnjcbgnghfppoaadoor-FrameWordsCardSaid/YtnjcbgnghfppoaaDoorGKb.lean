import Derived.Test.YtnjcbgnghfppoaaDoorGK

/- The walk of frame.Valid. -/
set_option linter.unusedVariables false
set_option linter.unusedSimpArgs false
namespace Go.Proofs.YtnjcbgnghfppoaaDoor
open Go.RowKit

theorem vldF_f {f : Fm.F} {k : Nat} (h : k < 6) (hs : Fm.sysB f k = false) : Fm.vldF f = false := by
  unfold Fm.vldF; rw [Fm.allB_no h hs]; rfl
section
variable {ops : Array Oper} {rest : List Oper} {dst : Option Tmp} {ty : TypeId} {pos : String} {after : Array Edge} {a : Act} {w : World} {Q : Exit → Act → World → Prop} {P : Nat} {f : Fm.F} {gd : Option (Nat × Bool)}
theorem gd_fr (x : Tmp) (hw : Region.wanted ⟨dst, .load FT (.tmp x), ty, pos, after, gd⟩ (yielded ops a.tmps) = true) (hx : a.eval (.tmp x) = .pointer (some ⟨P, 0, none⟩)) (X : Bx w P (frc f) FT) (h : wpList Tryd.prog ops Q rest (a.put dst (.agg (frc f))) w) :
    wpList Tryd.prog ops Q (⟨dst, .load FT (.tmp x), ty, pos, after, gd⟩ :: rest) a w :=
  wpList_step fun K hK => by
    rw [if_pos hw]
    unfold Oper.wp execOp
    simp only [hx, Sem.run_bind, run_load_fr w P f X, Result.andThen_ok, Sem.run_pure]
    exact hK _ _ h
end
set_option maxRecDepth 100000 in
set_option maxHeartbeats 4000000 in
theorem fmValid (f : Fm.F) (hw : Fm.Wf f) (w : World) : Calls Tryd.prog 16 #[.agg (frc f)] w fun e w' => e = .returned (.bool (Fm.vldF f)) ∧ Qw w w' := by
  have HW := Lib.hid hw
  have cs := fun (k : Nat) (hk : k < 6) w => vc_within (f.c (3 * k)) (f.c (3 * k + 1)) (f.c (3 * k + 2)) (hw.c _ (by omega)).1 (hw.c _ (by omega)).2 (hw.c _ (by omega)).1 (hw.c _ (by omega)).2 (hw.c _ (by omega)).1 (hw.c _ (by omega)).2 w
  have CS := Lib.hid cs
  have IX := Lib.hid (fun k hk w => index_sys f.c k hk w)
  have HH := Lib.hid (fun w => fmHas f w)
  have HT := Lib.hid (fun w => fmTurn f hw w)
  have cl := fun w => vc_within f.lx f.ly f.lz hw.lx.1 hw.lx.2 hw.ly.1 hw.ly.2 hw.lz.1 hw.lz.2 w
  have cm := fun w => vc_within f.sx f.sy f.sz hw.sx.1 hw.sx.2 hw.sy.1 hw.sy.2 hw.sz.1 hw.sz.2 w
  have ce := fun w => vc_within f.ex f.ey f.ez hw.ex.1 hw.ex.2 hw.ey.1 hw.ey.2 hw.ez.1 hw.ez.2 w
  have cg := fun w => vc_within 0 0 f.g (by decide) (by decide) (by decide) (by decide) hw.g.1 hw.g.2 w
  have CL := Lib.hid cl; have CM := Lib.hid cm; have CE := Lib.hid ce; have CG := Lib.hid cg
  clear hw cs cl cm ce cg
  go_enter Tryd.func16, Tryd.ntmps16
  go_wp2_with (first | (refine box_fr 0 rfl ?_; intro w1 P hp X q; have X1 := Lib.hid X; have Q1 := Lib.hid q; clear X q) | (refine ld_sys 5 rfl X1.out ?_))
  go_loopw [7] (fun kv wr => ∃ k : Nat, k ≤ 6 ∧ kv = .int .i64 (k : Int) ∧ Hid (Fm.allB f k = true) ∧ Hid (Qw w wr) ∧ Hid (Bx wr P (frc f) FT)) (fun kv _ => 6 - (intOf kv).toNat)
  case atStart => exact ⟨0, by omega, rfl, Lib.hid rfl, Q1, X1⟩
  case round =>
    clear Q1 X1
    obtain ⟨k, hk, rfl, HA, HQ, HX⟩ := hrel
    by_cases h6 : k < 6
    · have ix := IX.out k h6
      have h6' : (k : Int) < 6 := by omega
      have c1 := CS.out k h6
      cases hs : Fm.sysB f k
      · unfold Fm.sysB at hs
        rw [hs] at c1
        have C1 := Lib.hid c1
        have EV : Hid (Fm.vldF f = false) := Lib.hid (vldF_f h6 hs)
        clear c1 hs
        go_wp2_with (go_at_call 43; ((with_reducible refine (C1.out _).mono ?_); rintro e w3 ⟨rfl, q⟩; have Q3 := Lib.hid (Qw.trans (Qw.al HQ.out _) q); clear q))
        go_ret
        exact ⟨by rw [EV.out]; rfl, Q3.out⟩
      · have EA : Hid (Fm.allB f (k + 1) = true) := Lib.hid (by rw [Fm.allB, HA.out, hs]; rfl)
        unfold Fm.sysB at hs
        rw [hs] at c1
        have C1 := Lib.hid c1
        clear c1 hs
        go_wp2_with (go_at_call 43; ((with_reducible refine (C1.out _).mono ?_); rintro e w3 ⟨rfl, q⟩; have Q3 := Lib.hid (Qw.trans (Qw.al HQ.out _) q); have X3 := Lib.hid (Bx.kept (Bx.alloc HX.out _) q); clear q))
        go_roundw
        case rel => exact ⟨k + 1, by omega, by go_num, EA, Q3, X3⟩
        case measure => simp [intOf]; omega
    · obtain rfl : k = 6 := by omega
      clear h6 CS IX
      cases hhasB : Fm.hasB f
      · have EV : Hid (Fm.vldF f = false) := Lib.hid (by simp [Fm.vldF, hhasB])
        have K0 := HH.out
        rw [hhasB] at K0
        replace HH := Lib.hid K0
        clear K0 hhasB
        go_wp2_with (first | (refine ld_fr 1 rfl HX.out ?_) | (go_at_call 44; ((with_reducible refine (HH.out _).mono ?_); rintro e w4 ⟨rfl, q⟩; have HX0 := Lib.hid (HX.out.kept q); have HQ0 := Lib.hid (Qw.trans HQ.out q); clear q)))
        go_ret
        exact ⟨by rw [EV.out]; rfl, HQ0.out⟩
      · cases hl : wth f.lx f.ly f.lz
        · have EV : Hid (Fm.vldF f = false) := Lib.hid (by simp [Fm.vldF, hhasB, hl])
          have K0 := HH.out
          rw [hhasB] at K0
          have K1 := CL.out
          rw [hl] at K1
          replace HH := Lib.hid K0
          replace CL := Lib.hid K1
          clear K0 K1 hhasB hl
          go_wp2_with (first | (refine ld_fr 1 rfl HX.out ?_) | (go_at_call 44; ((with_reducible refine (HH.out _).mono ?_); rintro e w4 ⟨rfl, q⟩; have HX0 := Lib.hid (HX.out.kept q); have HQ0 := Lib.hid (Qw.trans HQ.out q); have c19 := HX0.out.cell' 19 (.int .i64 f.lx) rfl; have c20 := HX0.out.cell' 20 (.int .i64 f.ly) rfl; have c21 := HX0.out.cell' 21 (.int .i64 f.lz) rfl; clear q)) | (go_at_call 43; ((with_reducible refine (CL.out _).mono ?_); rintro e w4 ⟨rfl, q⟩; have HX1 := Lib.hid (HX0.out.kept q); have HQ1 := Lib.hid (Qw.trans HQ0.out q); clear q)))
          go_ret
          exact ⟨by rw [EV.out]; rfl, HQ1.out⟩
        · cases hm : wth f.sx f.sy f.sz
          · have EV : Hid (Fm.vldF f = false) := Lib.hid (by simp [Fm.vldF, hhasB, hl, hm])
            have K0 := HH.out
            rw [hhasB] at K0
            have K1 := CL.out
            rw [hl] at K1
            have K2 := CM.out
            rw [hm] at K2
            replace HH := Lib.hid K0
            replace CL := Lib.hid K1
            replace CM := Lib.hid K2
            clear K0 K1 K2 hhasB hl hm
            go_wp2_with (first | (refine ld_fr 1 rfl HX.out ?_) | (go_at_call 44; ((with_reducible refine (HH.out _).mono ?_); rintro e w4 ⟨rfl, q⟩; have HX0 := Lib.hid (HX.out.kept q); have HQ0 := Lib.hid (Qw.trans HQ.out q); have c19 := HX0.out.cell' 19 (.int .i64 f.lx) rfl; have c20 := HX0.out.cell' 20 (.int .i64 f.ly) rfl; have c21 := HX0.out.cell' 21 (.int .i64 f.lz) rfl; clear q)) | (go_at_call 43; ((with_reducible refine (CL.out _).mono ?_); rintro e w4 ⟨rfl, q⟩; have HX1 := Lib.hid (HX0.out.kept q); have HQ1 := Lib.hid (Qw.trans HQ0.out q); have c22 := HX1.out.cell' 22 (.int .i64 f.sx) rfl; have c23 := HX1.out.cell' 23 (.int .i64 f.sy) rfl; have c24 := HX1.out.cell' 24 (.int .i64 f.sz) rfl; clear q)) | (go_at_call 43; ((with_reducible refine (CM.out _).mono ?_); rintro e w4 ⟨rfl, q⟩; have HX2 := Lib.hid (HX1.out.kept q); have HQ2 := Lib.hid (Qw.trans HQ1.out q); clear q)))
            go_ret
            exact ⟨by rw [EV.out]; rfl, HQ2.out⟩
          · cases he : wth f.ex f.ey f.ez
            · have EV : Hid (Fm.vldF f = false) := Lib.hid (by simp [Fm.vldF, hhasB, hl, hm, he])
              have K0 := HH.out
              rw [hhasB] at K0
              have K1 := CL.out
              rw [hl] at K1
              have K2 := CM.out
              rw [hm] at K2
              have K3 := CE.out
              rw [he] at K3
              replace HH := Lib.hid K0
              replace CL := Lib.hid K1
              replace CM := Lib.hid K2
              replace CE := Lib.hid K3
              clear K0 K1 K2 K3 hhasB hl hm he
              go_wp2_with (first | (refine ld_fr 1 rfl HX.out ?_) | (go_at_call 44; ((with_reducible refine (HH.out _).mono ?_); rintro e w4 ⟨rfl, q⟩; have HX0 := Lib.hid (HX.out.kept q); have HQ0 := Lib.hid (Qw.trans HQ.out q); have c19 := HX0.out.cell' 19 (.int .i64 f.lx) rfl; have c20 := HX0.out.cell' 20 (.int .i64 f.ly) rfl; have c21 := HX0.out.cell' 21 (.int .i64 f.lz) rfl; clear q)) | (go_at_call 43; ((with_reducible refine (CL.out _).mono ?_); rintro e w4 ⟨rfl, q⟩; have HX1 := Lib.hid (HX0.out.kept q); have HQ1 := Lib.hid (Qw.trans HQ0.out q); have c22 := HX1.out.cell' 22 (.int .i64 f.sx) rfl; have c23 := HX1.out.cell' 23 (.int .i64 f.sy) rfl; have c24 := HX1.out.cell' 24 (.int .i64 f.sz) rfl; clear q)) | (go_at_call 43; ((with_reducible refine (CM.out _).mono ?_); rintro e w4 ⟨rfl, q⟩; have HX2 := Lib.hid (HX1.out.kept q); have HQ2 := Lib.hid (Qw.trans HQ1.out q); have c28 := HX2.out.cell' 28 (.int .i64 f.ex) rfl; have c29 := HX2.out.cell' 29 (.int .i64 f.ey) rfl; have c30 := HX2.out.cell' 30 (.int .i64 f.ez) rfl; clear q)) | (go_at_call 43; ((with_reducible refine (CE.out _).mono ?_); rintro e w4 ⟨rfl, q⟩; have HX3 := Lib.hid (HX2.out.kept q); have HQ3 := Lib.hid (Qw.trans HQ2.out q); clear q)))
              go_ret
              exact ⟨by rw [EV.out]; rfl, HQ3.out⟩
            · cases hg : wth 0 0 f.g
              · have EV : Hid (Fm.vldF f = false) := Lib.hid (by simp [Fm.vldF, hhasB, hl, hm, he, hg])
                have K0 := HH.out
                rw [hhasB] at K0
                have K1 := CL.out
                rw [hl] at K1
                have K2 := CM.out
                rw [hm] at K2
                have K3 := CE.out
                rw [he] at K3
                have K4 := CG.out
                rw [hg] at K4
                replace HH := Lib.hid K0
                replace CL := Lib.hid K1
                replace CM := Lib.hid K2
                replace CE := Lib.hid K3
                replace CG := Lib.hid K4
                clear K0 K1 K2 K3 K4 hhasB hl hm he hg
                go_wp2_with (first | (refine ld_fr 1 rfl HX.out ?_) | (go_at_call 44; ((with_reducible refine (HH.out _).mono ?_); rintro e w4 ⟨rfl, q⟩; have HX0 := Lib.hid (HX.out.kept q); have HQ0 := Lib.hid (Qw.trans HQ.out q); have c19 := HX0.out.cell' 19 (.int .i64 f.lx) rfl; have c20 := HX0.out.cell' 20 (.int .i64 f.ly) rfl; have c21 := HX0.out.cell' 21 (.int .i64 f.lz) rfl; clear q)) | (go_at_call 43; ((with_reducible refine (CL.out _).mono ?_); rintro e w4 ⟨rfl, q⟩; have HX1 := Lib.hid (HX0.out.kept q); have HQ1 := Lib.hid (Qw.trans HQ0.out q); have c22 := HX1.out.cell' 22 (.int .i64 f.sx) rfl; have c23 := HX1.out.cell' 23 (.int .i64 f.sy) rfl; have c24 := HX1.out.cell' 24 (.int .i64 f.sz) rfl; clear q)) | (go_at_call 43; ((with_reducible refine (CM.out _).mono ?_); rintro e w4 ⟨rfl, q⟩; have HX2 := Lib.hid (HX1.out.kept q); have HQ2 := Lib.hid (Qw.trans HQ1.out q); have c28 := HX2.out.cell' 28 (.int .i64 f.ex) rfl; have c29 := HX2.out.cell' 29 (.int .i64 f.ey) rfl; have c30 := HX2.out.cell' 30 (.int .i64 f.ez) rfl; clear q)) | (go_at_call 43; ((with_reducible refine (CE.out _).mono ?_); rintro e w4 ⟨rfl, q⟩; have HX3 := Lib.hid (HX2.out.kept q); have HQ3 := Lib.hid (Qw.trans HQ2.out q); have c25 := HX3.out.cell' 25 (.int .i64 f.g) rfl; clear q)) | (go_at_call 43; ((with_reducible refine (CG.out _).mono ?_); rintro e w4 ⟨rfl, q⟩; have HX4 := Lib.hid (HX3.out.kept q); have HQ4 := Lib.hid (Qw.trans HQ3.out q); clear q)))
                go_ret
                exact ⟨by rw [EV.out]; rfl, HQ4.out⟩
              · cases ht : Fm.trnB f
                · have EV : Hid (Fm.vldF f = false) := Lib.hid (by simp [Fm.vldF, hhasB, hl, hm, he, hg, ht])
                  have K0 := HH.out
                  rw [hhasB] at K0
                  have K1 := CL.out
                  rw [hl] at K1
                  have K2 := CM.out
                  rw [hm] at K2
                  have K3 := CE.out
                  rw [he] at K3
                  have K4 := CG.out
                  rw [hg] at K4
                  have K5 := HT.out
                  rw [ht] at K5
                  replace HH := Lib.hid K0
                  replace CL := Lib.hid K1
                  replace CM := Lib.hid K2
                  replace CE := Lib.hid K3
                  replace CG := Lib.hid K4
                  replace HT := Lib.hid K5
                  clear K0 K1 K2 K3 K4 K5 hhasB hl hm he hg ht
                  go_wp2_with (first | (refine ld_fr 1 rfl HX.out ?_) | (go_at_call 44; ((with_reducible refine (HH.out _).mono ?_); rintro e w4 ⟨rfl, q⟩; have HX0 := Lib.hid (HX.out.kept q); have HQ0 := Lib.hid (Qw.trans HQ.out q); have c19 := HX0.out.cell' 19 (.int .i64 f.lx) rfl; have c20 := HX0.out.cell' 20 (.int .i64 f.ly) rfl; have c21 := HX0.out.cell' 21 (.int .i64 f.lz) rfl; clear q)) | (go_at_call 43; ((with_reducible refine (CL.out _).mono ?_); rintro e w4 ⟨rfl, q⟩; have HX1 := Lib.hid (HX0.out.kept q); have HQ1 := Lib.hid (Qw.trans HQ0.out q); have c22 := HX1.out.cell' 22 (.int .i64 f.sx) rfl; have c23 := HX1.out.cell' 23 (.int .i64 f.sy) rfl; have c24 := HX1.out.cell' 24 (.int .i64 f.sz) rfl; clear q)) | (go_at_call 43; ((with_reducible refine (CM.out _).mono ?_); rintro e w4 ⟨rfl, q⟩; have HX2 := Lib.hid (HX1.out.kept q); have HQ2 := Lib.hid (Qw.trans HQ1.out q); have c28 := HX2.out.cell' 28 (.int .i64 f.ex) rfl; have c29 := HX2.out.cell' 29 (.int .i64 f.ey) rfl; have c30 := HX2.out.cell' 30 (.int .i64 f.ez) rfl; clear q)) | (go_at_call 43; ((with_reducible refine (CE.out _).mono ?_); rintro e w4 ⟨rfl, q⟩; have HX3 := Lib.hid (HX2.out.kept q); have HQ3 := Lib.hid (Qw.trans HQ2.out q); have c25 := HX3.out.cell' 25 (.int .i64 f.g) rfl; clear q)) | (go_at_call 43; ((with_reducible refine (CG.out _).mono ?_); rintro e w4 ⟨rfl, q⟩; have HX4 := Lib.hid (HX3.out.kept q); have HQ4 := Lib.hid (Qw.trans HQ3.out q); clear q)) | (go_at_call 45; ((with_reducible refine (HT.out _).mono ?_); rintro e w4 ⟨rfl, q⟩; have HX5 := Lib.hid (HX4.out.kept q); have HQ5 := Lib.hid (Qw.trans HQ4.out q); clear q)) | (refine gd_fr 1 rfl rfl HX4.out ?_))
                  go_ret
                  exact ⟨by rw [EV.out]; rfl, HQ5.out⟩
                · have EV : Hid (Fm.vldF f = true) := Lib.hid (by simp [Fm.vldF, HA.out, hhasB, hl, hm, he, hg, ht])
                  have K0 := HH.out
                  rw [hhasB] at K0
                  have K1 := CL.out
                  rw [hl] at K1
                  have K2 := CM.out
                  rw [hm] at K2
                  have K3 := CE.out
                  rw [he] at K3
                  have K4 := CG.out
                  rw [hg] at K4
                  have K5 := HT.out
                  rw [ht] at K5
                  replace HH := Lib.hid K0
                  replace CL := Lib.hid K1
                  replace CM := Lib.hid K2
                  replace CE := Lib.hid K3
                  replace CG := Lib.hid K4
                  replace HT := Lib.hid K5
                  clear K0 K1 K2 K3 K4 K5 hhasB hl hm he hg ht
                  go_wp2_with (first | (refine ld_fr 1 rfl HX.out ?_) | (go_at_call 44; ((with_reducible refine (HH.out _).mono ?_); rintro e w4 ⟨rfl, q⟩; have HX0 := Lib.hid (HX.out.kept q); have HQ0 := Lib.hid (Qw.trans HQ.out q); have c19 := HX0.out.cell' 19 (.int .i64 f.lx) rfl; have c20 := HX0.out.cell' 20 (.int .i64 f.ly) rfl; have c21 := HX0.out.cell' 21 (.int .i64 f.lz) rfl; clear q)) | (go_at_call 43; ((with_reducible refine (CL.out _).mono ?_); rintro e w4 ⟨rfl, q⟩; have HX1 := Lib.hid (HX0.out.kept q); have HQ1 := Lib.hid (Qw.trans HQ0.out q); have c22 := HX1.out.cell' 22 (.int .i64 f.sx) rfl; have c23 := HX1.out.cell' 23 (.int .i64 f.sy) rfl; have c24 := HX1.out.cell' 24 (.int .i64 f.sz) rfl; clear q)) | (go_at_call 43; ((with_reducible refine (CM.out _).mono ?_); rintro e w4 ⟨rfl, q⟩; have HX2 := Lib.hid (HX1.out.kept q); have HQ2 := Lib.hid (Qw.trans HQ1.out q); have c28 := HX2.out.cell' 28 (.int .i64 f.ex) rfl; have c29 := HX2.out.cell' 29 (.int .i64 f.ey) rfl; have c30 := HX2.out.cell' 30 (.int .i64 f.ez) rfl; clear q)) | (go_at_call 43; ((with_reducible refine (CE.out _).mono ?_); rintro e w4 ⟨rfl, q⟩; have HX3 := Lib.hid (HX2.out.kept q); have HQ3 := Lib.hid (Qw.trans HQ2.out q); have c25 := HX3.out.cell' 25 (.int .i64 f.g) rfl; clear q)) | (go_at_call 43; ((with_reducible refine (CG.out _).mono ?_); rintro e w4 ⟨rfl, q⟩; have HX4 := Lib.hid (HX3.out.kept q); have HQ4 := Lib.hid (Qw.trans HQ3.out q); clear q)) | (go_at_call 45; ((with_reducible refine (HT.out _).mono ?_); rintro e w4 ⟨rfl, q⟩; have HX5 := Lib.hid (HX4.out.kept q); have HQ5 := Lib.hid (Qw.trans HQ4.out q); clear q)) | (refine gd_fr 1 rfl rfl HX4.out ?_))
                  go_ret
                  exact ⟨by rw [EV.out]; rfl, HQ5.out⟩
end Go.Proofs.YtnjcbgnghfppoaaDoor
