
/- ModalCodes: ModalCodes: the state after blocks has one code of each group, and numbers in their ranges.
   Conditions: none; every input. -/
import Derived.Test.YtijakijjeoaikaaRows
import Derived.Test.YtijakijjeoaikaaFrameM
import Derived.Test.YtijakijjeoaikaaMaA
import Derived.Test.YtijakijjeoaikaaMcA
import Derived.Deep.DeepCutAuto
import Derived.Deep.Cut
import Derived.Deep.CutRange

import Derived.Test.YtijakijjeoaikaaMvE
set_option linter.unusedVariables false
set_option linter.unusedSimpArgs false
namespace Go.Proofs.Ytijakijjeoaikaa
open Go.ChangeShapes Go.WideShapes Go.ChangeAt Go.RowKit

set_option maxRecDepth 100000 in
set_option maxHeartbeats 8000000 in
theorem codes_round (w : World) (v0 : Value) (u0 : List Int) (P : Nat) : True := trivial
set_option maxRecDepth 100000 in
set_option maxHeartbeats 8000000 in
theorem walk_modalCodes (v0 : Value) (u0 : List Int) (w : World) (hu0 : IntsB w.heap.size w v0 u0) : Calls Try.prog 9 #[v0] w fun e w' => e = .returned (.bool true) ∧ Below w.heap.size w w' := by
  have li := lightF v0 u0 _ w hu0
  have NW := Lib.hid (newF v0 u0 w hu0)
  have q0 : Hid (Qw w w) := Lib.hid (Qw.refl w)
  by_cases hl : u0.length ≤ 120
  · rw [decide_eq_true hl] at li
    have LI := Lib.hid li
    clear li hl hu0 q0
    go_enter Try.func9, Try.ntmps9
    go_wp2_with (first | (go_at_call 14; ((with_reducible refine (LI.out).mono ?_); rintro e w' ⟨rfl, rfl⟩)) | (go_at_call 17; ((with_reducible refine (NW.out).mono ?_); rintro e w1 ⟨rfl, t1, q1⟩; have T1 := Lib.hid t1; have Q1 := Lib.hid q1; clear t1 q1)) | (go_at_call 25; ((with_reducible refine (mdStart _).mono ?_); rintro e w2 ⟨rfl, q⟩; have T2 := Lib.hid (T1.out.kept q); have Q2 := Lib.hid (Qw.trans Q1.out q); clear q)) | (refine al_md ?_; intro w3 P hP X q; have T3 := Lib.hid (T2.out.kept q); have Q3 := Lib.hid (Qw.trans Q2.out q); have X3 := Lib.hid X; have h3 : w.heap.size < P := (by have := lt_of_block T2.out.1; omega); clear X q hP) | (refine st_md 4 15 rfl rfl X3.out ?_; have C3 := Lib.hid ((show Cm w v0 u0 P Md.S.zero w3 from ⟨⟨0, T3.out⟩, X3.out, Q3.out, h3⟩).put Md.S.start); generalize w3.setRow P (mdc Md.S.start) = w4 at *; clear T3 X3 Q3))
    clear LI NW
    go_loopw [5] (fun iv wr => ∃ (i : Nat) (s : Md.S), i ≤ 6 ∧ iv = .int .i64 (i : Int) ∧ Md.Ok s ∧ Hid (Cm w v0 u0 P s wr)) (fun iv _ => 6 - (intOf iv).toNat)
    case atStart => exact ⟨0, Md.S.start, by omega, rfl, Md.ok_start, C3⟩
    case round =>
      clear C3
      obtain ⟨i, s, hi, rfl, ok, HM⟩ := hrel
      by_cases hlt : i < 6
      · have hl1 : (i : Int) < 6 := by omega
        go_upto_region 8 with fail
        go_cut [6, 7] (fun rv ev wx => ∃ (R : Nat) (l : Vs.Ar), rv = .pointer (some ⟨R, 0, none⟩) ∧ ev = .int .i64 (Md.ape s l) ∧ Hid (Cm w v0 u0 P s wx) ∧ Hid (Bx wx R (mdc (Md.aps s l)) MT) ∧ P < R)
        case first =>
          refine wp_region_M (Cm w v0 u0 P s) 9 (by kernel_rfl) ?_
          have hSS : Cm w v0 u0 P s (World.drew wr) := HM.out.quiet (Qw.dr (Qw.refl wr))
          generalize World.drew wr = wd at *
          clear HM
          refine wpAnyM_take (i := 0) rfl (by kernel_rfl) (fun _ _ _ h => h) (yi_md 4 rfl (fun w h => h.x)) hSS ?_
          simp only [List.getElem_toArray, List.getElem_cons_succ, List.getElem_cons_zero, Act.put, List.setIfInBounds_toArray, List.set_cons_zero, List.set_cons_succ]
          refine wpAnyM_take (i := 1) (v := ?_) rfl (by kernel_rfl) (fun _ _ _ h => h) (Or.inl ⟨by rfl, ?_⟩) hSS ?_
          rotate_left 1
          · intro wS hwS
            go_simp
            try with_reducible rfl
          simp only [List.getElem_toArray, List.getElem_cons_succ, List.getElem_cons_zero, Act.put, List.setIfInBounds_toArray, List.set_cons_zero, List.set_cons_succ]
          refine wpAnyM_two (i := 2) (j := 7) rfl rfl (by kernel_rfl) rfl rfl (fun K hK => ?_) (fun K hK => ?_)
          · go_simp
            refine (valsC hSS).mono ?_
            rintro e w5 ⟨⟨sv, l, rfl, V⟩, m, g⟩
            have VL := Lib.hid V
            refine hK _ _ (fun _ => m) ?_
            clear hK K hSS g V
            have hSS := m
            clear m
            try simp only [List.getElem_toArray, List.getElem_cons_succ, List.getElem_cons_zero, Act.put, List.setIfInBounds_toArray, List.set_cons_zero, List.set_cons_succ]
            refine wpAnyM_two (i := 3) (j := 7) rfl rfl (by kernel_rfl) rfl rfl (fun K hK => ?_) (fun K hK => ?_)
            · go_simp
              refine (mdApply s VL.out (by first | exact Nat.le_refl _ | exact hz)).mono ?_
              rintro e w6 ⟨rfl, q⟩
              have m := hSS.quiet q
              refine hK _ _ (fun _ => m) ?_
              clear hK K hSS q
              have hSS := m
              clear m
              try simp only [List.getElem_toArray, List.getElem_cons_succ, List.getElem_cons_zero, Act.put, List.setIfInBounds_toArray, List.set_cons_zero, List.set_cons_succ]
              refine wpAnyM_take (i := 4) (v := ?_) rfl (by kernel_rfl) (fun _ _ _ h => h) (Or.inl ⟨by rfl, ?_⟩) hSS ?_
              rotate_left 1
              · intro wS hwS
                go_simp
                try with_reducible rfl
              simp only [List.getElem_toArray, List.getElem_cons_succ, List.getElem_cons_zero, Act.put, List.setIfInBounds_toArray, List.set_cons_zero, List.set_cons_succ]
              refine wpAnyM_take (i := 5) (v := ?_) rfl (by kernel_rfl) (fun _ _ _ h => h) (Or.inl ⟨by rfl, ?_⟩) hSS ?_
              rotate_left 1
              · intro wS hwS
                go_simp
                try with_reducible rfl
              simp only [List.getElem_toArray, List.getElem_cons_succ, List.getElem_cons_zero, Act.put, List.setIfInBounds_toArray, List.set_cons_zero, List.set_cons_succ]
              refine wpAnyM_take (i := 6) (v := ?_) rfl (by kernel_rfl) (fun _ _ _ h => h) (Or.inl ⟨by rfl, ?_⟩) hSS ?_
              rotate_left 1
              · intro wS hwS
                go_simp
                try with_reducible rfl
              simp only [List.getElem_toArray, List.getElem_cons_succ, List.getElem_cons_zero, Act.put, List.setIfInBounds_toArray, List.set_cons_zero, List.set_cons_succ]
              refine wpAnyM_one (i := 7) rfl (by kernel_rfl) rfl (fun K hK => ?_)
              refine al_wp ?_
              intro w7 R hR X q
              have m := hSS.quiet q
              have hPR : P < R := by have := hSS.x.lt; omega
              have XR := Lib.hid X
              refine hK _ _ (fun _ => m) ?_
              clear hK K hSS q X hR
              have hSS := m
              clear m
              try simp only [List.getElem_toArray, List.getElem_cons_succ, List.getElem_cons_zero, Act.put, List.setIfInBounds_toArray, List.set_cons_zero, List.set_cons_succ]
              refine wpAnyM_one (i := 8) rfl (by kernel_rfl) rfl (fun K hK => ?_)
              refine st_wp 6 25 rfl rfl XR.out ?_
              refine hK _ _ (fun _ => hSS.row hPR _) ?_
              clear hK K
              try simp only [List.getElem_toArray, List.getElem_cons_succ, List.getElem_cons_zero, Act.put, List.setIfInBounds_toArray, List.set_cons_zero, List.set_cons_succ]
              refine wpAnyM_one (i := 9) rfl (by kernel_rfl) rfl (fun K hK => ?_)
              go_simp
              refine hK _ _ (fun h => absurd h (by decide)) ?_
              clear hK K
              try simp only [List.getElem_toArray, List.getElem_cons_succ, List.getElem_cons_zero, Act.put, List.setIfInBounds_toArray, List.set_cons_zero, List.set_cons_succ]
              refine wpAnyM_done (by kernel_rfl) ?_ _
              go_wp2
              go_meet
              exact ⟨R, l, rfl, rfl, Lib.hid (hSS.row hPR _), Lib.hid XR.out.srS, hPR⟩
            · refine al_wp ?_
              intro w7 R hR X q
              have m := hSS.quiet q
              have hPR : P < R := by have := hSS.x.lt; omega
              have hz := q.size
              replace VL := Lib.hid (VL.out.kept q (Nat.le_refl _))
              have XR := Lib.hid X
              refine hK _ _ (fun _ => m) ?_
              clear hK K hSS q X hR
              have hSS := m
              clear m
              try simp only [List.getElem_toArray, List.getElem_cons_succ, List.getElem_cons_zero, Act.put, List.setIfInBounds_toArray, List.set_cons_zero, List.set_cons_succ]
              refine wpAnyM_one (i := 3) rfl (by kernel_rfl) rfl (fun K hK => ?_)
              go_simp
              refine (mdApply s VL.out (by first | exact Nat.le_refl _ | exact hz)).mono ?_
              rintro e w6 ⟨rfl, q⟩
              have m := hSS.quiet q
              replace XR := Lib.hid (XR.out.kept q)
              refine hK _ _ (fun _ => m) ?_
              clear hK K hSS q
              have hSS := m
              clear m
              try simp only [List.getElem_toArray, List.getElem_cons_succ, List.getElem_cons_zero, Act.put, List.setIfInBounds_toArray, List.set_cons_zero, List.set_cons_succ]
              refine wpAnyM_take (i := 4) (v := ?_) rfl (by kernel_rfl) (fun _ _ _ h => h) (Or.inl ⟨by rfl, ?_⟩) hSS ?_
              rotate_left 1
              · intro wS hwS
                go_simp
                try with_reducible rfl
              simp only [List.getElem_toArray, List.getElem_cons_succ, List.getElem_cons_zero, Act.put, List.setIfInBounds_toArray, List.set_cons_zero, List.set_cons_succ]
              refine wpAnyM_take (i := 5) (v := ?_) rfl (by kernel_rfl) (fun _ _ _ h => h) (Or.inl ⟨by rfl, ?_⟩) hSS ?_
              rotate_left 1
              · intro wS hwS
                go_simp
                try with_reducible rfl
              simp only [List.getElem_toArray, List.getElem_cons_succ, List.getElem_cons_zero, Act.put, List.setIfInBounds_toArray, List.set_cons_zero, List.set_cons_succ]
              refine wpAnyM_take (i := 6) (v := ?_) rfl (by kernel_rfl) (fun _ _ _ h => h) (Or.inl ⟨by rfl, ?_⟩) hSS ?_
              rotate_left 1
              · intro wS hwS
                go_simp
                try with_reducible rfl
              simp only [List.getElem_toArray, List.getElem_cons_succ, List.getElem_cons_zero, Act.put, List.setIfInBounds_toArray, List.set_cons_zero, List.set_cons_succ]
              refine wpAnyM_one (i := 8) rfl (by kernel_rfl) rfl (fun K hK => ?_)
              refine st_wp 6 25 rfl rfl XR.out ?_
              refine hK _ _ (fun _ => hSS.row hPR _) ?_
              clear hK K
              try simp only [List.getElem_toArray, List.getElem_cons_succ, List.getElem_cons_zero, Act.put, List.setIfInBounds_toArray, List.set_cons_zero, List.set_cons_succ]
              refine wpAnyM_one (i := 9) rfl (by kernel_rfl) rfl (fun K hK => ?_)
              go_simp
              refine hK _ _ (fun h => absurd h (by decide)) ?_
              clear hK K
              try simp only [List.getElem_toArray, List.getElem_cons_succ, List.getElem_cons_zero, Act.put, List.setIfInBounds_toArray, List.set_cons_zero, List.set_cons_succ]
              refine wpAnyM_done (by kernel_rfl) ?_ _
              go_wp2
              go_meet
              exact ⟨R, l, rfl, rfl, Lib.hid (hSS.row hPR _), Lib.hid XR.out.srS, hPR⟩
          · refine al_wp ?_
            intro w7 R hR X q
            have m := hSS.quiet q
            have hPR : P < R := by have := hSS.x.lt; omega
            have XR := Lib.hid X
            refine hK _ _ (fun _ => m) ?_
            clear hK K hSS q X hR
            have hSS := m
            clear m
            try simp only [List.getElem_toArray, List.getElem_cons_succ, List.getElem_cons_zero, Act.put, List.setIfInBounds_toArray, List.set_cons_zero, List.set_cons_succ]
            refine wpAnyM_one (i := 2) rfl (by kernel_rfl) rfl (fun K hK => ?_)
            go_simp
            refine (valsC hSS).mono ?_
            rintro e w5 ⟨⟨sv, l, rfl, V⟩, m, g⟩
            have VL := Lib.hid V
            replace XR := Lib.hid (XR.out.grM g (by have := hSS.p; omega))
            refine hK _ _ (fun _ => m) ?_
            clear hK K hSS g V
            have hSS := m
            clear m
            try simp only [List.getElem_toArray, List.getElem_cons_succ, List.getElem_cons_zero, Act.put, List.setIfInBounds_toArray, List.set_cons_zero, List.set_cons_succ]
            refine wpAnyM_one (i := 3) rfl (by kernel_rfl) rfl (fun K hK => ?_)
            go_simp
            refine (mdApply s VL.out (by first | exact Nat.le_refl _ | exact hz)).mono ?_
            rintro e w6 ⟨rfl, q⟩
            have m := hSS.quiet q
            replace XR := Lib.hid (XR.out.kept q)
            refine hK _ _ (fun _ => m) ?_
            clear hK K hSS q
            have hSS := m
            clear m
            try simp only [List.getElem_toArray, List.getElem_cons_succ, List.getElem_cons_zero, Act.put, List.setIfInBounds_toArray, List.set_cons_zero, List.set_cons_succ]
            refine wpAnyM_take (i := 4) (v := ?_) rfl (by kernel_rfl) (fun _ _ _ h => h) (Or.inl ⟨by rfl, ?_⟩) hSS ?_
            rotate_left 1
            · intro wS hwS
              go_simp
              try with_reducible rfl
            simp only [List.getElem_toArray, List.getElem_cons_succ, List.getElem_cons_zero, Act.put, List.setIfInBounds_toArray, List.set_cons_zero, List.set_cons_succ]
            refine wpAnyM_take (i := 5) (v := ?_) rfl (by kernel_rfl) (fun _ _ _ h => h) (Or.inl ⟨by rfl, ?_⟩) hSS ?_
            rotate_left 1
            · intro wS hwS
              go_simp
              try with_reducible rfl
            simp only [List.getElem_toArray, List.getElem_cons_succ, List.getElem_cons_zero, Act.put, List.setIfInBounds_toArray, List.set_cons_zero, List.set_cons_succ]
            refine wpAnyM_take (i := 6) (v := ?_) rfl (by kernel_rfl) (fun _ _ _ h => h) (Or.inl ⟨by rfl, ?_⟩) hSS ?_
            rotate_left 1
            · intro wS hwS
              go_simp
              try with_reducible rfl
            simp only [List.getElem_toArray, List.getElem_cons_succ, List.getElem_cons_zero, Act.put, List.setIfInBounds_toArray, List.set_cons_zero, List.set_cons_succ]
            refine wpAnyM_one (i := 8) rfl (by kernel_rfl) rfl (fun K hK => ?_)
            refine st_wp 6 25 rfl rfl XR.out ?_
            refine hK _ _ (fun _ => hSS.row hPR _) ?_
            clear hK K
            try simp only [List.getElem_toArray, List.getElem_cons_succ, List.getElem_cons_zero, Act.put, List.setIfInBounds_toArray, List.set_cons_zero, List.set_cons_succ]
            refine wpAnyM_one (i := 9) rfl (by kernel_rfl) rfl (fun K hK => ?_)
            go_simp
            refine hK _ _ (fun h => absurd h (by decide)) ?_
            clear hK K
            try simp only [List.getElem_toArray, List.getElem_cons_succ, List.getElem_cons_zero, Act.put, List.setIfInBounds_toArray, List.set_cons_zero, List.set_cons_succ]
            refine wpAnyM_done (by kernel_rfl) ?_ _
            go_wp2
            go_meet
            exact ⟨R, l, rfl, rfl, Lib.hid (hSS.row hPR _), Lib.hid XR.out.srS, hPR⟩
        case rest =>
          obtain ⟨R, l, rfl, rfl, HC, XR, hPR⟩ := hcut
          clear HM
          by_cases he : Md.ape s l = 0
          · have ok2 := ok.aps he
            rw [he]
            clear he ok
            generalize Md.aps s l = t at *
            have okt := ok2
            obtain ⟨zmo, zpl, zdi, zun, zfe, zcu, zle, zre, zsy, zpa, zpo, ztu, zsp, zmi, zfl, zbl, zfd, zse, ztl, zlo, zh, zd⟩ := t
            have G0 := mdGroup 71 zmo
            rw [show Md.grp 71 zmo = 1 from okt.g1] at G0
            have G0 := Lib.hid G0
            have G1 := mdGroup 71 zpl
            rw [show Md.grp 71 zpl = 2 from okt.g2] at G1
            have G1 := Lib.hid G1
            have G2 := mdGroup 71 zdi
            rw [show Md.grp 71 zdi = 3 from okt.g3] at G2
            have G2 := Lib.hid G2
            have G3 := mdGroup 71 zun
            rw [show Md.grp 71 zun = 4 from okt.g4] at G3
            have G3 := Lib.hid G3
            have G4 := mdGroup 71 zfe
            rw [show Md.grp 71 zfe = 5 from okt.g5] at G4
            have G4 := Lib.hid G4
            have G5 := mdGroup 71 zcu
            rw [show Md.grp 71 zcu = 6 from okt.g6] at G5
            have G5 := Lib.hid G5
            have G6 := mdGroup 71 zle
            rw [show Md.grp 71 zle = 7 from okt.g7] at G6
            have G6 := Lib.hid G6
            have G7 := mdGroup 71 zre
            rw [show Md.grp 71 zre = 8 from okt.g8] at G7
            have G7 := Lib.hid G7
            have G8 := mdGroup 71 zsy
            rw [show Md.grp 71 zsy = 9 from okt.g9] at G8
            have G8 := Lib.hid G8
            have G9 := mdGroup 71 zpa
            rw [show Md.grp 71 zpa = 10 from okt.g10] at G9
            have G9 := Lib.hid G9
            have G10 := mdGroup 71 zpo
            rw [show Md.grp 71 zpo = 11 from okt.g11] at G10
            have G10 := Lib.hid G10
            have G11 := mdGroup 71 ztu
            rw [show Md.grp 71 ztu = 12 from okt.g12] at G11
            have G11 := Lib.hid G11
            have G12 := mdGroup 77 zsp
            rw [show Md.grp 77 zsp = 22 from okt.g22] at G12
            have G12 := Lib.hid G12
            have bfd := okt.fd
            simp only at bfd
            obtain ⟨bfd0, bfd1⟩ := bfd
            have bse := okt.se
            simp only at bse
            obtain ⟨bse0, bse1⟩ := bse
            have btl := okt.tl
            simp only at btl
            obtain ⟨btl0, btl1⟩ := btl
            have blo := okt.lo
            simp only at blo
            obtain ⟨blo0, blo1⟩ := blo
            have bh := okt.h
            simp only at bh
            obtain ⟨bh0, bh1⟩ := bh
            have bd := okt.d
            simp only at bd
            obtain ⟨bd0, bd1⟩ := bd
            have bbl := okt.bl
            simp only at bbl
            obtain ⟨bbl0, bbl1⟩ := bbl
            have OKT := Lib.hid okt
            clear okt ok2
            go_wp2_with (first | (refine ld_md 6 rfl XR.out ?_) | (refine st_md 4 36 rfl rfl HC.out.x ?_; have HM := Lib.hid (HC.out.put (⟨zmo, zpl, zdi, zun, zfe, zcu, zle, zre, zsy, zpa, zpo, ztu, zsp, zmi, zfl, zbl, zfd, zse, ztl, zlo, zh, zd⟩ : Md.S)); clear HC XR; generalize World.setRow _ P (mdc (⟨zmo, zpl, zdi, zun, zfe, zcu, zle, zre, zsy, zpa, zpo, ztu, zsp, zmi, zfl, zbl, zfd, zse, ztl, zlo, zh, zd⟩ : Md.S)) = wq at *; have c0 := HM.out.x.cell' 0 (.int .i64 zmo) rfl; have c1 := HM.out.x.cell' 1 (.int .i64 zpl) rfl; have c2 := HM.out.x.cell' 2 (.int .i64 zdi) rfl; have c3 := HM.out.x.cell' 3 (.int .i64 zun) rfl; have c4 := HM.out.x.cell' 4 (.int .i64 zfe) rfl; have c5 := HM.out.x.cell' 5 (.int .i64 zcu) rfl; have c6 := HM.out.x.cell' 6 (.int .i64 zle) rfl; have c7 := HM.out.x.cell' 7 (.int .i64 zre) rfl; have c8 := HM.out.x.cell' 8 (.int .i64 zsy) rfl; have c9 := HM.out.x.cell' 9 (.int .i64 zpa) rfl; have c10 := HM.out.x.cell' 10 (.int .i64 zpo) rfl; have c11 := HM.out.x.cell' 11 (.int .i64 ztu) rfl; have c12 := HM.out.x.cell' 12 (.int .i64 zsp) rfl; have c15 := HM.out.x.cell' 15 (.int .i64 zbl) rfl; have c16 := HM.out.x.cell' 16 (.int .i64 zfd) rfl; have c17 := HM.out.x.cell' 17 (.int .i64 zse) rfl; have c18 := HM.out.x.cell' 18 (.int .i64 ztl) rfl; have c19 := HM.out.x.cell' 19 (.int .i64 zlo) rfl; have c20 := HM.out.x.cell' 20 (.int .i64 zh) rfl; have c21 := HM.out.x.cell' 21 (.int .i64 zd) rfl) | (go_at_call 19; (first | ((with_reducible refine (G0.out _).mono ?_); rintro e w' ⟨rfl, rfl⟩) | ((with_reducible refine (G1.out _).mono ?_); rintro e w' ⟨rfl, rfl⟩) | ((with_reducible refine (G2.out _).mono ?_); rintro e w' ⟨rfl, rfl⟩) | ((with_reducible refine (G3.out _).mono ?_); rintro e w' ⟨rfl, rfl⟩) | ((with_reducible refine (G4.out _).mono ?_); rintro e w' ⟨rfl, rfl⟩) | ((with_reducible refine (G5.out _).mono ?_); rintro e w' ⟨rfl, rfl⟩) | ((with_reducible refine (G6.out _).mono ?_); rintro e w' ⟨rfl, rfl⟩) | ((with_reducible refine (G7.out _).mono ?_); rintro e w' ⟨rfl, rfl⟩) | ((with_reducible refine (G8.out _).mono ?_); rintro e w' ⟨rfl, rfl⟩) | ((with_reducible refine (G9.out _).mono ?_); rintro e w' ⟨rfl, rfl⟩) | ((with_reducible refine (G10.out _).mono ?_); rintro e w' ⟨rfl, rfl⟩) | ((with_reducible refine (G11.out _).mono ?_); rintro e w' ⟨rfl, rfl⟩) | ((with_reducible refine (G12.out _).mono ?_); rintro e w' ⟨rfl, rfl⟩))))
            go_roundw
            case rel => exact ⟨i + 1, _, by omega, by go_num, OKT.out, HM⟩
            case measure => simp [intOf]; omega
          · rw [Md.aps_zero he] at XR
            generalize Md.ape s l = er at *
            have ze : (er == 0) = false := beq_eq_false_iff_ne.2 he
            have zn : (er != 0) = true := by simpa using he
            have zn2 : ((er != 0) == true) = true := by rw [zn]; rfl
            have zn3 : (some (er != 0) == some true) = true := by rw [zn]; rfl
            have zn4 : (some (er != 0)) = some true := by rw [zn]
            have NE := ne_md0
            generalize s = t at *
            have okt := ok
            obtain ⟨zmo, zpl, zdi, zun, zfe, zcu, zle, zre, zsy, zpa, zpo, ztu, zsp, zmi, zfl, zbl, zfd, zse, ztl, zlo, zh, zd⟩ := t
            have G0 := mdGroup 71 zmo
            rw [show Md.grp 71 zmo = 1 from okt.g1] at G0
            have G0 := Lib.hid G0
            have G1 := mdGroup 71 zpl
            rw [show Md.grp 71 zpl = 2 from okt.g2] at G1
            have G1 := Lib.hid G1
            have G2 := mdGroup 71 zdi
            rw [show Md.grp 71 zdi = 3 from okt.g3] at G2
            have G2 := Lib.hid G2
            have G3 := mdGroup 71 zun
            rw [show Md.grp 71 zun = 4 from okt.g4] at G3
            have G3 := Lib.hid G3
            have G4 := mdGroup 71 zfe
            rw [show Md.grp 71 zfe = 5 from okt.g5] at G4
            have G4 := Lib.hid G4
            have G5 := mdGroup 71 zcu
            rw [show Md.grp 71 zcu = 6 from okt.g6] at G5
            have G5 := Lib.hid G5
            have G6 := mdGroup 71 zle
            rw [show Md.grp 71 zle = 7 from okt.g7] at G6
            have G6 := Lib.hid G6
            have G7 := mdGroup 71 zre
            rw [show Md.grp 71 zre = 8 from okt.g8] at G7
            have G7 := Lib.hid G7
            have G8 := mdGroup 71 zsy
            rw [show Md.grp 71 zsy = 9 from okt.g9] at G8
            have G8 := Lib.hid G8
            have G9 := mdGroup 71 zpa
            rw [show Md.grp 71 zpa = 10 from okt.g10] at G9
            have G9 := Lib.hid G9
            have G10 := mdGroup 71 zpo
            rw [show Md.grp 71 zpo = 11 from okt.g11] at G10
            have G10 := Lib.hid G10
            have G11 := mdGroup 71 ztu
            rw [show Md.grp 71 ztu = 12 from okt.g12] at G11
            have G11 := Lib.hid G11
            have G12 := mdGroup 77 zsp
            rw [show Md.grp 77 zsp = 22 from okt.g22] at G12
            have G12 := Lib.hid G12
            have bfd := okt.fd
            simp only at bfd
            obtain ⟨bfd0, bfd1⟩ := bfd
            have bse := okt.se
            simp only at bse
            obtain ⟨bse0, bse1⟩ := bse
            have btl := okt.tl
            simp only at btl
            obtain ⟨btl0, btl1⟩ := btl
            have blo := okt.lo
            simp only at blo
            obtain ⟨blo0, blo1⟩ := blo
            have bh := okt.h
            simp only at bh
            obtain ⟨bh0, bh1⟩ := bh
            have bd := okt.d
            simp only at bd
            obtain ⟨bd0, bd1⟩ := bd
            have bbl := okt.bl
            simp only at bbl
            obtain ⟨bbl0, bbl1⟩ := bbl
            have OKT := Lib.hid okt
            clear okt ok
            have HM := HC
            clear HC
            have c0 := HM.out.x.cell' 0 (.int .i64 zmo) rfl; have c1 := HM.out.x.cell' 1 (.int .i64 zpl) rfl; have c2 := HM.out.x.cell' 2 (.int .i64 zdi) rfl; have c3 := HM.out.x.cell' 3 (.int .i64 zun) rfl; have c4 := HM.out.x.cell' 4 (.int .i64 zfe) rfl; have c5 := HM.out.x.cell' 5 (.int .i64 zcu) rfl; have c6 := HM.out.x.cell' 6 (.int .i64 zle) rfl; have c7 := HM.out.x.cell' 7 (.int .i64 zre) rfl; have c8 := HM.out.x.cell' 8 (.int .i64 zsy) rfl; have c9 := HM.out.x.cell' 9 (.int .i64 zpa) rfl; have c10 := HM.out.x.cell' 10 (.int .i64 zpo) rfl; have c11 := HM.out.x.cell' 11 (.int .i64 ztu) rfl; have c12 := HM.out.x.cell' 12 (.int .i64 zsp) rfl; have c15 := HM.out.x.cell' 15 (.int .i64 zbl) rfl; have c16 := HM.out.x.cell' 16 (.int .i64 zfd) rfl; have c17 := HM.out.x.cell' 17 (.int .i64 zse) rfl; have c18 := HM.out.x.cell' 18 (.int .i64 ztl) rfl; have c19 := HM.out.x.cell' 19 (.int .i64 zlo) rfl; have c20 := HM.out.x.cell' 20 (.int .i64 zh) rfl; have c21 := HM.out.x.cell' 21 (.int .i64 zd) rfl
            go_wp2_with (first | (refine gd_load 6 ?hy ?hx XR.out ?_; (first | (case hy => rfl) | (case hy => exact zn3) | (case hy => (unfold Region.wanted; simp only []; exact zn3)) | (case hy => (simp [Region.wanted, yielded, zn]; done))); case hx => rfl) | (refine gd_build ?hy ?_; (first | (case hy => rfl) | (case hy => exact zn3) | (case hy => (unfold Region.wanted; simp only []; exact zn3)) | (case hy => (simp [Region.wanted, yielded, zn]; done)))) | (go_at_call 19; (first | ((with_reducible refine (G0.out _).mono ?_); rintro e w' ⟨rfl, rfl⟩) | ((with_reducible refine (G1.out _).mono ?_); rintro e w' ⟨rfl, rfl⟩) | ((with_reducible refine (G2.out _).mono ?_); rintro e w' ⟨rfl, rfl⟩) | ((with_reducible refine (G3.out _).mono ?_); rintro e w' ⟨rfl, rfl⟩) | ((with_reducible refine (G4.out _).mono ?_); rintro e w' ⟨rfl, rfl⟩) | ((with_reducible refine (G5.out _).mono ?_); rintro e w' ⟨rfl, rfl⟩) | ((with_reducible refine (G6.out _).mono ?_); rintro e w' ⟨rfl, rfl⟩) | ((with_reducible refine (G7.out _).mono ?_); rintro e w' ⟨rfl, rfl⟩) | ((with_reducible refine (G8.out _).mono ?_); rintro e w' ⟨rfl, rfl⟩) | ((with_reducible refine (G9.out _).mono ?_); rintro e w' ⟨rfl, rfl⟩) | ((with_reducible refine (G10.out _).mono ?_); rintro e w' ⟨rfl, rfl⟩) | ((with_reducible refine (G11.out _).mono ?_); rintro e w' ⟨rfl, rfl⟩) | ((with_reducible refine (G12.out _).mono ?_); rintro e w' ⟨rfl, rfl⟩))))
            go_roundw
            case rel => exact ⟨i + 1, _, by omega, by go_num, OKT.out, HM⟩
            case measure => simp [intOf]; omega
      · obtain rfl : i = 6 := by omega
        clear hlt
        have q0 : Hid (Qw w wr) := Lib.hid HM.out.q
        go_wp2_with (go_at_call 15; ((with_reducible refine (awakeM _).mono ?_); rintro e w' ⟨rfl, q⟩; replace q0 : Hid (Qw w w') := Lib.hid (Qw.trans q0.out q); clear q))
        go_ret
        exact ⟨rfl, q0.out⟩
  · rw [decide_eq_false hl] at li
    have LI := Lib.hid li
    clear li hl hu0 NW
    go_enter Try.func9, Try.ntmps9
    go_wp2_with (first | (go_at_call 14; ((with_reducible refine (LI.out).mono ?_); rintro e w' ⟨rfl, rfl⟩)) | (go_at_call 15; ((with_reducible refine (awakeM _).mono ?_); rintro e w' ⟨rfl, q⟩; replace q0 : Hid (Qw w w') := Lib.hid (Qw.trans q0.out q); clear q)))
    go_ret
    exact ⟨rfl, q0.out⟩

/-! ### the row -/
theorem own_modalCodes : ownKnob Try.prog.godebug = none := by kernel_rfl
set_option maxRecDepth 100000 in
theorem lifted_modalCodes (os : Os) (started : os.Started) (H : Type) (enc : TypeId × Value → H) :
    ReturnsInHanded {} Try.checked os 9 .any (Rows.modalCodesSpec.pre6 enc Try.prog Try.f9 Rows.modalCodesRow.domain false) (Rows.modalCodesSpec.post enc Try.prog Try.f9 false true false false) := by
  refine returnsInHanded_of_change (C := Try.checked) own_modalCodes started (by kernel_rfl) Try.func9
    (ChangeSpec.witness6 (enc := enc) (C := Try.checked) false ⟨#[], #[.slice none 0 0], []⟩ 8 (by kernel_rfl) (by kernel_rfl) (by kernel_rfl) (by kernel_rfl)) ?_
  intro W base args ds gs before hval0 hW hcnd _
  have hval : ∀ (j : Nat) t v, Try.f9.params[j]? = some t → args[j]? = some v → Value.okWide Try.prog W .any base t v := hval0
  have hW' := hW
  obtain ⟨p, q, hA0, hV, rfl, hfz, hnd⟩ := hW
  have hA : DataW.TrodAll enc Try.prog W 0 (fun _ => true) true Try.f9.params.toList args.toList ds p := hA0
  rw [Try.params9] at hA hval
  obtain ⟨v0, vs0, d0, ds0, p0, q0, hargs, rfl, rfl, h0, r0⟩ := trodAll_cons hA
  obtain ⟨rfl, rfl, rfl⟩ := trodAll_nil r0
  obtain rfl : args = #[v0] := by cases args; simp_all
  obtain ⟨rfl, rfl⟩ := trodVars_none hV
  obtain ⟨u0, hu0⟩ := inM_ints (hval 0 23 v0 rfl rfl) h0
  clear hA0 hval0
  simp only [List.append_nil] at hW'
  refine (walk_modalCodes v0 u0 W hu0).mono fun e W' ⟨he, bel⟩ => ?_
  subst he
  exact ⟨_, rfl, _, _, _, [], _, [], hW', trodAll_mk1 (shut_bool Try.underlying4 _), (trodAll_cons_mk (outM_ints h0 bel (fun x hx => hW'.lt x (by first | exact hx | simp [hx]))) trodAll_mk0), rfl, Below.frame bel _, fun h => by cases h⟩

/-- The statement. -/
theorem modalCodes_holds : Rows.ModalCodesSaid :=
  OpenClaim.holds_of_wide 9 Try.f9 rfl rfl rfl rfl rfl rfl rfl ⟨rfl, rfl, rfl, rfl, rfl⟩ rfl rfl rfl rfl rfl (by kernel_rfl) Try.func9 (by kernel_rfl)
    (of_decide_eq_true (by kernel_rfl)) (by unfold Func.isWrapper; first | (rw [if_pos (by decide +kernel)]; kernel_rfl) | (rw [if_neg (by decide +kernel)]; exact ⟨rfl, rfl⟩))
    (fun os started H enc _ => lifted_modalCodes os started H enc)

end Go.Proofs.Ytijakijjeoaikaa
