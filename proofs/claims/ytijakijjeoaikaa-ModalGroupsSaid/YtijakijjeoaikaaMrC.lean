
/- The walk of the specification's Check of a block, and of its feed rates. -/
import Derived.Test.YtijakijjeoaikaaMrB
set_option linter.unusedVariables false
set_option linter.unusedSimpArgs false
namespace Go.Proofs.Ytijakijjeoaikaa
open Go.RowKit

theorem ValsB.take {C : Nat} {w : World} {a : Option Addr} {cap : Nat} {l : Vs.Ar} (h : ValsB C w (.slice a l.length cap) l) (i : Nat) (hi : i ≤ l.length) : ValsB C w (.slice a i cap) (l.take i) := by
  obtain ⟨a', cap', e, l1, l2, h4⟩ := h
  obtain ⟨rfl, rfl⟩ : a = a' ∧ cap = cap' := by simpa using e
  have hl : (l.take i).length = i := by rw [List.length_take]; omega
  refine ⟨a, cap, by rw [hl], by omega, l2, ?_⟩
  rcases h4 with rfl | ⟨b, off, rfl, hb, hc⟩
  · left; simp
  · refine .inr ⟨b, off, rfl, hb, fun j hj => ?_⟩
    rw [hl] at hj
    have e1 : Vs.ltr (l.take i) j = Vs.ltr l j := by unfold Vs.ltr; rw [List.getD_eq_getElem?_getD, List.getD_eq_getElem?_getD, List.getElem?_take_of_lt hj]
    have e2 : Vs.num (l.take i) j = Vs.num l j := by unfold Vs.num; rw [List.getD_eq_getElem?_getD, List.getD_eq_getElem?_getD, List.getElem?_take_of_lt hj]
    rw [e1, e2]
    exact hc j (by omega)
theorem or_left {a : Bool} {p : Prop} (h : a = true) : (a = false ∨ p) = p := by rw [h]; simp
set_option maxRecDepth 100000 in
set_option maxHeartbeats 4000000 in
theorem mrCheck {C : Nat} {w : World} {v : Value} {l : Vs.Ar} (h : ValsB C w v l) (hC : C ≤ w.heap.size) :
    Calls Try.prog 28 #[v] w fun e w' => e = .returned (.int .i64 (Md.chk l)) ∧ Qw w w' := by
  have g14 := fun w' (q : Qw w w') => mrGroupOf (h.kept (C := w.heap.size) (w' := w') q hC) (Nat.le_trans hC q.size) 14 (by decide)
  have g1 := fun w' (q : Qw w w') => mrGroupOf (h.kept (C := w.heap.size) (w' := w') q hC) (Nat.le_trans hC q.size) 1 (by decide)
  have g13 := fun w' (q : Qw w w') => mrGroupOf (h.kept (C := w.heap.size) (w' := w') q hC) (Nat.le_trans hC q.size) 13 (by decide)
  have b14 := Md.gcd_hg l 14 (by decide)
  have b1 := Md.gcd_hg l 1 (by decide)
  have b13 := Md.gcd_hg l 13 (by decide)
  have c14 := Md.gcd_bd l 14 (by decide)
  have c1 := Md.gcd_bd l 1 (by decide)
  have c13 := Md.gcd_bd l 13 (by decide)
  have hC0 := hC
  obtain ⟨a, cap, rfl, l1, l2, hA⟩ := h
  have HL : Hid (ValsB C w (.slice a l.length cap) l) := Lib.hid ⟨a, cap, rfl, l1, l2, hA⟩
  have HA := Lib.hid hA
  have G14 := Lib.hid g14
  have G1 := Lib.hid g1
  have G13 := Lib.hid g13
  have B14 := Lib.hid b14
  have B1 := Lib.hid b1
  have B13 := Lib.hid b13
  have C14 := Lib.hid c14
  have C1 := Lib.hid c1
  have C13 := Lib.hid c13
  have HC := Lib.hid hC0
  clear hA g14 g1 g13 b14 b1 b13 c14 c1 c13 hC0 hC
  go_enter Try.func28, Try.ntmps28
  go_wp2
  go_loopw [3] (fun iv wr => ∃ i : Nat, i ≤ l.length ∧ iv = .int .i64 (i : Int) ∧ Hid (Md.chk l = Md.chf (l.take i) (l.drop i)) ∧ Hid (Qw w wr)) (fun iv _ => l.length - (intOf iv).toNat)
  case atStart => exact ⟨0, by omega, rfl, Lib.hid rfl, Lib.hid (Qw.refl w)⟩
  case round =>
    obtain ⟨i, hi, rfl, HE, HQ⟩ := hrel
    by_cases hlt : i < l.length
    · clear G14 G1 G13 B14 B1 B13 C14 C1 C13
      rcases HA.out with hn | ⟨b, off, rfl, hb, hc⟩
      · rw [hn] at hlt; simp at hlt
      · obtain ⟨c0, c1, _, _⟩ := hc i hlt
        have hbC := HC.out
        have d0 := (HQ.out.cell (p := ⟨b, off + i * 2, none⟩) (by show b < w.heap.size; omega)).trans c0
        have d1 := (HQ.out.cell (p := ⟨b, off + i * 2 + 1, none⟩) (by show b < w.heap.size; omega)).trans c1
        have hE := HE.out.trans (chf_rest l i hlt)
        have vt := fun w' (q : Qw w w') => (HL.out.take i hi).kept (C := w.heap.size) (w' := w') q HC.out
        have VT := Lib.hid vt
        generalize Vs.ltr l i = x at *
        generalize Vs.num l i = y at *
        generalize hpre : l.take i = pre at *
        obtain ⟨rest, hrest⟩ : ∃ rest, rest = Md.chf (l.take (i + 1)) (l.drop (i + 1)) := ⟨_, rfl⟩
        rw [← hrest] at hE
        have HR := Lib.hid hrest
        clear hrest
        have hl1 : (i : Int) < (l.length : Int) := by omega
        have hl2 : (i : Int) ≤ (cap : Int) := by omega
        have hl3 : i ≤ cap := by omega
        have VV := Lib.hid (rxValid y)
        have WW := Lib.hid (rxWhole y)
        have HE1 := Lib.hid hE
        clear hc c0 c1 HE hE vt hbC hpre
        have HK : Hid (Md.cke pre (x, y) = if x < 65 ∨ 90 < x ∨ vld y = false then 1 else if x = 71 ∨ x = 77 then (if Md.isC (x, y) = false ∨ Md.gof (x, y) = 0 then 6 else if Md.hg pre (Md.gof (x, y)) = true then 8 else 0) else if Md.fo pre x = true then 7 else 0) := Lib.hid rfl
        by_cases h1 : x < 65
        · have EE : Hid (Md.chk l = 1) := Lib.hid (HE1.out.trans (by rw [show Md.cke pre (x, y) = 1 from HK.out.trans (if_pos (.inl h1))]; first | rfl | simp))
          go_wp2
          go_ret
          exact ⟨ret_in EE.out.symm, HQ.out⟩
        by_cases h2 : 90 < x
        · have EE : Hid (Md.chk l = 1) := Lib.hid (HE1.out.trans (by rw [show Md.cke pre (x, y) = 1 from HK.out.trans (if_pos (.inr (.inl h2)))]; first | rfl | simp))
          go_wp2
          go_ret
          exact ⟨ret_in EE.out.symm, HQ.out⟩
        cases hv : vld y
        · have EE : Hid (Md.chk l = 1) := Lib.hid (HE1.out.trans (by rw [show Md.cke pre (x, y) = 1 from HK.out.trans (if_pos (.inr (.inr hv)))]; first | rfl | simp))
          rw [hv] at VV
          clear hv
          go_wp2_with (go_at_call 43; ((with_reducible refine (VV.out _).mono ?_); rintro e w' ⟨rfl, rfl⟩))
          go_ret
          exact ⟨ret_in EE.out.symm, HQ.out⟩
        rw [if_neg (by rw [hv]; simp; omega)] at HK
        rw [hv] at VV
        clear hv
        by_cases hx : x = 71 ∨ x = 77
        · rw [if_pos hx] at HK
          have eC := (md_code x y).2
          rw [if_pos hx] at eC
          have zx : Hid (x = 71 ∨ x = 77) := Lib.hid hx
          cases hw : whole y
          · have EE : Hid (Md.chk l = 6) := Lib.hid (HE1.out.trans (by rw [show Md.cke pre (x, y) = 6 from HK.out.trans (if_pos (.inl (eC.trans hw)))]; first | rfl | simp))
            rw [hw] at WW
            clear hw eC
            generalize wholev y = n at *
            rcases hx with rfl | rfl
            all_goals
              go_wp2_with (first | (go_at_call 43; ((with_reducible refine (VV.out _).mono ?_); rintro e w' ⟨rfl, rfl⟩)) | (go_at_call 41; ((with_reducible refine (WW.out _).mono ?_); rintro e w' ⟨rfl, rfl⟩)))
              go_ret
              exact ⟨ret_in EE.out.symm, HQ.out⟩
          · rw [hw] at WW
            have eg : Md.gof (x, y) = Md.grp x (wholev y) := by unfold Md.gof; rw [if_pos (eC.trans hw)]
            simp only [eg, eC.trans hw, Bool.true_eq_false, false_or] at HK
            have GG := Lib.hid (mrGroup x (wholev y))
            have gb := Md.grp_bd x (wholev y)
            clear hw eC eg
            generalize Md.grp x (wholev y) = g at *
            generalize wholev y = n at *
            by_cases hg0 : g = 0
            · have EE : Hid (Md.chk l = 6) := Lib.hid (HE1.out.trans (by rw [show Md.cke pre (x, y) = 6 from HK.out.trans (if_pos hg0)]; first | rfl | simp))
              subst hg0
              rcases hx with rfl | rfl
              all_goals
                go_wp2_with (first | (go_at_call 43; ((with_reducible refine (VV.out _).mono ?_); rintro e w' ⟨rfl, rfl⟩)) | (go_at_call 41; ((with_reducible refine (WW.out _).mono ?_); rintro e w' ⟨rfl, rfl⟩)) | (go_at_call 20; ((with_reducible refine (GG.out _).mono ?_); rintro e w3 ⟨rfl, q⟩; have Q3 := Lib.hid (Qw.trans HQ.out q); clear q)))
                go_ret
                exact ⟨ret_in EE.out.symm, Q3.out⟩
            · rw [if_neg hg0] at HK
              have go_ := fun w' (q : Qw w w') => mrGroupOf (VT.out w' q) (Nat.le_trans HC.out q.size) g hg0
              have bb := Md.gcd_hg pre g hg0
              have bd := Md.gcd_bd pre g hg0
              have zg : (g == 0) = false := beq_eq_false_iff_ne.2 hg0
              have GO := Lib.hid go_
              clear go_ hg0
              generalize Md.hg pre g = hb' at *
              generalize Md.gcd pre g = gv at *
              have HB := Lib.hid bb
              clear bb
              by_cases hgv : 0 ≤ gv
              · have EE : Hid (Md.chk l = 8) := Lib.hid (HE1.out.trans (by rw [show Md.cke pre (x, y) = 8 from HK.out.trans (if_pos (HB.out.symm.trans (decide_eq_true hgv)))]; first | rfl | simp))
                clear HE1 HK
                rcases hx with rfl | rfl
                all_goals
                  go_wp2_with (first | (go_at_call 43; ((with_reducible refine (VV.out _).mono ?_); rintro e w' ⟨rfl, rfl⟩)) | (go_at_call 41; ((with_reducible refine (WW.out _).mono ?_); rintro e w' ⟨rfl, rfl⟩)) | (go_at_call 20; ((with_reducible refine (GG.out _).mono ?_); rintro e w3 ⟨rfl, q⟩; have Q3 := Lib.hid (Qw.trans HQ.out q); clear q)))
                  refine region_kept (by kernel_rfl) (by kernel_rfl) ?_
                  repeat (go_big_quiet_step (first | (go_at_call 20; exact Kept.call (GG.out _)) | (go_at_call 44; exact Kept.call (GO.out _ (Qw.trans Q3.out (Kept.h _))))))
                  refine wpQuiet_nil ?_
                  intro w4 q4
                  have Q4 := Lib.hid (Qw.trans Q3.out q4)
                  clear q4
                  go_wp2
                  go_ret
                  exact ⟨ret_in EE.out.symm, Q4.out⟩
              · have EE : Hid (Md.chk l = rest) := Lib.hid (HE1.out.trans (by rw [show Md.cke pre (x, y) = 0 from HK.out.trans (if_neg (by rw [← HB.out, decide_eq_false hgv]; decide))]; first | rfl | simp))
                clear HE1 HK
                rcases hx with rfl | rfl
                all_goals
                  go_wp2_with (first | (go_at_call 43; ((with_reducible refine (VV.out _).mono ?_); rintro e w' ⟨rfl, rfl⟩)) | (go_at_call 41; ((with_reducible refine (WW.out _).mono ?_); rintro e w' ⟨rfl, rfl⟩)) | (go_at_call 20; ((with_reducible refine (GG.out _).mono ?_); rintro e w3 ⟨rfl, q⟩; have Q3 := Lib.hid (Qw.trans HQ.out q); clear q)))
                  refine region_kept (by kernel_rfl) (by kernel_rfl) ?_
                  repeat (go_big_quiet_step (first | (go_at_call 20; exact Kept.call (GG.out _)) | (go_at_call 44; exact Kept.call (GO.out _ (Qw.trans Q3.out (Kept.h _))))))
                  refine wpQuiet_nil ?_
                  intro w4 q4
                  have Q4 := Lib.hid (Qw.trans Q3.out q4)
                  clear q4
                  go_wp2
                  go_roundw
                  case rel => exact ⟨i + 1, by omega, by go_num, Lib.hid (EE.out.trans HR.out), Q4⟩
                  case measure => simp [intOf]; omega
        · rw [if_neg hx] at HK
          have ff := fun w' (q : Qw w w') => mrFind (VT.out w' q) (Nat.le_trans HC.out q.size) x
          have z1 : (x != 71) = true := by rw [bne_iff_ne]; exact fun h => hx (.inl h)
          have z2 : (x != 77) = true := by rw [bne_iff_ne]; exact fun h => hx (.inr h)
          generalize Md.fv pre x = n at *
          clear hx
          cases hf : Md.fo pre x
          · rw [hf] at ff HK
            have EE : Hid (Md.chk l = rest) := Lib.hid (HE1.out.trans (by rw [show Md.cke pre (x, y) = 0 from HK.out]; first | rfl | simp))
            have FF := Lib.hid ff
            clear ff hf HE1 HK
            go_wp2_with (first | (go_at_call 43; ((with_reducible refine (VV.out _).mono ?_); rintro e w' ⟨rfl, rfl⟩)) | (go_at_call 24; ((with_reducible refine (FF.out _ HQ.out).mono ?_); rintro e w' ⟨rfl, rfl⟩)))
            go_roundw
            case rel => exact ⟨i + 1, by omega, by go_num, Lib.hid (EE.out.trans HR.out), HQ⟩
            case measure => simp [intOf]; omega
          · rw [hf] at ff HK
            have EE : Hid (Md.chk l = 7) := Lib.hid (HE1.out.trans (by rw [show Md.cke pre (x, y) = 7 from HK.out]; first | rfl | simp))
            have FF := Lib.hid ff
            clear ff hf HE1 HK
            go_wp2_with (first | (go_at_call 43; ((with_reducible refine (VV.out _).mono ?_); rintro e w' ⟨rfl, rfl⟩)) | (go_at_call 24; ((with_reducible refine (FF.out _ HQ.out).mono ?_); rintro e w' ⟨rfl, rfl⟩)))
            go_ret
            exact ⟨ret_in EE.out.symm, HQ.out⟩
    · obtain rfl : i = l.length := by omega
      have hE := HE.out.trans (Md.chf_end l)
      unfold Md.cend at hE
      rw [← B14.out, ← B1.out, ← B13.out] at hE
      have k14 := C14.out
      have k1 := C1.out
      have k13 := C13.out
      clear HE hlt B14 B1 B13 C14 C1 C13
      generalize Md.gcd l 14 = x14 at *
      generalize Md.gcd l 1 = x1 at *
      generalize Md.gcd l 13 = x13 at *
      by_cases h14 : 0 ≤ x14
      · by_cases h1 : 0 ≤ x1
        · have EE : Hid (Md.chk l = 8) := Lib.hid (hE.trans (if_pos ⟨decide_eq_true h14, .inl (decide_eq_true h1)⟩))
          clear hE
          go_wp2_with (go_at_call 44; (first | ((with_reducible refine (G14.out _ HQ.out).mono ?_); rintro e w3 ⟨rfl, q⟩; have Q3 := Lib.hid (Qw.trans HQ.out q); clear q) | ((with_reducible refine (G1.out _ Q3.out).mono ?_); rintro e w4 ⟨rfl, q⟩; have Q4 := Lib.hid (Qw.trans Q3.out q); clear q)))
          go_ret
          exact ⟨ret_in EE.out.symm, Q4.out⟩
        · by_cases h13 : 0 ≤ x13
          · have EE : Hid (Md.chk l = 8) := Lib.hid (hE.trans (if_pos ⟨decide_eq_true h14, .inr (decide_eq_true h13)⟩))
            clear hE
            go_wp2_with (go_at_call 44; (first | ((with_reducible refine (G14.out _ HQ.out).mono ?_); rintro e w3 ⟨rfl, q⟩; have Q3 := Lib.hid (Qw.trans HQ.out q); clear q) | ((with_reducible refine (G1.out _ Q3.out).mono ?_); rintro e w4 ⟨rfl, q⟩; have Q4 := Lib.hid (Qw.trans Q3.out q); clear q) | ((with_reducible refine (G13.out _ Q4.out).mono ?_); rintro e w5 ⟨rfl, q⟩; have Q5 := Lib.hid (Qw.trans Q4.out q); clear q)))
            go_ret
            exact ⟨ret_in EE.out.symm, Q5.out⟩
          · have EE : Hid (Md.chk l = 0) := Lib.hid (hE.trans (if_neg (by rw [decide_eq_false h1, decide_eq_false h13]; simp)))
            clear hE
            go_wp2_with (go_at_call 44; (first | ((with_reducible refine (G14.out _ HQ.out).mono ?_); rintro e w3 ⟨rfl, q⟩; have Q3 := Lib.hid (Qw.trans HQ.out q); clear q) | ((with_reducible refine (G1.out _ Q3.out).mono ?_); rintro e w4 ⟨rfl, q⟩; have Q4 := Lib.hid (Qw.trans Q3.out q); clear q) | ((with_reducible refine (G13.out _ Q4.out).mono ?_); rintro e w5 ⟨rfl, q⟩; have Q5 := Lib.hid (Qw.trans Q4.out q); clear q)))
            go_ret
            exact ⟨ret_in EE.out.symm, Q5.out⟩
      · have EE : Hid (Md.chk l = 0) := Lib.hid (hE.trans (if_neg (by rw [decide_eq_false h14]; simp)))
        clear hE
        go_wp2_with (go_at_call 44; ((with_reducible refine (G14.out _ HQ.out).mono ?_); rintro e w3 ⟨rfl, q⟩; have Q3 := Lib.hid (Qw.trans HQ.out q); clear q))
        go_ret
        exact ⟨ret_in EE.out.symm, Q3.out⟩
end Go.Proofs.Ytijakijjeoaikaa
