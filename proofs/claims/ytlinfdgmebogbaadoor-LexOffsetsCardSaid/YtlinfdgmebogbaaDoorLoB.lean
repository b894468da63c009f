
/- The walk of LexOffsets where the tape gives nothing and the text is looked at. -/
import Derived.Test.YtlinfdgmebogbaaDoorLmA
import Derived.Test.YtlinfdgmebogbaaDoorLyB
import Derived.Test.YtlinfdgmebogbaaDoorLxR
import Derived.Test.YtlinfdgmebogbaaDoorQdeep
import Derived.Test.YtlinfdgmebogbaaDoorLoQ
set_option linter.unusedVariables false
set_option linter.unusedSimpArgs false
namespace Go.Proofs.YtlinfdgmebogbaaDoor
open Go.RowKit

set_option maxRecDepth 100000 in
set_option maxHeartbeats 8000000 in
theorem offsets_B (s : ByteArray) (hm : s.size ≤ 9223372036854775807) (v : Value) (zs : List Int) (w : World) (hv : IntsB w.heap.size w v zs) (ht : Tn w) (h2 : s.size ≤ 200) (hl : zs.length ≤ 120) (hr : ¬ 0 < nxt zs 0 3) :
    Calls Tryd.prog 6 #[.string s, v] w fun e w' => e = .returned (.bool true) ∧ Qw w w' := by
  have HV := Lib.hid hv
  have HT := Lib.hid ht
  have QQ := Lib.hid (Qw.refl w)
  clear hv ht
  have d1 : decide ((200 : Int) < (s.size : Int)) = false := decide_eq_false (by omega)
  have d2 : decide (zs.length ≤ 120) = true := decide_eq_true hl
  have nx := fun B w h => nextF B v zs 0 3 (by omega) (by omega) w h
  have nb := nxt_bd zs 0 3 (by omega)
  generalize nxt zs 0 3 = r at *
  have NX := Lib.hid nx
  clear nx
  have dr : decide ((0 : Int) < r) = false := decide_eq_false hr
  go_enter Tryd.func6, Tryd.ntmps6
  go_wp2_with (first | (go_at_call 10; ((with_reducible refine (lightF _ _ _ _ HV.out).mono ?_); rintro e w' ⟨rfl, rfl⟩)) | (go_at_call 13; ((with_reducible refine (newF _ _ _ (HV.out.now QQ.out)).mono ?_); rintro e w1 ⟨rfl, hT, q⟩; have TP := Lib.hid hT; have QN := Lib.hid q; clear hT q)) | (go_at_call 22; ((with_reducible refine (NX.out _ _ TP.out).mono ?_); rintro e w2 ⟨rfl, _, q⟩; replace q := new_line QN.out q; replace QQ := Lib.hid (QQ.out.trans q); clear q)))
  have ca := lxTokens s (by omega)
  have sl := size_len s
  rcases lx_cases s.data.toList with ⟨ts, hx⟩ | ⟨x, hx⟩
  · obtain ⟨x1, x2, x3⟩ := res_ok hx
    rw [x3, x1, x2, sl] at ca
    obtain ⟨ln, of⟩ := Lx.offs s.data.toList ts 0 (Nat.zero_le _) hx
    rw [sl] at ln
    have OF := Lib.hid of
    have SL := Lib.hid sl
    have CA := Lib.hid ca
    clear ca x1 x2 x3 of sl hx
    go_wp2_with (first | (go_at_call 14; ((with_reducible refine (CA.out _ (HT.out.kept QQ.out)).mono ?_); rintro e w3 ⟨⟨va, rfl, h⟩, q⟩; obtain ⟨aa, ca, rfl, la, ma, h⟩ := toks_form h; have HA := Lib.hid h; clear h; replace QQ := Lib.hid (QQ.out.trans q); clear q)))
    go_loopw [8, 9] (fun av iv wr => ∃ (i : Nat) (q : Int), i ≤ ts.length ∧ -1 ≤ q ∧ (∀ h : i < ts.length, q < (ts[i].p : Int)) ∧ av = .int .i64 q ∧ iv = .int .i64 (i : Int) ∧ ToksB wr.heap.size wr (.slice aa ts.length ca) ts ∧ Qw w wr) (fun _ iv _ => ts.length - (intOf iv).toNat)
    case atStart => exact ⟨0, -1, by omega, by omega, fun h => by omega, rfl, rfl, HA.out, QQ.out⟩
    case round =>
      obtain ⟨i, q, hi, q1, hq, rfl, rfl, hA, hQ⟩ := hrel
      replace HA := Lib.hid hA
      replace QQ := Lib.hid hQ
      clear hA hQ
      by_cases hlt : i < ts.length
      · replace hq := hq hlt
        obtain ⟨a', cap', ee, l1, l2, h3⟩ := HA.out
        injection ee with e1 e2 e3
        subst e1 e3
        rcases h3 with h | ⟨bb, off, rfl, hb2, hc⟩
        · rw [h] at hlt; simp at hlt
        · obtain ⟨c0, c1, c2, c3⟩ := hc i hlt
          obtain ⟨_, hco, hn⟩ := OF.out i hlt
          obtain ⟨hp, hpl, hmz, ht⟩ := hco
          have hpS := hp
          rw [SL.out] at hpS
          have dl : s.data.toList.drop ts[i].p = s[ts[i].p] :: s.data.toList.drop (ts[i].p + 1) := List.drop_eq_getElem_cons hp
          rw [dl] at hmz
          have kinds := Lx.fst_kinds _ _ hmz
          rw [← dl] at kinds
          have hk0 := congrArg Lx.Tok.k ht
          have hn0 := congrArg Lx.Tok.n ht
          have hx0 := congrArg Lx.Tok.x ht
          have LT := Lib.hid (fun h : i + 1 < ts.length => (by have := hn h; omega : (ts[i].p : Int) < (ts[i + 1].p : Int)))
          have DL := Lib.hid dl
          clear hc hn ht hmz dl hpl hp
          simp only at hk0 hn0 hx0
          generalize ts[i].p = p at *
          generalize ts[i].k = tk at *
          generalize ts[i].n = tn at *
          generalize ts[i].x = tx at *
          have k' : (i : Int) < (ts.length : Int) := by omega
          have hp' : (p : Int) < (s.size : Int) := by omega
          rcases kinds with ⟨kc, n, m, ke, n0, n1⟩ | ⟨kc, ke⟩ | ⟨x, xm, ke, xt, xl⟩ | ⟨kc, ke⟩
          · rw [ke] at hk0 hn0 hx0
            simp only at hk0 hn0 hx0
            subst hk0 hn0 hx0
            rw [isn_chI] at kc
            replace c3 : wr.cell? ⟨bb, off + i * 4 + 3, none⟩ = some (.string ⟨#[]⟩) := c3
            clear ke DL
            by_cases h46 : (s[p].toNat : Int) = 46
            · have b46 : ((s[p].toNat : Int) == 46) = true := by rw [h46]; rfl
              clear kc
              go_wp2
              go_roundw
              case rel => exact ⟨i + 1, (p : Int), by omega, by omega, fun h => LT.out h, rfl, by go_num, HA.out.next (qalloc0 wr _), QQ.out.trans (qalloc0 wr _)⟩
              case measure => simp [intOf]; omega
            · have b46 : ((s[p].toNat : Int) == 46) = false := beq_eq_false_iff_ne.2 h46
              have hd : 48 ≤ (s[p].toNat : Int) ∧ (s[p].toNat : Int) ≤ 57 := by
                unfold chI at kc
                rw [b46, Bool.or_false] at kc
                exact of_decide_eq_true kc
              obtain ⟨hd1, hd2⟩ := hd
              clear kc h46
              go_wp2
              go_roundw
              case rel => exact ⟨i + 1, (p : Int), by omega, by omega, fun h => LT.out h, rfl, by go_num, HA.out.next (qalloc0 wr _), QQ.out.trans (qalloc0 wr _)⟩
              case measure => simp [intOf]; omega
          · rw [ke] at hk0 hn0 hx0
            simp only at hk0 hn0 hx0
            subst hk0 hn0 hx0
            obtain ⟨hu1, hu2⟩ : (65 : Int) ≤ (s[p].toNat : Int) ∧ (s[p].toNat : Int) ≤ 90 := of_decide_eq_true kc
            have hu3 : decide ((s[p].toNat : Int) < 65) = false := decide_eq_false (by omega)
            have hu4 : decide ((90 : Int) < (s[p].toNat : Int)) = false := decide_eq_false (by omega)
            have hu5 : decide (90 < s[p].toNat) = false := decide_eq_false (by omega)
            have hu6 : decide (s[p].toNat < 65) = false := decide_eq_false (by omega)
            replace c3 : wr.cell? ⟨bb, off + i * 4 + 3, none⟩ = some (.string ⟨#[]⟩) := c3
            clear ke kc DL
            go_wp2
            refine region_deep (by kernel_rfl) (by as_aux_lemma => kernel_rfl) ?_
            repeat (go_big_quiet_step (fail))
            refine wpQuiet_nil ?_
            intro _ hw'
            obtain ⟨nq, hw''⟩ := hw'
            subst hw''
            go_wp2
            go_roundw
            case rel => exact ⟨i + 1, (p : Int), by omega, by omega, fun h => LT.out h, rfl, by go_num, HA.out.next (qalloc2 wr _ _), QQ.out.trans (qalloc2 wr _ _)⟩
            case measure => simp [intOf]; omega
          · rw [ke] at hk0 hn0 hx0
            simp only at hk0 hn0 hx0
            subst hk0 hn0 hx0
            have NMI : isnm tx = true := Lx.isnm_mem xm
            have xe : s.extract p (p + (bs tx).size) = bs tx := by
              apply ByteArray.ext; apply Array.toList_inj.1
              rw [Lib.extract_data, bs_list, bs_size, Nat.add_sub_cancel_left]; exact xt
            rw [List.length_drop, SL.out, ← bs_size] at xl
            have nm := fun w ht => lxName (bs tx) w ht
            rw [bs_list, NMI] at nm
            have bq := beq_txt (s.extract p (p + (bs tx).size)) (bs tx)
            rw [xe, decide_eq_true rfl] at bq
            have XE := Lib.hid xe
            have NM := Lib.hid nm
            have e1 : IntKind.i64.wrap ((s.size : Int) - (p : Int)) = (s.size : Int) - (p : Int) := IntWalk.i64_in _ (by omega)
            have e2 : IntKind.i64.wrap ((p : Int) + ((bs tx).size : Int)) = (p : Int) + ((bs tx).size : Int) := IntWalk.i64_in _ (by omega)
            have z0 : (0 : Int) ≤ (p : Int) := by omega
            have z1 : (p : Int) ≤ (p : Int) + ((bs tx).size : Int) := by omega
            have z2 : (p : Int) + ((bs tx).size : Int) ≤ (s.size : Int) := by omega
            have z3 : decide ((s.size : Int) - (p : Int) < ((bs tx).size : Int)) = false := decide_eq_false (by omega)
            clear nm ke
            generalize bs tx = X at *
            go_wp2
            refine region_deep (by kernel_rfl) (by as_aux_lemma => kernel_rfl) ?_
            repeat (go_big_quiet_step ((go_at_call 18; exact Calls.quiet_of_same ((NM.out _ (HT.out.kept ((qalloc1 QQ.out _).trans (Qw.drewN _ _)))).mono fun _ _ ⟨h1, h2⟩ => ⟨h1, h2.symm⟩))))
            refine wpQuiet_nil ?_
            intro _ hw'
            obtain ⟨nq, hw''⟩ := hw'
            subst hw''
            go_wp2
            go_roundw
            case rel => exact ⟨i + 1, (p : Int), by omega, by omega, fun h => LT.out h, rfl, by go_num, HA.out.next (qalloc2 wr _ _), QQ.out.trans (qalloc2 wr _ _)⟩
            case measure => simp [intOf]; omega
          · rw [ke] at hk0 hn0 hx0
            simp only at hk0 hn0 hx0
            subst hk0 hn0 hx0
            have xe : s.extract p (p + (bs [s[p]]).size) = bs [s[p]] := by
              apply ByteArray.ext; apply Array.toList_inj.1
              rw [Lib.extract_data, bs_list, bs_size, Nat.add_sub_cancel_left, DL.out]; rfl
            have xl : (bs [s[p]]).size ≤ s.size - p := by rw [bs_size]; show 1 ≤ _; omega
            have nm := fun w ht => lxName (bs [s[p]]) w ht
            rw [bs_list, Lx.isnm_one] at nm
            clear DL kc
            generalize [s[p]] = tx at *
            have bq := beq_txt (s.extract p (p + (bs tx).size)) (bs tx)
            rw [xe, decide_eq_true rfl] at bq
            have XE := Lib.hid xe
            have NM := Lib.hid nm
            have e1 : IntKind.i64.wrap ((s.size : Int) - (p : Int)) = (s.size : Int) - (p : Int) := IntWalk.i64_in _ (by omega)
            have e2 : IntKind.i64.wrap ((p : Int) + ((bs tx).size : Int)) = (p : Int) + ((bs tx).size : Int) := IntWalk.i64_in _ (by omega)
            have z0 : (0 : Int) ≤ (p : Int) := by omega
            have z1 : (p : Int) ≤ (p : Int) + ((bs tx).size : Int) := by omega
            have z2 : (p : Int) + ((bs tx).size : Int) ≤ (s.size : Int) := by omega
            have z3 : decide ((s.size : Int) - (p : Int) < ((bs tx).size : Int)) = false := decide_eq_false (by omega)
            clear nm ke
            generalize bs tx = X at *
            go_wp2
            refine region_deep (by kernel_rfl) (by as_aux_lemma => kernel_rfl) ?_
            repeat (go_big_quiet_step ((go_at_call 18; exact Calls.quiet_of_same ((NM.out _ (HT.out.kept ((qalloc1 QQ.out _).trans (Qw.drewN _ _)))).mono fun _ _ ⟨h1, h2⟩ => ⟨h1, h2.symm⟩))))
            refine wpQuiet_nil ?_
            intro _ hw'
            obtain ⟨nq, hw''⟩ := hw'
            subst hw''
            go_wp2
            go_roundw
            case rel => exact ⟨i + 1, (p : Int), by omega, by omega, fun h => LT.out h, rfl, by go_num, HA.out.next (qalloc2 wr _ _), QQ.out.trans (qalloc2 wr _ _)⟩
            case measure => simp [intOf]; omega
      · obtain rfl : i = ts.length := by omega
        go_wp2_with (first | (go_at_call 11; ((with_reducible refine (awakeL _ (HT.out.kept QQ.out)).mono ?_); rintro e w9 ⟨rfl, q⟩; replace QQ := Lib.hid (QQ.out.trans q); clear q)))
        go_ret
        exact ⟨rfl, QQ.out⟩
  · obtain ⟨x1, x2, x3⟩ := res_bad hx
    have xb := Lx.lx_bad_lt hx
    rw [sl, Nat.zero_add] at xb
    rw [x3, x2, x1] at ca
    have CA := Lib.hid ca
    clear ca hx x1 x2 x3
    go_wp2_with (first | (go_at_call 14; ((with_reducible refine (CA.out _ (HT.out.kept QQ.out)).mono ?_); rintro e w3 ⟨⟨va, rfl, h⟩, q⟩; obtain ⟨ac, cc, rfl, _, _, _⟩ := toks_form h; clear h; replace QQ := Lib.hid (QQ.out.trans q); clear q)) | (go_at_call 11; ((with_reducible refine (awakeL _ (HT.out.kept QQ.out)).mono ?_); rintro e w9 ⟨rfl, q⟩; replace QQ := Lib.hid (QQ.out.trans q); clear q)))
    go_ret
    exact ⟨rfl, QQ.out⟩

end Go.Proofs.YtlinfdgmebogbaaDoor
