
/- VarsCopies: a copy and its original do not depend on each other.
   Conditions: the listed tables lie as the program's own text lays them (the card ties them); every input. -/
import Derived.Test.YtmfhiabajkdikaaDoorFrameA
import Derived.Test.YtmfhiabajkdikaaDoorVlF
set_option linter.unusedVariables false
set_option linter.unusedSimpArgs false
namespace Go.Proofs.YtmfhiabajkdikaaDoor
open Go.ChangeShapes Go.WideShapes Go.ChangeAt Go.RowKit

set_option maxRecDepth 100000 in
set_option maxHeartbeats 4000000 in
theorem walk_varsCopies (v0 : Value) (l : List Vs.A) (v1 : Value) (one : List Vs.A) (v2 : Value) (two : List Vs.A) (w : World) (hl0 : ActsB w.heap.size w v0 l) (hl1 : ActsB w.heap.size w v1 one) (hl2 : ActsB w.heap.size w v2 two) (hT : Tl w) :
    Calls Tryd.prog 6 #[v0, v1, v2] w fun e w' => e = .returned (.bool true) ∧ Below w.heap.size w w' := by
  have HT := Lib.hid hT
  obtain ⟨a0, cap0, rfl, l63⟩ := acts_shape hl0
  obtain ⟨a1, cap1, rfl, o63⟩ := acts_shape hl1
  obtain ⟨a2, cap2, rfl, t63⟩ := acts_shape hl2
  have HA0 := Lib.hid hl0
  have HA1 := Lib.hid hl1
  have HA2 := Lib.hid hl2
  have FE0 := Lib.hid (vlFew hl0)
  have FE1 := Lib.hid (vlFew hl1)
  have FE2 := Lib.hid (vlFew hl2)
  have AW := Lib.hid (fun w' (q : Qw w w') => awakeV w' (hT.kept q))
  clear hl0 hl1 hl2 hT
  cases hf0 : Vs.few l with
  | false =>
    rw [hf0] at FE0
    clear hf0
    go_enter Tryd.func6, Tryd.ntmps6
    go_wp2_with (first | (go_at_call 9; ((with_reducible refine (FE0.out).mono ?_); rintro e we ⟨rfl, rfl⟩)) | (go_at_call 10; ((with_reducible refine (AW.out _ (Qw.refl _)).mono ?_); rintro e w2 ⟨rfl, q⟩; have Q := Lib.hid q; clear q)))
    go_ret
    exact ⟨rfl, Q.out⟩
  | true =>
  cases hf1 : Vs.few one with
  | false =>
    rw [hf0] at FE0
    rw [hf1] at FE1
    clear hf0 hf1
    go_enter Tryd.func6, Tryd.ntmps6
    go_wp2_with (first | (go_at_call 9; ((with_reducible refine (FE0.out).mono ?_); rintro e we ⟨rfl, rfl⟩)) | (go_at_call 9; ((with_reducible refine (FE1.out).mono ?_); rintro e we ⟨rfl, rfl⟩)) | (go_at_call 10; ((with_reducible refine (AW.out _ (Qw.refl _)).mono ?_); rintro e w2 ⟨rfl, q⟩; have Q := Lib.hid q; clear q)))
    go_ret
    exact ⟨rfl, Q.out⟩
  | true =>
  cases hf2 : Vs.few two with
  | false =>
    rw [hf0] at FE0
    rw [hf1] at FE1
    rw [hf2] at FE2
    clear hf0 hf1 hf2
    go_enter Tryd.func6, Tryd.ntmps6
    go_wp2_with (first | (go_at_call 9; ((with_reducible refine (FE0.out).mono ?_); rintro e we ⟨rfl, rfl⟩)) | (go_at_call 9; ((with_reducible refine (FE1.out).mono ?_); rintro e we ⟨rfl, rfl⟩)) | (go_at_call 9; ((with_reducible refine (FE2.out).mono ?_); rintro e we ⟨rfl, rfl⟩)) | (go_at_call 10; ((with_reducible refine (AW.out _ (Qw.refl _)).mono ?_); rintro e w2 ⟨rfl, q⟩; have Q := Lib.hid q; clear q)))
    go_ret
    exact ⟨rfl, Q.out⟩
  | true =>
    rw [hf0] at FE0
    rw [hf1] at FE1
    rw [hf2] at FE2
    clear hf0 hf1 hf2
    go_enter Tryd.func6, Tryd.ntmps6
    go_wp2_with (first
      | (go_at_call 9; ((with_reducible refine (FE0.out).mono ?_); rintro e we ⟨rfl, rfl⟩)) | (go_at_call 9; ((with_reducible refine (FE1.out).mono ?_); rintro e we ⟨rfl, rfl⟩)) | (go_at_call 9; ((with_reducible refine (FE2.out).mono ?_); rintro e we ⟨rfl, rfl⟩))
      | (go_at_call 11; ((with_reducible refine (vaNew _).mono ?_); rintro e w1 ⟨B, L, c, rfl, p1, hB, hL, q1⟩; have NP := Lib.hid p1; have NB := Lib.hid hB; have NL := Lib.hid hL; have NQ := Lib.hid q1; clear p1 hB hL q1))
      | (go_at_call 12; ((with_reducible refine (vrNew _).mono ?_); rintro e w2 ⟨B', L', c', rfl, p2, hB', hL', q2⟩; have P := Lib.hid (Pr.start NP.out NB.out NL.out NQ.out p2 hB' hL' q2); clear p2 hB' hL' q2))
      | (go_at_call 10; ((with_reducible refine (AW.out _ P.out.q).mono ?_); rintro e w3 ⟨rfl, q⟩; have P3 := Lib.hid (P.out.kept q); clear q)))
    go_loopw [9] (fun iv wr => ∃ (i L c L' c' : Nat) (s : Vs.St), i ≤ l.length ∧ iv = .int .i64 (i : Int) ∧ Hid (Pr w wr B L c B' L' c' s s)) (fun iv _ => l.length - (intOf iv).toNat)
    case atStart => exact ⟨0, L, c, L', c', Vs.new, by omega, rfl, P3⟩
    case round =>
      clear NP NB NL NQ P P3 FE0 FE1 FE2 AW
      obtain ⟨i, L, c, L', c', s, hi, rfl, P⟩ := hrel
      by_cases hlt0 : i < l.length
      · have hlt' : (i : Int) < (l.length : Int) := by omega
        have hi63 : (i : Int) ≤ 9223372036854775806 := by omega
        obtain ⟨b0, off0, sv0, rfl, ⟨c00, c01, c02, c03, c04⟩, hu⟩ := acts_at HA0.out (Nat.le_refl _) P.out.q hlt0
        have ST0 := Lib.hid (vlStep P.out hu (Nat.le_refl _) HT.out)
        clear hu
        generalize l[i] = ac at c00 c01 c02 c03 c04 ST0
        obtain ⟨x0, x0n, x0v, x0b, x0a⟩ := ac
        simp only at c00 c01 c02 c03 c04 ST0
        by_cases h5 : x0 = 5
        · subst h5
          go_wp2
          go_roundw
          case rel => exact ⟨i + 1, L, c, L', c', _, by omega, by go_num, P⟩
          case measure => simp [intOf]; omega
        · have h5f : (x0 == 5) = false := beq_eq_false_iff_ne.2 h5
          have H5 := Lib.hid h5
          clear h5
          go_wp2_with ((go_at_call 14; ((with_reducible refine (ST0.out).mono ?_); rintro e w3 ⟨B1, L1, c1', L2, c2', bb, rfl, hb, hP, hn, hn2, hTf⟩; obtain ⟨rfl, hnn⟩ : B1 = B ∧ (L1 = L ∨ wr.heap.size ≤ L1) := hn.resolve_right (fun k => H5.out k.1); have P5 := Lib.hid hP; clear hP hn hn2 hTf hb hnn)))
          go_roundw
          case rel => exact ⟨i + 1, L1, c1', L2, c2', _, by omega, by go_num, P5⟩
          case measure => simp [intOf]; omega
      · obtain rfl : i = l.length := by omega
        go_wp2_with (first
          | (go_at_call 24; ((with_reducible refine (vaCopy P.out.p).mono ?_); rintro e w2 ⟨C, K, k, rfl, p2, hC, hK, q2⟩; have CP := Lib.hid p2; have CC := Lib.hid hC; have CK := Lib.hid hK; have CQ := Lib.hid q2; clear p2 hC hK q2))
          | (go_at_call 25; ((with_reducible refine (vrCopy (P.out.r.kept CQ.out)).mono ?_); rintro e w3 ⟨C', K', k', rfl, p3, hC', hK', q3⟩; have R := Lib.hid (Pr.start CP.out (Nat.le_trans P.out.q.size CC.out) (Nat.le_trans P.out.q.size CK.out) (P.out.q.trans CQ.out) p3 hC' hK' q3); have P3 := Lib.hid (P.out.kept (CQ.out.trans q3)); have DD := Lib.hid (apart_new P.out CC.out CK.out (Nat.le_trans CQ.out.size hC') (Nat.le_trans CQ.out.size hK')); clear p3 hC' hK' q3)))
        go_loopw [12] (fun iv wq => ∃ (i L c L' c' K k K' k' : Nat) (s t : Vs.St), i ≤ max one.length two.length ∧ iv = .int .i64 (i : Int) ∧ Hid (Pr w wq B L c B' L' c' s s) ∧ Hid (Pr w wq C K k C' K' k' t t) ∧ Hid (Apart B L B' L' C K C' K')) (fun iv _ => max one.length two.length - (intOf iv).toNat)
        case atStart => exact ⟨0, L, c, L', c', K, k, K', k', s, s, by omega, rfl, P3, R, DD⟩
        case round =>
          clear CP CC CK CQ P P3 R DD hlt0 hi
          obtain ⟨i, L, c, L', c', K, k, K', k', s, t, hi, rfl, P, R, DD⟩ := hrel
          by_cases hlt1 : i < one.length
          · have hlt1' : (i : Int) < (one.length : Int) := by omega
            have hi63 : (i : Int) ≤ 9223372036854775806 := by omega
            obtain ⟨b1, off1, sv1, rfl, ⟨c10, c11, c12, c13, c14⟩, hu⟩ := acts_at HA1.out (Nat.le_refl _) P.out.q hlt1
            have ST1 := Lib.hid (vlStep P.out hu (Nat.le_refl _) HT.out)
            clear hu
            generalize one[i] = ac at c10 c11 c12 c13 c14 ST1
            obtain ⟨x1, x1n, x1v, x1b, x1a⟩ := ac
            simp only at c10 c11 c12 c13 c14 ST1
            by_cases h5 : x1 = 5
            · subst h5
              by_cases hlt2 : i < two.length
              · have hlt2' : (i : Int) < (two.length : Int) := by omega
                obtain ⟨b2, off2, sv2, rfl, ⟨c20, c21, c22, c23, c24⟩, hu⟩ := acts_at HA2.out (Nat.le_refl _) R.out.q hlt2
                have ST2 := Lib.hid (vlStep R.out hu (Nat.le_refl _) HT.out)
                clear hu
                generalize two[i] = ac at c20 c21 c22 c23 c24 ST2
                obtain ⟨x2, x2n, x2v, x2b, x2a⟩ := ac
                simp only at c20 c21 c22 c23 c24 ST2
                by_cases h52 : x2 = 5
                · subst h52
                  go_wp2
                  go_roundw
                  case rel => exact ⟨i + 1, L, c, L', c', K, k, K', k', s, t, by omega, by go_num, P, R, DD⟩
                  case measure => simp [intOf]; omega
                · have h52f : (x2 == 5) = false := beq_eq_false_iff_ne.2 h52
                  have H52 := Lib.hid h52
                  clear h52
                  go_wp2_with ((go_at_call 14; ((with_reducible refine (ST2.out).mono ?_); rintro e w6 ⟨C1, K1, k1', K2, k2', bb, rfl, hb, hP, hn, hn2, hTf⟩; obtain rfl : bb = true := hb (by trivial); obtain ⟨rfl, hnn⟩ := hn.resolve_right (fun k => H52.out k.1); have hO := P.out.other hTf DD.out.symm hnn hn2 R.out.mine; have R7 := Lib.hid hP; have P7 := Lib.hid hO.1; have D7 := Lib.hid hO.2.symm; clear hP hn hn2 hTf hb hnn hO)))
                  go_roundw
                  case rel => exact ⟨i + 1, L, c, L', c', K1, k1', K2, k2', s, _, by omega, by go_num, P7, R7, D7⟩
                  case measure => simp [intOf]; omega
              · have hge2 : (two.length : Int) ≤ i := by omega
                go_wp2
                go_roundw
                case rel => exact ⟨i + 1, L, c, L', c', K, k, K', k', s, t, by omega, by go_num, P, R, DD⟩
                case measure => simp [intOf]; omega
            · have h5f : (x1 == 5) = false := beq_eq_false_iff_ne.2 h5
              have H5 := Lib.hid h5
              clear h5
              by_cases hlt2 : i < two.length
              · have hlt2' : (i : Int) < (two.length : Int) := by omega
                have HLT2 := Lib.hid hlt2
                obtain ⟨y2, hy2⟩ : ∃ y2, (two[i]'hlt2).what = y2 := ⟨_, rfl⟩
                by_cases h52 : y2 = 5
                · subst h52
                  have HY := Lib.hid hy2
                  clear hy2
                  go_wp2_with ((go_at_call 14; ((with_reducible refine (ST1.out).mono ?_); rintro e w3 ⟨B1, L1, c1', L2, c2', bb, rfl, hb, hP, hn, hn2, hTf⟩; obtain rfl : bb = true := hb (by trivial); obtain ⟨rfl, hnn⟩ := hn.resolve_right (fun k => H5.out k.1); have hO := R.out.other hTf DD.out hnn hn2 P.out.mine; have P5 := Lib.hid hP; have R5 := Lib.hid hO.1; have D5 := Lib.hid hO.2; clear hP hn hn2 hTf hb hnn hO ; have hE := acts_what HA2.out (Nat.le_refl _) P5.out.q HLT2.out; rw [HY.out] at hE; obtain ⟨b2, off2, rfl, d0⟩ := hE)))
                  go_roundw
                  case rel => exact ⟨i + 1, L1, c1', L2, c2', K, k, K', k', _, t, by omega, by go_num, P5, R5, D5⟩
                  case measure => simp [intOf]; omega
                · have h52f : (y2 == 5) = false := beq_eq_false_iff_ne.2 h52
                  have H52 := Lib.hid h52
                  have HY := Lib.hid hy2
                  clear h52 hy2
                  go_wp2_with (first
                    | (go_at_call 14; ((with_reducible refine (ST1.out).mono ?_); rintro e w3 ⟨B1, L1, c1', L2, c2', bb, rfl, hb, hP, hn, hn2, hTf⟩; obtain rfl : bb = true := hb (by trivial); obtain ⟨rfl, hnn⟩ := hn.resolve_right (fun k => H5.out k.1); have hO := R.out.other hTf DD.out hnn hn2 P.out.mine; have P5 := Lib.hid hP; have R5 := Lib.hid hO.1; have D5 := Lib.hid hO.2; clear hP hn hn2 hTf hb hnn hO ; obtain ⟨b2, off2, sv2, rfl, ⟨d0, d1, d2, d3, d4⟩, hu⟩ := acts_at HA2.out (Nat.le_refl _) P5.out.q HLT2.out; have ST2 := Lib.hid (vlStep R5.out hu (Nat.le_refl _) HT.out); clear hu; rw [HY.out] at d0 ST2))
                    | (go_at_call 14; ((with_reducible refine (ST2.out).mono ?_); rintro e w6 ⟨C1, K1, k1', K2, k2', bb, rfl, hb, hP, hn, hn2, hTf⟩; obtain rfl : bb = true := hb (by trivial); obtain ⟨rfl, hnn⟩ := hn.resolve_right (fun k => H52.out k.1); have hO := P5.out.other hTf D5.out.symm hnn hn2 R5.out.mine; have R7 := Lib.hid hP; have P7 := Lib.hid hO.1; have D7 := Lib.hid hO.2.symm; clear hP hn hn2 hTf hb hnn hO)))
                  go_roundw
                  case rel => exact ⟨i + 1, L1, c1', L2, c2', K1, k1', K2, k2', _, _, by omega, by go_num, P7, R7, D7⟩
                  case measure => simp [intOf]; omega
              · have hge2 : (two.length : Int) ≤ i := by omega
                go_wp2_with ((go_at_call 14; ((with_reducible refine (ST1.out).mono ?_); rintro e w3 ⟨B1, L1, c1', L2, c2', bb, rfl, hb, hP, hn, hn2, hTf⟩; obtain rfl : bb = true := hb (by trivial); obtain ⟨rfl, hnn⟩ := hn.resolve_right (fun k => H5.out k.1); have hO := R.out.other hTf DD.out hnn hn2 P.out.mine; have P5 := Lib.hid hP; have R5 := Lib.hid hO.1; have D5 := Lib.hid hO.2; clear hP hn hn2 hTf hb hnn hO)))
                go_roundw
                case rel => exact ⟨i + 1, L1, c1', L2, c2', K, k, K', k', _, t, by omega, by go_num, P5, R5, D5⟩
                case measure => simp [intOf]; omega
          · by_cases hlt2 : i < two.length
            · have hge1 : (one.length : Int) ≤ i := by omega
              have hlt2' : (i : Int) < (two.length : Int) := by omega
              have hi63 : (i : Int) ≤ 9223372036854775806 := by omega
              obtain ⟨b2, off2, sv2, rfl, ⟨c20, c21, c22, c23, c24⟩, hu⟩ := acts_at HA2.out (Nat.le_refl _) R.out.q hlt2
              have ST2 := Lib.hid (vlStep R.out hu (Nat.le_refl _) HT.out)
              clear hu
              generalize two[i] = ac at c20 c21 c22 c23 c24 ST2
              obtain ⟨x2, x2n, x2v, x2b, x2a⟩ := ac
              simp only at c20 c21 c22 c23 c24 ST2
              by_cases h52 : x2 = 5
              · subst h52
                go_wp2
                go_roundw
                case rel => exact ⟨i + 1, L, c, L', c', K, k, K', k', s, t, by omega, by go_num, P, R, DD⟩
                case measure => simp [intOf]; omega
              · have h52f : (x2 == 5) = false := beq_eq_false_iff_ne.2 h52
                have H52 := Lib.hid h52
                clear h52
                go_wp2_with ((go_at_call 14; ((with_reducible refine (ST2.out).mono ?_); rintro e w6 ⟨C1, K1, k1', K2, k2', bb, rfl, hb, hP, hn, hn2, hTf⟩; obtain rfl : bb = true := hb (by trivial); obtain ⟨rfl, hnn⟩ := hn.resolve_right (fun k => H52.out k.1); have hO := P.out.other hTf DD.out.symm hnn hn2 R.out.mine; have R7 := Lib.hid hP; have P7 := Lib.hid hO.1; have D7 := Lib.hid hO.2.symm; clear hP hn hn2 hTf hb hnn hO)))
                go_roundw
                case rel => exact ⟨i + 1, L, c, L', c', K1, k1', K2, k2', s, _, by omega, by go_num, P7, R7, D7⟩
                case measure => simp [intOf]; omega
            · have hge1 : (one.length : Int) ≤ i := by omega
              have hge2 : (two.length : Int) ≤ i := by omega
              have hm : i = max one.length two.length := by omega
              clear hm hlt1 hlt2 hi
              go_wp2_with (first
                | (go_at_call 13; ((with_reducible refine (vlSame P.out.p P.out.r).mono ?_); rintro e w4 ⟨rfl, q⟩; have P4 := Lib.hid (P.out.kept q); have R4 := Lib.hid (R.out.kept q); clear q))
                | (go_at_call 13; ((with_reducible refine (vlSame R4.out.p R4.out.r).mono ?_); rintro e w5 ⟨rfl, q⟩; have P5 := Lib.hid (P4.out.kept q); clear q)))
              go_ret
              exact ⟨rfl, P5.out.q⟩

/-! ### the row and the card -/
theorem reads_varsCopies (os : Os) {H : Type} (enc : TypeId × Value → H) : ∃ places, DataW.whole enc Tryd.prog ((laidWorldW os).forCall (fun _ _ => 0) ⟨#[], #[.slice none 0 0, .slice none 0 0, .slice none 0 0], []⟩).memory Tryd.f6.params.toList Rows.varsCopiesSpec.vars false #[(.slice none 0 0 : Value), .slice none 0 0, .slice none 0 0].toList 8 = some ([.nil, .nil, .nil], [], places) :=
  ⟨[], by kernel_rfl⟩
set_option maxRecDepth 100000 in
theorem lifted_varsCopies (os : Os) (started : os.Started) (H : Type) (enc : TypeId × Value → H) (F : Stop.Interp) :
    ReturnsInHanded {} Tryd.checked os 6 .any ((OpenSpec.ofChange Rows.varsCopiesSpec).preRow enc Tryd.prog Tryd.f6 Rows.varsCopiesRow.domain false Rows.varsCopiesRow.laid) (((OpenSpec.ofChange Rows.varsCopiesSpec).at F).post enc Tryd.prog Tryd.f6 false true false false) := by
  obtain ⟨places, hx⟩ := reads_varsCopies os enc
  refine returnsInHanded_of_row (C := Tryd.checked) (s := OpenSpec.ofChange Rows.varsCopiesSpec) ownW started (by kernel_rfl) Tryd.func6
    (witness_row_at (enc := enc) (C := Tryd.checked) false (laidWorldW os) #[.slice none 0 0, .slice none 0 0, .slice none 0 0] rfl (by kernel_rfl) (by kernel_rfl) (by kernel_rfl)
      (OpenSpec.preRow_of_cond 8 hx (by kernel_rfl) (fun k hk => by cases hk) (by kernel_rfl) (laid_metW os _))) ?_
  intro W base args ds gs before hval0 hW _ _ _ hL _ _
  have ht : Tl W := tableW hL
  have hval : ∀ (j : Nat) t v, Tryd.f6.params[j]? = some t → args[j]? = some v → Value.okWide Tryd.prog W .any base t v := hval0
  have hW' := hW
  obtain ⟨p, q, hA0, hV, rfl, hfz, hnd⟩ := hW
  have hA : DataW.TrodAll enc Tryd.prog W 0 (fun _ => true) true Tryd.f6.params.toList args.toList ds p := hA0
  rw [Tryd.params6] at hA hval
  obtain ⟨v0, vs0, d0, ds0, p0, q0, hargs, rfl, rfl, h0, r0⟩ := trodAll_cons hA
  obtain ⟨v1, vs1, d1, ds1, p1, q1, rfl, rfl, rfl, h1, r1⟩ := trodAll_cons r0
  obtain ⟨v2, vs2, d2, ds2, p2, q2, rfl, rfl, rfl, h2, r2⟩ := trodAll_cons r1
  obtain ⟨rfl, rfl, rfl⟩ := trodAll_nil r2
  obtain rfl : args = #[v0, v1, v2] := by cases args; simp_all
  obtain ⟨rfl, rfl⟩ := trodVars_none hV
  obtain ⟨u0, hu0⟩ := in_acts (hval 0 22 v0 rfl rfl) h0
  obtain ⟨u1, hu1⟩ := in_acts (hval 1 22 v1 rfl rfl) h1
  obtain ⟨u2, hu2⟩ := in_acts (hval 2 22 v2 rfl rfl) h2
  clear hA0 hval0 hL
  simp only [List.append_nil] at hW'
  refine (walk_varsCopies v0 u0 v1 u1 v2 u2 W hu0 hu1 hu2 ht).mono fun e W' ⟨he, bel⟩ => ?_
  subst he
  exact ⟨_, rfl, _, _, _, [], _, [], hW', trodAll_mk1 (shut_bool Tryd.underlying4 _), (trodAll_cons_mk (out_acts h0 bel (fun x hx => hW'.lt x (by first | exact hx | simp [hx]))) (trodAll_cons_mk (out_acts h1 bel (fun x hx => hW'.lt x (by first | exact hx | simp [hx]))) (trodAll_cons_mk (out_acts h2 bel (fun x hx => hW'.lt x (by first | exact hx | simp [hx]))) trodAll_mk0))), rfl, Below.frame bel _, fun h => by cases h⟩

theorem varsCopies_said : Rows.VarsCopiesSaid :=
  OpenClaim.holds_of_cond 6 Tryd.f6 rfl rfl rfl rfl rfl rfl rfl ⟨rfl, rfl, rfl, rfl, rfl⟩ rfl rfl rfl rfl rfl (by kernel_rfl) Tryd.func6 (by kernel_rfl)
    (of_decide_eq_true (by kernel_rfl)) (by unfold Func.isWrapper; first | (rw [if_pos (by decide +kernel)]; kernel_rfl) | (rw [if_neg (by decide +kernel)]; exact ⟨rfl, rfl⟩))
    (fun os started H enc _ F => by rw [OpenClaim.pre_eq_preRow]; exact lifted_varsCopies os started H enc F)

theorem plain_varsCopies (f : FuncId) (fn : Func) (hf : Tryd.pinned.checked.prog.funcNamed "cnc/cnclaw07.VarsCopies" = some f) (hfn : Tryd.pinned.checked.prog.funcs[f]? = some fn) :
    false = Tryd.pinned.checked.prog.looks [] ∧ ∀ (j : Nat) t, fn.params[j]? = some t → Tryd.pinned.checked.prog.wantsStandIn t = false := by
  obtain rfl : f = 6 := Option.some.inj ((show Tryd.prog.funcNamed "cnc/cnclaw07.VarsCopies" = some 6 by kernel_rfl).symm.trans hf) |>.symm
  obtain rfl : fn = Tryd.f6 := (Option.some.inj (Tryd.func6.symm.trans hfn)).symm
  refine ⟨by kernel_rfl, fun j t ht => ?_⟩
  rw [Tryd.params6] at ht
  obtain rfl : t = 22 := by simpa using Array.mem_of_getElem? ht
  exact (show Tryd.prog.wantsStandIn 22 = false by kernel_rfl)

/-- The statement. -/
theorem varsCopies_card : Rows.VarsCopiesCardSaid :=
  Claim7.holds_tied_plain_at .later [] _ _ _ _ varsCopies_said (fun _ h => by cases h) (by kernel_rfl) (fun _ h => by cases h) varsCopies_row_tie rfl ⟨rfl, rfl⟩ (by kernel_rfl) rfl plain_varsCopies (by kernel_rfl)

end Go.Proofs.YtmfhiabajkdikaaDoor
