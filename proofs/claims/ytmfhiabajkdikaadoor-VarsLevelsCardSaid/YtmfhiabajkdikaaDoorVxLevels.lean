
/- VarsLevels: a level that ends leaves the local variables of the level below as they were; common variables remain.
   Conditions: the listed tables lie as the program's own text lays them (the card ties them); every input. -/
import Derived.Test.YtmfhiabajkdikaaDoorFrameA
import Derived.Test.YtmfhiabajkdikaaDoorVlF
set_option linter.unusedVariables false
set_option linter.unusedSimpArgs false
namespace Go.Proofs.YtmfhiabajkdikaaDoor
open Go.ChangeShapes Go.WideShapes Go.ChangeAt Go.RowKit

theorem info_arr : (Tryd.prog.info? 38).map (·.size) = some 33 := by kernel_rfl
theorem built_arr : Tryd.prog.built 38 [] = some (ivs (Vs.zer 33)) := by kernel_rfl
section
variable {ops : Array Oper} {rest : List Oper} {dst : Option Tmp} {ty : TypeId} {pos : String} {after : Array Edge} {a : Act} {w : World} {Q : Exit → Act → World → Prop}
theorem bu_arr (h : wpList Tryd.prog ops Q rest (a.put dst (.agg (ivs (Vs.zer 33)))) w) :
    wpList Tryd.prog ops Q (⟨dst, .build 38 #[], ty, pos, after, none⟩ :: rest) a w := by
  have e : Tryd.prog.built 38 ((#[] : Array (Nat × Operand)).map fun (i, x) => (i, a.eval x)).toList = some (ivs (Vs.zer 33)) := by simpa using built_arr
  refine wpList_build rfl 38 #[] rfl (by rw [e]; rfl) ?_
  rw [e]
  exact h
theorem st_arr (x y : Tmp) {R : Nat} {t : TypeId} {old : Array Value} {l : List Int} (hx : a.eval (.tmp x) = .pointer (some ⟨R, 0, none⟩)) (hy : a.eval (.tmp y) = .agg (ivs l)) (X : Bx w R old t) (ho : old.size = 33) (hl : l.length = 33)
    (h : wpList Tryd.prog ops Q rest (a.put dst undef) (w.setRow R (ivs l))) : wpList Tryd.prog ops Q (⟨dst, .store 38 (.tmp x) (.tmp y), ty, pos, after, none⟩ :: rest) a w :=
  wpList_store_row rfl 38 (.tmp x) (.tmp y) rfl R (ivs l) hx hy t old X (by rw [ivs_size, hl]; exact info_arr) (by rw [ho, ivs_size, hl]) (ivs_one l) h
end

set_option maxRecDepth 100000 in
set_option maxHeartbeats 4000000 in
theorem walk_varsLevels (v0 : Value) (l : List Vs.A) (v1 : Value) (more : List Vs.A) (n : Int) (n1 : -9223372036854775808 ≤ n) (n2 : n ≤ 9223372036854775807) (v : Int) (b1 : -9223372036854775808 ≤ v) (b2 : v ≤ 9223372036854775807) (w : World) (hl0 : ActsB w.heap.size w v0 l) (hl1 : ActsB w.heap.size w v1 more) (hT : Tl w) :
    Calls Tryd.prog 5 #[v0, v1, .int .i64 n, .int .i64 v] w fun e w' => e = .returned (.bool true) ∧ Below w.heap.size w w' := by
  have HT := Lib.hid hT
  obtain ⟨a0, cap0, rfl, l63⟩ := acts_shape hl0
  obtain ⟨a1, cap1, rfl, o63⟩ := acts_shape hl1
  have HA0 := Lib.hid hl0
  have HA1 := Lib.hid hl1
  have FE0 := Lib.hid (vlFew hl0)
  have FE1 := Lib.hid (vlFew hl1)
  have AW := Lib.hid (fun w' (q : Qw w w') => awakeV w' (hT.kept q))
  have hm := Int.emod_nonneg n (show (100 : Int) ≠ 0 by decide)
  have hm2 := Int.emod_lt_of_pos n (show (0 : Int) < 100 by decide)
  have MD := Lib.hid (fun w => modW n 100 n1 n2 (by decide) (by decide) w)
  have hb := Int.emod_nonneg v (show (1000 - -1000 + 1 : Int) ≠ 0 by decide)
  have hb2 := Int.emod_lt_of_pos v (show (0 : Int) < 1000 - -1000 + 1 by decide)
  have BT := Lib.hid (fun w => betweenW v (-1000) 1000 b1 b2 (by decide) (by decide) (by decide) (by decide) w)
  generalize n % 100 = m at *
  generalize v % (1000 - -1000 + 1) = b at *
  obtain ⟨u, hu⟩ : ∃ u, u = -1000 + b := ⟨_, rfl⟩
  rw [← hu] at BT
  obtain ⟨k, hk⟩ : ∃ k, k = 100 + m := ⟨_, rfl⟩
  have kC : Vs.isC k := ⟨by omega, by omega⟩
  have kV : Vs.vld u := ⟨by omega, by omega⟩
  have KC := Lib.hid kC
  have KV := Lib.hid kV
  have e1 : IntKind.i64.wrap (100 + m) = k := by rw [hk]; exact IntWalk.i64_in _ (by omega)
  clear hl0 hl1 hT n1 n2 b1 b2 hu hk hm hm2 hb hb2 kC kV
  cases hf0 : Vs.few l with
  | false =>
    rw [hf0] at FE0
    clear hf0
    go_enter Tryd.func5, Tryd.ntmps5
    go_wp2_with (first | (go_at_call 9; ((with_reducible refine (FE0.out).mono ?_); rintro e we ⟨rfl, rfl⟩)) | (go_at_call 10; ((with_reducible refine (AW.out _ (Qw.refl _)).mono ?_); rintro e w2 ⟨rfl, q⟩; have Q := Lib.hid q; clear q)))
    go_ret
    exact ⟨rfl, Q.out⟩
  | true =>
  cases hf1 : Vs.few more with
  | false =>
    rw [hf0] at FE0
    rw [hf1] at FE1
    clear hf0 hf1
    go_enter Tryd.func5, Tryd.ntmps5
    go_wp2_with (first | (go_at_call 9; ((with_reducible refine (FE0.out).mono ?_); rintro e we ⟨rfl, rfl⟩)) | (go_at_call 9; ((with_reducible refine (FE1.out).mono ?_); rintro e we ⟨rfl, rfl⟩)) | (go_at_call 10; ((with_reducible refine (AW.out _ (Qw.refl _)).mono ?_); rintro e w2 ⟨rfl, q⟩; have Q := Lib.hid q; clear q)))
    go_ret
    exact ⟨rfl, Q.out⟩
  | true =>
    rw [hf0] at FE0
    rw [hf1] at FE1
    clear hf0 hf1
    go_enter Tryd.func5, Tryd.ntmps5
    go_wp2_with (first
      | (go_at_call 9; ((with_reducible refine (FE0.out).mono ?_); rintro e we ⟨rfl, rfl⟩)) | (go_at_call 9; ((with_reducible refine (FE1.out).mono ?_); rintro e we ⟨rfl, rfl⟩))
      | (go_at_call 11; ((with_reducible refine (vaNew _).mono ?_); rintro e w1 ⟨B, L, c, rfl, p1, hB, hL, q1⟩; have NP := Lib.hid p1; have NB := Lib.hid hB; have NL := Lib.hid hL; have NQ := Lib.hid q1; clear p1 hB hL q1))
      | (go_at_call 10; ((with_reducible refine (AW.out _ NQ.out).mono ?_); rintro e wa ⟨rfl, q⟩; have NP2 := Lib.hid (NP.out.kept q); have NQ2 := Lib.hid (NQ.out.trans q); clear q))
      | (go_at_call 12; ((with_reducible refine (vrNew _).mono ?_); rintro e w2 ⟨B', L', c', rfl, p2, hB', hL', q2⟩; have P := Lib.hid (Pr.start NP2.out NB.out NL.out NQ2.out p2 hB' hL' q2); clear p2 hB' hL' q2)))
    go_loopw [9, 11] (fun sv iv wr => ∃ (i B L c L' c' : Nat) (s : Vs.St), i ≤ l.length ∧ sv = .pointer (some ⟨B, 0, none⟩) ∧ iv = .int .i64 (i : Int) ∧ Hid (Pr w wr B L c B' L' c' s s)) (fun _ iv _ => l.length - (intOf iv).toNat)
    case atStart => exact ⟨0, B, L, c, L', c', Vs.new, by omega, rfl, rfl, P⟩
    case round =>
      clear NP NB NL NQ NP2 NQ2 P FE0 FE1 AW
      obtain ⟨i, B, L, c, L', c', s, hi, rfl, rfl, P⟩ := hrel
      by_cases hlt0 : i < l.length
      · have hlt' : (i : Int) < (l.length : Int) := by omega
        have hi63 : (i : Int) ≤ 9223372036854775806 := by omega
        obtain ⟨b0, off0, sv0, rfl, ⟨c00, c01, c02, c03, c04⟩, hu⟩ := acts_at HA0.out (Nat.le_refl _) P.out.q hlt0
        have ST0 := Lib.hid (vlStep P.out hu (Nat.le_refl _) HT.out)
        clear hu
        generalize l[i] = ac at c00 c01 c02 c03 c04 ST0
        obtain ⟨x0, x0n, x0v, x0b, x0a⟩ := ac
        simp only at c00 c01 c02 c03 c04 ST0
        go_wp2_with ((go_at_call 14; ((with_reducible refine (ST0.out).mono ?_); rintro e w3 ⟨B1, L1, c1', L2, c2', bb, rfl, hb, hP, hn, hn2, hTf⟩; obtain rfl : bb = true := hb (by trivial); have P5 := Lib.hid hP; clear hP hn hn2 hTf hb)))
        go_roundw
        case rel => exact ⟨i + 1, B1, L1, c1', L2, c2', _, by omega, rfl, by go_num, P5⟩
        case measure => simp [intOf]; omega
      · obtain rfl : i = l.length := by omega
        have okS := Lib.hid P.out.p.ok
        go_wp2_with (first | (with_reducible refine bu_arr ?_) | (refine st_arr 14 60 rfl rfl (Bx.new wr _ _) rfl (Vs.zer_length 33) ?_))
        refine code_of (fun w' => ∃ tr, Bx w' wr.heap.size (ivs (Vs.wasTo s 0)) tr ∧ Qw wr w') ⟨_, (Bx.new wr _ _).sr _, Qw.sr (Qw.al (Qw.refl wr) _) (Nat.le_refl _) _⟩ ?_
        rintro wx ⟨tr, hX, hq⟩
        obtain ⟨D, hD⟩ : ∃ D, D = wr.heap.size := ⟨_, rfl⟩
        rw [← hD] at hX ⊢
        have X := Lib.hid hX
        have QX := Lib.hid hq
        have KD := Lib.hid hD
        have ND : Hid (¬ Fb B L B' L' D) := Lib.hid (by have := P.out.p.ltB; have := P.out.p.ltL; have := P.out.r.ltB; have := P.out.r.ltL; rintro (e | e | e | e) <;> omega)
        have WD : Hid (w.heap.size ≤ D) := Lib.hid (by have := P.out.q.size; omega)
        clear hX hq hD hlt0 hi
        go_loopw [15] (fun iv wy => ∃ (j : Nat), j ≤ 33 ∧ iv = .int .i64 (j : Int) ∧ Hid (Bx wy D (ivs (Vs.wasTo s j)) tr) ∧ Hid (Qw wr wy)) (fun iv _ => 33 - (intOf iv).toNat)
        case atStart => exact ⟨0, by omega, rfl, X, QX⟩
        case round =>
          clear X QX
          obtain ⟨j, hj, rfl, X, QX⟩ := hrel
          by_cases hlt : j < 33
          · have hlt' : (j : Int) < 33 := by omega
            have ew : IntKind.i64.wrap ((j : Int) + 1) = j + 1 := IntWalk.i64_in _ (by omega)
            have G1 := Lib.hid (fun w' (q : Qw _ w') => vaGet (P.out.p.kept q) ((j : Int) + 1))
            have GE := Lib.hid (Vs.gerr_l (j := (j : Int) + 1) ⟨by omega, by omega⟩)
            have NX : Hid (Vs.wasTo s (j + 1) = (Vs.wasTo s j).set j (s.get ((j : Int) + 1))) := Lib.hid rfl
            have wl := Vs.wasTo_length s j
            generalize s.get ((j : Int) + 1) = gv at *
            generalize Vs.gerr ((j : Int) + 1) = ge at *
            obtain rfl : ge = 0 := GE.out
            have cD := X.out.cell' j _ (ivs_at (l := Vs.wasTo s j) (i := j) (by omega))
            have fD := X.out.free j
            have hDl := X.out.lt
            clear GE wl
            generalize (Vs.wasTo s j).getD j 0 = old at *
            go_wp2_with ((go_at_call 18; ((with_reducible refine (G1.out _ QX.out).mono ?_); rintro e w3 ⟨rfl, q⟩; have X2 := Lib.hid (X.out.kept q); have Q2 := Lib.hid (QX.out.trans q); have cD2 := (q.cell (p := ⟨D, j, none⟩) hDl).trans cD; have fD2 := (q.frozen (p := ⟨D, j, none⟩) hDl).trans fD; clear q)))
            have Q3 := Lib.hid (Qw.sc Q2.out (p := ⟨D, j, none⟩) (Nat.le_of_eq KD.out.symm) (.int .i64 gv))
            have X3 := X2.out.set j (.int .i64 gv)
            rw [ivs_set, ← NX.out] at X3
            replace X3 := Lib.hid X3
            go_roundw
            case rel => exact ⟨j + 1, by omega, by go_num, X3, Q3⟩
            case measure => simp [intOf]; omega
          · obtain rfl : j = 33 := by omega
            by_cases h9 : s.n = 9
            · have e0 : Vs.perr s [] = 10 := by unfold Vs.perr; rw [if_pos h9]
              have PU : Calls Tryd.prog 20 #[.pointer (some ⟨B, 0, none⟩), .slice none 0 0] wr fun e w' => e = .returned (.int .i64 10) ∧ Ty B L wr w' := (vaPush (P.out.p.kept QX.out) (ValsB.nil _ _) (HT.out.kept (P.out.q.trans QX.out))).mono fun e w' ⟨he, _, T⟩ => ⟨he.trans (by rw [e0]), T⟩
              have LV : Calls Tryd.prog 19 #[.pointer (some ⟨B, 0, none⟩)] wr fun e w' => e = .returned (.int .i64 8) ∧ wr = w' := (vaLevel (P.out.p.kept QX.out)).mono fun e w' ⟨he, k⟩ => ⟨he.trans (by rw [h9]; rfl), k⟩
              replace PU := Lib.hid PU
              replace LV := Lib.hid LV
              clear e0 h9 hj hlt
              go_wp2_with (first
                | (go_at_call 19; ((with_reducible refine (LV.out).mono ?_); rintro e wl ⟨rfl, rfl⟩; skip))
                | (go_at_call 20; ((with_reducible refine (PU.out).mono ?_); rintro e wp ⟨rfl, T⟩; have T1 := Lib.hid T; clear T)))
              go_ret
              exact ⟨rfl, (P.out.q.trans QX.out).tyn T1.out P.out.b.1 P.out.b.2.1⟩
            · have LP := Vs.low_push okS.out h9
              have LO := Lib.hid LP.2
              have PU : Calls Tryd.prog 20 #[.pointer (some ⟨B, 0, none⟩), .slice none 0 0] wr fun e w' => e = .returned (.int .i64 0) ∧ (∃ L1 c1, Pst w' B L1 c1 (s.push []) ∧ (L1 = L ∨ wr.heap.size ≤ L1)) ∧ Ty B L wr w' := (vaPush (P.out.p.kept QX.out) (ValsB.nil _ _) (HT.out.kept (P.out.q.trans QX.out))).mono fun e w' ⟨he, k, T⟩ => ⟨he.trans (by rw [LP.1]), k, T⟩
              obtain ⟨lv, hlv⟩ : ∃ lv, (s.n : Int) - 1 = lv := ⟨_, rfl⟩
              have LV : Calls Tryd.prog 19 #[.pointer (some ⟨B, 0, none⟩)] wr fun e w' => e = .returned (.int .i64 lv) ∧ wr = w' := (vaLevel (P.out.p.kept QX.out)).mono fun e w' ⟨he, k⟩ => ⟨he.trans (by rw [hlv]), k⟩
              generalize s.push [] = x0 at *
              replace PU := Lib.hid PU
              replace LV := Lib.hid LV
              have HLV := Lib.hid hlv
              clear LP h9 hj hlt hlv
              go_wp2_with (first
                | (go_at_call 19; ((with_reducible refine (LV.out).mono ?_); rintro e wl ⟨rfl, rfl⟩; skip))
                | (go_at_call 20; ((with_reducible refine (PU.out).mono ?_); rintro e w4 ⟨rfl, ⟨L1, c1, hP, hn⟩, T⟩; have hK := (P.out.kept QX.out).two T hP hn (Ty.refl _ _ _) ((P.out.kept QX.out).r1 T) (.inl rfl); have P4 := Lib.hid hK.1; have X4 := Lib.hid (X.out.ty T (fun e => ND.out (.inl e)) (fun e => ND.out (.inr (.inl e)))); have ND4 := Lib.hid (fb_new ND.out hn (.inl rfl) X.out.lt); clear hK hP hn T)))
              go_loopw [17] (fun iv wz => ∃ (j L1 c1 L2 c2 : Nat) (x t : Vs.St), j ≤ more.length ∧ iv = .int .i64 (j : Int) ∧ Hid (Pr w wz B L1 c1 B' L2 c2 x t) ∧ Hid (Vs.Low s x) ∧ Hid (Bx wz D (ivs (Vs.wasTo s 33)) tr) ∧ Hid (¬ Fb B L1 B' L2 D)) (fun iv _ => more.length - (intOf iv).toNat)
              case atStart => exact ⟨0, L1, c1, L', c', x0, s, by omega, rfl, P4, LO, X4, ND4⟩
              case round =>
                clear P4 LO X4 ND4 P X QX ND PU LV KD
                obtain ⟨j, L1, c1, L2, c2, x, t, hj, rfl, P, LO, X, ND⟩ := hrel
                by_cases hlt1 : j < more.length
                · have hlt' : (j : Int) < (more.length : Int) := by omega
                  have hi63 : (j : Int) ≤ 9223372036854775806 := by omega
                  obtain ⟨b1, off1, sv1, rfl, ⟨c10, c11, c12, c13, c14⟩, hu⟩ := acts_at HA1.out (Nat.le_refl _) P.out.q hlt1
                  have ST1 := Lib.hid (vlStep P.out hu (Nat.le_refl _) HT.out)
                  clear hu
                  generalize more[j] = ac at c10 c11 c12 c13 c14 ST1
                  obtain ⟨x1, x1n, x1v, x1b, x1a⟩ := ac
                  simp only at c10 c11 c12 c13 c14 ST1
                  by_cases h1 : x1 = 1
                  · subst h1
                    have LS := Lib.hid (Vs.low_step LO.out (a := ⟨1, x1n, x1v, x1b, x1a⟩) (.inl rfl))
                    go_wp2_with ((go_at_call 14; ((with_reducible refine (ST1.out).mono ?_); rintro e w3 ⟨B1, L3, c3, L4, c4', bb, rfl, hb, hP, hn, hn2, hTf⟩; obtain ⟨rfl, hnn⟩ := hn.resolve_right (fun k => absurd k.1 (by decide)); have P5 := Lib.hid hP; have X5 := Lib.hid ((hTf.block D X.out.lt ND.out).trans X.out); have ND5 := Lib.hid (fb_new ND.out hnn hn2 X.out.lt); clear hP hn hn2 hTf hb hnn)))
                    go_roundw
                    case rel => exact ⟨j + 1, L3, c3, L4, c4', _, _, by omega, by go_num, P5, LS, X5, ND5⟩
                    case measure => simp [intOf]; omega
                  · have h1f : (x1 == 1) = false := beq_eq_false_iff_ne.2 h1
                    by_cases h2 : x1 = 2
                    · subst h2
                      have LS := Lib.hid (Vs.low_step LO.out (a := ⟨2, x1n, x1v, x1b, x1a⟩) (.inr rfl))
                      clear h1 h1f
                      go_wp2_with ((go_at_call 14; ((with_reducible refine (ST1.out).mono ?_); rintro e w3 ⟨B1, L3, c3, L4, c4', bb, rfl, hb, hP, hn, hn2, hTf⟩; obtain ⟨rfl, hnn⟩ := hn.resolve_right (fun k => absurd k.1 (by decide)); have P5 := Lib.hid hP; have X5 := Lib.hid ((hTf.block D X.out.lt ND.out).trans X.out); have ND5 := Lib.hid (fb_new ND.out hnn hn2 X.out.lt); clear hP hn hn2 hTf hb hnn)))
                      go_roundw
                      case rel => exact ⟨j + 1, L3, c3, L4, c4', _, _, by omega, by go_num, P5, LS, X5, ND5⟩
                      case measure => simp [intOf]; omega
                    · have h2f : (x1 == 2) = false := beq_eq_false_iff_ne.2 h2
                      clear h1 h2
                      go_wp2
                      go_roundw
                      case rel => exact ⟨j + 1, L1, c1, L2, c2, x, t, by omega, by go_num, P, LO, X, ND⟩
                      case measure => simp [intOf]; omega
                · obtain rfl : j = more.length := by omega
                  have LPOP := Vs.low_pop LO.out okS.out KC.out KV.out
                  obtain ⟨q1, q2, q3, q4, q5, q6⟩ := LPOP
                  have SE : Calls Tryd.prog 21 #[.pointer (some ⟨B, 0, none⟩), .int .i64 k, .int .i64 u] wr fun e w' => e = .returned (.int .i64 0) ∧ Pst w' B L1 c1 (x.set k u) ∧ Ty B L1 wr w' := (vaSet P.out.p k u).mono fun e w' ⟨he, r⟩ => ⟨he.trans (by rw [q1]), r⟩
                  have PO : ∀ w', Pst w' B L1 c1 (x.set k u) → Calls Tryd.prog 23 #[.pointer (some ⟨B, 0, none⟩)] w' fun e w'' => e = .returned (.int .i64 0) ∧ (∃ L3 c3, Pst w'' B L3 c3 (x.set k u).pop ∧ (L3 = L1 ∨ w'.heap.size ≤ L3)) ∧ Ty B L1 w' w'' := fun w' h => (vaPop h).mono fun e w'' ⟨he, r⟩ => ⟨he.trans (by rw [q2]), r⟩
                  have LV : ∀ w' L3 c3, Pst w' B L3 c3 (x.set k u).pop → Calls Tryd.prog 19 #[.pointer (some ⟨B, 0, none⟩)] w' fun e w'' => e = .returned (.int .i64 lv) ∧ w' = w'' := fun w' L3 c3 h => (vaLevel h).mono fun e w'' ⟨he, r⟩ => ⟨he.trans (by rw [q3, HLV.out]), r⟩
                  generalize (x.set k u).pop = y at *
                  replace SE := Lib.hid SE
                  replace PO := Lib.hid PO
                  replace LV := Lib.hid LV
                  replace q4 := Lib.hid q4
                  replace q5 := Lib.hid q5
                  replace q6 := Lib.hid q6
                  clear q1 q2 q3 hj hlt1
                  go_wp2_with (first
                    | (go_at_call 15; ((with_reducible refine (MD.out _).mono ?_); rintro e wm ⟨rfl, rfl⟩; skip))
                    | (go_at_call 22; ((with_reducible refine (BT.out _).mono ?_); rintro e wm ⟨rfl, rfl⟩; skip))
                    | (go_at_call 21; ((with_reducible refine (SE.out).mono ?_); rintro e w5 ⟨rfl, hP, T⟩; have P5 := Lib.hid hP; have Q5 := Lib.hid (P.out.q.tyn T P.out.b.1 P.out.b.2.1); have X5 := Lib.hid (X.out.ty T (fun e => ND.out (.inl e)) (fun e => ND.out (.inr (.inl e)))); clear hP T))
                    | (go_at_call 23; ((with_reducible refine (PO.out _ P5.out).mono ?_); rintro e w6 ⟨rfl, ⟨L3, c3, hP, hn⟩, T⟩; have P6 := Lib.hid hP; have Q6 := Lib.hid (Q5.out.tyn T P.out.b.1 P.out.b.2.1); have X6 := Lib.hid (X5.out.ty T (fun e => ND.out (.inl e)) (fun e => ND.out (.inr (.inl e)))); clear hP T hn))
                    | (go_at_call 19; ((with_reducible refine (LV.out _ _ _ P6.out).mono ?_); rintro e w7 ⟨rfl, rfl⟩; skip)))
                  go_loopw [19] (fun iv wv => ∃ (j : Nat), j ≤ 33 ∧ iv = .int .i64 (j : Int) ∧ Hid (Pst wv B L3 c3 y) ∧ Hid (Bx wv D (ivs (Vs.wasTo s 33)) tr) ∧ Hid (Qw w wv)) (fun iv _ => 33 - (intOf iv).toNat)
                  case atStart => exact ⟨0, by omega, rfl, P6, X6, Q6⟩
                  case round =>
                    clear P6 X6 Q6 P5 X5 Q5 SE PO LV P X ND LO
                    obtain ⟨j, hj, rfl, P, X, Q⟩ := hrel
                    by_cases hlt : j < 33
                    · have hlt' : (j : Int) < 33 := by omega
                      have ew : IntKind.i64.wrap ((j : Int) + 1) = j + 1 := IntWalk.i64_in _ (by omega)
                      have hL : Vs.isL ((j : Int) + 1) := ⟨by omega, by omega⟩
                      have g1 := q4.out _ hL
                      have g2 := Vs.gerr_l hL
                      have G1 := vaGet P.out ((j : Int) + 1)
                      rw [g1, g2] at G1
                      have cD := X.out.cell' j _ (ivs_at (l := Vs.wasTo s 33) (i := j) (by rw [Vs.wasTo_length]; exact hlt))
                      rw [Vs.wasTo_at s 33 (Nat.le_refl _) j hlt] at cD
                      have hDl := X.out.lt
                      replace G1 := Lib.hid G1
                      clear g1 g2 hL
                      generalize s.get ((j : Int) + 1) = gv at *
                      go_wp2_with ((go_at_call 18; ((with_reducible refine (G1.out).mono ?_); rintro e w8 ⟨rfl, q⟩; have P8 := Lib.hid (P.out.kept q); have X8 := Lib.hid (X.out.kept q); have Q8 := Lib.hid (Q.out.trans q); have cD2 := (q.cell (p := ⟨D, j, none⟩) hDl).trans cD; clear q)))
                      go_roundw
                      case rel => exact ⟨j + 1, by omega, by go_num, P8, X8, Q8⟩
                      case measure => simp [intOf]; omega
                    · obtain rfl : j = 33 := by omega
                      have G1 := vaGet P.out k
                      rw [q5.out, q6.out] at G1
                      replace G1 := Lib.hid G1
                      go_wp2_with (first
                        | (go_at_call 18; ((with_reducible refine (G1.out).mono ?_); rintro e w8 ⟨rfl, q⟩; have Q8 := Lib.hid (Q.out.trans q); clear q))
                        | (go_at_call 22; ((with_reducible refine (BT.out _).mono ?_); rintro e wm ⟨rfl, rfl⟩; skip)))
                      go_ret
                      exact ⟨rfl, Q8.out⟩

/-! ### the row and the card -/
theorem reads_varsLevels (os : Os) {H : Type} (enc : TypeId × Value → H) : ∃ places, DataW.whole enc Tryd.prog ((laidWorldW os).forCall (fun _ _ => 0) ⟨#[], #[.slice none 0 0, .slice none 0 0, .int .i64 0, .int .i64 0], []⟩).memory Tryd.f5.params.toList Rows.varsLevelsSpec.vars false #[(.slice none 0 0 : Value), .slice none 0 0, .int .i64 0, .int .i64 0].toList 8 = some ([.nil, .nil, .lit (.int .i64 0), .lit (.int .i64 0)], [], places) :=
  ⟨[], by kernel_rfl⟩
set_option maxRecDepth 100000 in
theorem lifted_varsLevels (os : Os) (started : os.Started) (H : Type) (enc : TypeId × Value → H) (F : Stop.Interp) :
    ReturnsInHanded {} Tryd.checked os 5 .any ((OpenSpec.ofChange Rows.varsLevelsSpec).preRow enc Tryd.prog Tryd.f5 Rows.varsLevelsRow.domain false Rows.varsLevelsRow.laid) (((OpenSpec.ofChange Rows.varsLevelsSpec).at F).post enc Tryd.prog Tryd.f5 false true false false) := by
  obtain ⟨places, hx⟩ := reads_varsLevels os enc
  refine returnsInHanded_of_row (C := Tryd.checked) (s := OpenSpec.ofChange Rows.varsLevelsSpec) ownW started (by kernel_rfl) Tryd.func5
    (witness_row_at (enc := enc) (C := Tryd.checked) false (laidWorldW os) #[.slice none 0 0, .slice none 0 0, .int .i64 0, .int .i64 0] rfl (by kernel_rfl) (by kernel_rfl) (by kernel_rfl)
      (OpenSpec.preRow_of_cond 8 hx (by kernel_rfl) (fun k hk => by cases hk) (by kernel_rfl) (laid_metW os _))) ?_
  intro W base args ds gs before hval0 hW _ _ _ hL _ _
  have ht : Tl W := tableW hL
  have hval : ∀ (j : Nat) t v, Tryd.f5.params[j]? = some t → args[j]? = some v → Value.okWide Tryd.prog W .any base t v := hval0
  have hW' := hW
  obtain ⟨p, q, hA0, hV, rfl, hfz, hnd⟩ := hW
  have hA : DataW.TrodAll enc Tryd.prog W 0 (fun _ => true) true Tryd.f5.params.toList args.toList ds p := hA0
  rw [Tryd.params5] at hA hval
  obtain ⟨v0, vs0, d0, ds0, p0, q0, hargs, rfl, rfl, h0, r0⟩ := trodAll_cons hA
  obtain ⟨v1, vs1, d1, ds1, p1, q1, rfl, rfl, rfl, h1, r1⟩ := trodAll_cons r0
  obtain ⟨v2, vs2, d2, ds2, p2, q2, rfl, rfl, rfl, h2, r2⟩ := trodAll_cons r1
  obtain ⟨v3, vs3, d3, ds3, p3, q3, rfl, rfl, rfl, h3, r3⟩ := trodAll_cons r2
  obtain ⟨rfl, rfl, rfl⟩ := trodAll_nil r3
  obtain rfl : args = #[v0, v1, v2, v3] := by cases args; simp_all
  obtain ⟨rfl, rfl⟩ := trodVars_none hV
  obtain ⟨u0, hu0⟩ := in_acts (hval 0 22 v0 rfl rfl) h0
  obtain ⟨u1, hu1⟩ := in_acts (hval 1 22 v1 rfl rfl) h1
  obtain ⟨a2, rfl, rfl, rfl, w2⟩ := open_int Tryd.underlying3 (hval 2 3 v2 rfl rfl) h2
  obtain ⟨x2, y2⟩ := i64_wfW w2
  obtain ⟨a3, rfl, rfl, rfl, w3⟩ := open_int Tryd.underlying3 (hval 3 3 v3 rfl rfl) h3
  obtain ⟨x3, y3⟩ := i64_wfW w3
  clear hA0 hval0 hL
  simp only [List.append_nil] at hW'
  refine (walk_varsLevels v0 u0 v1 u1 a2 x2 y2 a3 x3 y3 W hu0 hu1 ht).mono fun e W' ⟨he, bel⟩ => ?_
  subst he
  exact ⟨_, rfl, _, _, _, [], _, [], hW', trodAll_mk1 (shut_bool Tryd.underlying4 _), (trodAll_cons_mk (out_acts h0 bel (fun x hx => hW'.lt x (by first | exact hx | simp [hx]))) (trodAll_cons_mk (out_acts h1 bel (fun x hx => hW'.lt x (by first | exact hx | simp [hx]))) (trodAll_cons_mk (shut_int Tryd.underlying3 w2) (trodAll_cons_mk (shut_int Tryd.underlying3 w3) trodAll_mk0)))), rfl, Below.frame bel _, fun h => by cases h⟩

theorem varsLevels_said : Rows.VarsLevelsSaid :=
  OpenClaim.holds_of_cond 5 Tryd.f5 rfl rfl rfl rfl rfl rfl rfl ⟨rfl, rfl, rfl, rfl, rfl⟩ rfl rfl rfl rfl rfl (by kernel_rfl) Tryd.func5 (by kernel_rfl)
    (of_decide_eq_true (by kernel_rfl)) (by unfold Func.isWrapper; first | (rw [if_pos (by decide +kernel)]; kernel_rfl) | (rw [if_neg (by decide +kernel)]; exact ⟨rfl, rfl⟩))
    (fun os started H enc _ F => by rw [OpenClaim.pre_eq_preRow]; exact lifted_varsLevels os started H enc F)

theorem plain_varsLevels (f : FuncId) (fn : Func) (hf : Tryd.pinned.checked.prog.funcNamed "cnc/cnclaw07.VarsLevels" = some f) (hfn : Tryd.pinned.checked.prog.funcs[f]? = some fn) :
    false = Tryd.pinned.checked.prog.looks [] ∧ ∀ (j : Nat) t, fn.params[j]? = some t → Tryd.pinned.checked.prog.wantsStandIn t = false := by
  obtain rfl : f = 5 := Option.some.inj ((show Tryd.prog.funcNamed "cnc/cnclaw07.VarsLevels" = some 5 by kernel_rfl).symm.trans hf) |>.symm
  obtain rfl : fn = Tryd.f5 := (Option.some.inj (Tryd.func5.symm.trans hfn)).symm
  refine ⟨by kernel_rfl, fun j t ht => ?_⟩
  rw [Tryd.params5] at ht
  have hm : t = 22 ∨ t = 3 := by simpa using Array.mem_of_getElem? ht
  rcases hm with rfl | rfl
  · exact (show Tryd.prog.wantsStandIn 22 = false by kernel_rfl)
  · exact (show Tryd.prog.wantsStandIn 3 = false by kernel_rfl)

/-- The statement. -/
theorem varsLevels_card : Rows.VarsLevelsCardSaid :=
  Claim7.holds_tied_plain_at .later [] _ _ _ _ varsLevels_said (fun _ h => by cases h) (by kernel_rfl) (fun _ h => by cases h) varsLevels_row_tie rfl ⟨rfl, rfl⟩ (by kernel_rfl) rfl plain_varsLevels (by kernel_rfl)

end Go.Proofs.YtmfhiabajkdikaaDoor
