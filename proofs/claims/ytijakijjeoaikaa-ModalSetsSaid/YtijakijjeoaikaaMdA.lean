
/- The walks of package modal: groups, codes, Has, Find, Rate. -/
import Derived.Test.YtijakijjeoaikaaMdP
import Derived.Test.YtijakijjeoaikaaFxA
import Derived.Test.YtijakijjeoaikaaVaC
import Derived.Test.YtijakijjeoaikaaKept
set_option linter.unusedVariables false
set_option linter.unusedSimpArgs false
namespace Go.Proofs.Ytijakijjeoaikaa
open Go.RowKit

theorem md_code (x y : Int) : Md.cv (x, y) = (if x = 71 ∨ x = 77 then wholev y else 0) ∧ Md.isC (x, y) = (if x = 71 ∨ x = 77 then whole y else false) := by
  unfold Md.cv Md.isC
  by_cases h : x = 71 ∨ x = 77
  · have e : (decide (x = 71) || decide (x = 77)) = true := by simpa using h
    simp only [e, Bool.true_and, if_pos h, and_true]
    by_cases k : whole y = true
    · rw [if_pos k]
    · rw [if_neg k]; unfold wholev; rw [if_neg k]
  · have e : (decide (x = 71) || decide (x = 77)) = false := by simpa using h
    simp only [e, Bool.false_and, if_neg h, and_true]
    rfl
theorem mdCode (x y : Int) (w : World) : Calls Try.prog 40 #[.agg #[.int .i64 x, .int .i64 y]] w fun e w' => e = .returned (.tuple #[.int .i64 (Md.cv (x, y)), .bool (Md.isC (x, y))]) ∧ Qw w w' := by
  rw [(md_code x y).1, (md_code x y).2]
  by_cases h : x = 71
  · subst h
    rw [if_pos (.inl rfl), if_pos (.inl rfl)]
    go_enter Try.func40, Try.ntmps40
    go_wp2_with (go_at_call 55; ((with_reducible refine (fxWhole _ _).mono ?_); rintro e w' ⟨rfl, rfl⟩))
    go_ret2
    exact ⟨rfl, Qw.al (Qw.refl w) _⟩
  · by_cases h2 : x = 77
    · subst h2
      rw [if_pos (.inr rfl), if_pos (.inr rfl)]
      go_enter Try.func40, Try.ntmps40
      go_wp2_with (go_at_call 55; ((with_reducible refine (fxWhole _ _).mono ?_); rintro e w' ⟨rfl, rfl⟩))
      go_ret2
      exact ⟨rfl, Qw.al (Qw.refl w) _⟩
    · rw [if_neg (by omega), if_neg (by omega)]
      have z1 : (x != 71) = true := by rw [bne_iff_ne]; exact h
      have z2 : (x != 77) = true := by rw [bne_iff_ne]; exact h2
      go_enter Try.func40, Try.ntmps40
      go_wp2
      go_ret2
      exact ⟨rfl, Qw.al (Qw.refl w) _⟩

theorem ret_in {a b : Int} (h : a = b) : Ending.returned (.int .i64 a) = .returned (.int .i64 b) := by rw [h]
set_option maxRecDepth 100000 in
set_option maxHeartbeats 4000000 in
theorem mdGroupG (c : Int) (w : World) : Calls Try.prog 37 #[.int .i64 c] w fun e w' => e = .returned (.int .i64 (Md.grpG c)) ∧ w = w' := by
  by_cases h : c ∈ Md.allG
  · have hh := h
    simp [Md.allG, Md.gtab] at h
    rcases h with rfl | rfl | rfl | rfl | rfl | rfl | rfl | rfl | rfl | rfl | rfl | rfl | rfl | rfl | rfl | rfl | rfl | rfl | rfl | rfl | rfl | rfl | rfl | rfl | rfl | rfl | rfl | rfl | rfl | rfl | rfl | rfl | rfl | rfl | rfl | rfl | rfl | rfl | rfl | rfl | rfl | rfl | rfl | rfl | rfl | rfl | rfl | rfl | rfl | rfl | rfl | rfl
    all_goals
      go_enter Try.func37, Try.ntmps37
      go_wp2
      go_ret
      exact ⟨rfl, rfl⟩
  · rw [Md.grpG_no h]
    simp [Md.allG, Md.gtab] at h
    obtain ⟨h0, h1, h2, h3, h33, h73, h74, h80, h81, h82, h83, h84, h85, h86, h89, h17, h18, h19, h90, h91, h20, h21, h94, h95, h40, h41, h42, h43, h44, h49, h98, h99, h54, h55, h56, h57, h58, h59, h61, h64, h15, h16, h68, h69, h53, h4, h10, h12, h13, h31, h52, h92⟩ := h
    have z0 : (c == 0) = false := beq_eq_false_iff_ne.2 h0
    have z1 : (c == 1) = false := beq_eq_false_iff_ne.2 h1
    have z2 : (c == 2) = false := beq_eq_false_iff_ne.2 h2
    have z3 : (c == 3) = false := beq_eq_false_iff_ne.2 h3
    have z33 : (c == 33) = false := beq_eq_false_iff_ne.2 h33
    have z73 : (c == 73) = false := beq_eq_false_iff_ne.2 h73
    have z74 : (c == 74) = false := beq_eq_false_iff_ne.2 h74
    have z80 : (c == 80) = false := beq_eq_false_iff_ne.2 h80
    have z81 : (c == 81) = false := beq_eq_false_iff_ne.2 h81
    have z82 : (c == 82) = false := beq_eq_false_iff_ne.2 h82
    have z83 : (c == 83) = false := beq_eq_false_iff_ne.2 h83
    have z84 : (c == 84) = false := beq_eq_false_iff_ne.2 h84
    have z85 : (c == 85) = false := beq_eq_false_iff_ne.2 h85
    have z86 : (c == 86) = false := beq_eq_false_iff_ne.2 h86
    have z89 : (c == 89) = false := beq_eq_false_iff_ne.2 h89
    have z17 : (c == 17) = false := beq_eq_false_iff_ne.2 h17
    have z18 : (c == 18) = false := beq_eq_false_iff_ne.2 h18
    have z19 : (c == 19) = false := beq_eq_false_iff_ne.2 h19
    have z90 : (c == 90) = false := beq_eq_false_iff_ne.2 h90
    have z91 : (c == 91) = false := beq_eq_false_iff_ne.2 h91
    have z20 : (c == 20) = false := beq_eq_false_iff_ne.2 h20
    have z21 : (c == 21) = false := beq_eq_false_iff_ne.2 h21
    have z94 : (c == 94) = false := beq_eq_false_iff_ne.2 h94
    have z95 : (c == 95) = false := beq_eq_false_iff_ne.2 h95
    have z40 : (c == 40) = false := beq_eq_false_iff_ne.2 h40
    have z41 : (c == 41) = false := beq_eq_false_iff_ne.2 h41
    have z42 : (c == 42) = false := beq_eq_false_iff_ne.2 h42
    have z43 : (c == 43) = false := beq_eq_false_iff_ne.2 h43
    have z44 : (c == 44) = false := beq_eq_false_iff_ne.2 h44
    have z49 : (c == 49) = false := beq_eq_false_iff_ne.2 h49
    have z98 : (c == 98) = false := beq_eq_false_iff_ne.2 h98
    have z99 : (c == 99) = false := beq_eq_false_iff_ne.2 h99
    have z54 : (c == 54) = false := beq_eq_false_iff_ne.2 h54
    have z55 : (c == 55) = false := beq_eq_false_iff_ne.2 h55
    have z56 : (c == 56) = false := beq_eq_false_iff_ne.2 h56
    have z57 : (c == 57) = false := beq_eq_false_iff_ne.2 h57
    have z58 : (c == 58) = false := beq_eq_false_iff_ne.2 h58
    have z59 : (c == 59) = false := beq_eq_false_iff_ne.2 h59
    have z61 : (c == 61) = false := beq_eq_false_iff_ne.2 h61
    have z64 : (c == 64) = false := beq_eq_false_iff_ne.2 h64
    have z15 : (c == 15) = false := beq_eq_false_iff_ne.2 h15
    have z16 : (c == 16) = false := beq_eq_false_iff_ne.2 h16
    have z68 : (c == 68) = false := beq_eq_false_iff_ne.2 h68
    have z69 : (c == 69) = false := beq_eq_false_iff_ne.2 h69
    have z53 : (c == 53) = false := beq_eq_false_iff_ne.2 h53
    have z4 : (c == 4) = false := beq_eq_false_iff_ne.2 h4
    have z10 : (c == 10) = false := beq_eq_false_iff_ne.2 h10
    have z12 : (c == 12) = false := beq_eq_false_iff_ne.2 h12
    have z13 : (c == 13) = false := beq_eq_false_iff_ne.2 h13
    have z31 : (c == 31) = false := beq_eq_false_iff_ne.2 h31
    have z52 : (c == 52) = false := beq_eq_false_iff_ne.2 h52
    have z92 : (c == 92) = false := beq_eq_false_iff_ne.2 h92
    clear h0 h1 h2 h3 h33 h73 h74 h80 h81 h82 h83 h84 h85 h86 h89 h17 h18 h19 h90 h91 h20 h21 h94 h95 h40 h41 h42 h43 h44 h49 h98 h99 h54 h55 h56 h57 h58 h59 h61 h64 h15 h16 h68 h69 h53 h4 h10 h12 h13 h31 h52 h92
    go_enter Try.func37, Try.ntmps37
    go_wp2
    go_ret
    exact ⟨rfl, rfl⟩
set_option maxRecDepth 100000 in
set_option maxHeartbeats 4000000 in
theorem mdGroupM (c : Int) (w : World) : Calls Try.prog 38 #[.int .i64 c] w fun e w' => e = .returned (.int .i64 (Md.grpM c)) ∧ w = w' := by
  by_cases h : c ∈ Md.allM
  · simp [Md.allM] at h
    rcases h with rfl | rfl | rfl | rfl | rfl | rfl | rfl | rfl | rfl | rfl | rfl | rfl | rfl
    all_goals
      go_enter Try.func38, Try.ntmps38
      go_wp2
      go_ret
      exact ⟨rfl, rfl⟩
  · rw [Md.grpM_no h]
    simp [Md.allM] at h
    obtain ⟨h0, h1, h2, h30, h3, h4, h5, h6, h7, h8, h9, h62, h63⟩ := h
    have z0 : (c == 0) = false := beq_eq_false_iff_ne.2 h0
    have z1 : (c == 1) = false := beq_eq_false_iff_ne.2 h1
    have z2 : (c == 2) = false := beq_eq_false_iff_ne.2 h2
    have z30 : (c == 30) = false := beq_eq_false_iff_ne.2 h30
    have z3 : (c == 3) = false := beq_eq_false_iff_ne.2 h3
    have z4 : (c == 4) = false := beq_eq_false_iff_ne.2 h4
    have z5 : (c == 5) = false := beq_eq_false_iff_ne.2 h5
    have z6 : (c == 6) = false := beq_eq_false_iff_ne.2 h6
    have z7 : (c == 7) = false := beq_eq_false_iff_ne.2 h7
    have z8 : (c == 8) = false := beq_eq_false_iff_ne.2 h8
    have z9 : (c == 9) = false := beq_eq_false_iff_ne.2 h9
    have z62 : (c == 62) = false := beq_eq_false_iff_ne.2 h62
    have z63 : (c == 63) = false := beq_eq_false_iff_ne.2 h63
    clear h0 h1 h2 h30 h3 h4 h5 h6 h7 h8 h9 h62 h63
    go_enter Try.func38, Try.ntmps38
    go_wp2
    go_ret
    exact ⟨rfl, rfl⟩
theorem mdGroup (l c : Int) (w : World) : Calls Try.prog 19 #[.int .i64 l, .int .i64 c] w fun e w' => e = .returned (.int .i64 (Md.grp l c)) ∧ w = w' := by
  unfold Md.grp
  by_cases h : l = 71
  · subst h
    rw [if_pos rfl]
    go_enter Try.func19, Try.ntmps19
    go_wp2_with (go_at_call 37; ((with_reducible refine (mdGroupG _ _).mono ?_); rintro e w' ⟨rfl, rfl⟩))
    go_ret
    exact ⟨rfl, rfl⟩
  · by_cases h2 : l = 77
    · subst h2
      rw [if_neg (by decide), if_pos rfl]
      go_enter Try.func19, Try.ntmps19
      go_wp2_with (go_at_call 38; ((with_reducible refine (mdGroupM _ _).mono ?_); rintro e w' ⟨rfl, rfl⟩))
      go_ret
      exact ⟨rfl, rfl⟩
    · rw [if_neg h, if_neg h2]
      have z1 : (l == 71) = false := beq_eq_false_iff_ne.2 h
      have z2 : (l == 77) = false := beq_eq_false_iff_ne.2 h2
      go_enter Try.func19, Try.ntmps19
      go_wp2
      go_ret
      exact ⟨rfl, rfl⟩

/-! ### Has and Find -/
theorem v_drop (l : Vs.Ar) (i : Nat) (h : i < l.length) : l.drop i = (Vs.ltr l i, Vs.num l i) :: l.drop (i + 1) := by
  rw [List.drop_eq_getElem_cons h]
  unfold Vs.ltr Vs.num
  rw [List.getD_eq_getElem?_getD, List.getElem?_eq_getElem h]
  rfl
theorem v_take (l : Vs.Ar) (i : Nat) (h : i < l.length) : l.take (i + 1) = l.take i ++ [(Vs.ltr l i, Vs.num l i)] := by
  rw [List.take_succ_eq_append_getElem h]
  unfold Vs.ltr Vs.num
  rw [List.getD_eq_getElem?_getD, List.getElem?_eq_getElem h]
  rfl
theorem v_at (l : Vs.Ar) (i : Nat) (h : i < l.length) : l[i] = (Vs.ltr l i, Vs.num l i) := by
  unfold Vs.ltr Vs.num
  rw [List.getD_eq_getElem?_getD, List.getElem?_eq_getElem h]
  rfl
theorem has_cons (p : Int × Int) (l : Vs.Ar) (c k : Int) : Md.has (p :: l) c k = ((Md.isC p && decide (p.1 = c) && decide (Md.cv p = k)) || Md.has l c k) := rfl
set_option maxRecDepth 100000 in
set_option maxHeartbeats 1000000 in
theorem mdHas {C : Nat} {w : World} {v : Value} {l : Vs.Ar} (h : ValsB C w v l) (hC : C ≤ w.heap.size) (c k : Int) :
    Calls Try.prog 21 #[v, .int .i64 c, .int .i64 k] w fun e w' => e = .returned (.bool (Md.has l c k)) ∧ Qw w w' := by
  obtain ⟨a, cap, rfl, l1, l2, hA⟩ := h
  have HA := Lib.hid hA
  clear hA
  go_enter Try.func21, Try.ntmps21
  go_wp2
  go_loopw [13] (fun iv wr => ∃ i : Nat, i ≤ l.length ∧ iv = .int .i64 (i : Int) ∧ Hid (Md.has l c k = Md.has (l.drop i) c k) ∧ Hid (Qw w wr)) (fun iv _ => l.length - (intOf iv).toNat)
  case atStart => exact ⟨0, by omega, rfl, Lib.hid rfl, Lib.hid (Qw.refl w)⟩
  case round =>
    obtain ⟨i, hi, rfl, HE, HQ⟩ := hrel
    by_cases hlt : i < l.length
    · rcases HA.out with hn | ⟨b, off, rfl, hb, hc⟩
      · rw [hn] at hlt; simp at hlt
      · obtain ⟨c0, c1, _, _⟩ := hc i hlt
        have d0 := (HQ.out.cell (p := ⟨b, off + i * 2, none⟩) (by show b < w.heap.size; omega)).trans c0
        have d1 := (HQ.out.cell (p := ⟨b, off + i * 2 + 1, none⟩) (by show b < w.heap.size; omega)).trans c1
        have hD := v_drop l i hlt
        have hE := HE.out
        rw [hD, has_cons] at hE
        generalize Vs.ltr l i = x at *
        generalize Vs.num l i = y at *
        have CC := Lib.hid (mdCode x y)
        generalize Md.cv (x, y) = cc at *
        simp only at hE
        have HE2 := Lib.hid hE
        have hl1 : (i : Int) < (l.length : Int) := by omega
        clear hc c0 c1 hD hE HE
        have fin : ∀ (wz : World), Qw wr wz → Hid (Qw w wz) := fun wz q => Lib.hid (HQ.out.trans q)
        have FIN := Lib.hid fin
        clear fin
        cases hic : Md.isC (x, y)
        · rw [hic] at HE2 CC
          clear hic
          go_wp2_with (go_at_call 40; ((with_reducible refine (CC.out _).mono ?_); rintro e w1 ⟨rfl, q⟩; have Q1 := Lib.hid q; clear q))
          go_roundw
          case rel => exact ⟨i + 1, by omega, by go_num, Lib.hid (HE2.out.trans (by simp)), FIN.out _ (Qw.trans (Qw.al (Qw.refl wr) _) Q1.out)⟩
          case measure => simp [intOf]; omega
        · rw [hic] at HE2 CC
          clear hic
          have kx : ∀ (w1 : World), Qw (wr.alloc (.cells #[.int .i64 x, .int .i64 y] 50)) w1 → w1.cell? ⟨wr.heap.size, 0, none⟩ = some (.int .i64 x) := fun w1 q => ((Bx.new wr #[.int .i64 x, .int .i64 y] 50).kept q).cell' 0 _ rfl
          have KX := Lib.hid kx
          clear kx
          by_cases hxc : x = c
          · by_cases hck : cc = k
            · subst hxc hck
              have e : Md.has l x cc = true := HE2.out.trans (by simp)
              have EE := Lib.hid e
              clear e
              go_wp2_with (go_at_call 40; ((with_reducible refine (CC.out _).mono ?_); rintro e w1 ⟨rfl, q⟩; have Q1 := Lib.hid q; clear q; have kk := KX.out w1 Q1.out))
              go_ret
              exact ⟨ret_bl EE.out.symm, (FIN.out _ (Qw.trans (Qw.al (Qw.refl wr) _) Q1.out)).out⟩
            · subst hxc
              have z2 : (cc == k) = false := beq_eq_false_iff_ne.2 hck
              have e := HE2.out.trans (show _ = Md.has (l.drop (i + 1)) x k by simp [hck])
              have HE3 := Lib.hid e
              clear e hck
              go_wp2_with (go_at_call 40; ((with_reducible refine (CC.out _).mono ?_); rintro e w1 ⟨rfl, q⟩; have Q1 := Lib.hid q; clear q; have kk := KX.out w1 Q1.out))
              go_roundw
              case rel => exact ⟨i + 1, by omega, by go_num, HE3, FIN.out _ (Qw.trans (Qw.al (Qw.refl wr) _) Q1.out)⟩
              case measure => simp [intOf]; omega
          · have z2 : (x == c) = false := beq_eq_false_iff_ne.2 hxc
            have e := HE2.out.trans (show _ = Md.has (l.drop (i + 1)) c k by simp [hxc])
            have HE3 := Lib.hid e
            clear e hxc
            go_wp2_with (go_at_call 40; ((with_reducible refine (CC.out _).mono ?_); rintro e w1 ⟨rfl, q⟩; have Q1 := Lib.hid q; clear q; have kk := KX.out w1 Q1.out))
            go_roundw
            case rel => exact ⟨i + 1, by omega, by go_num, HE3, FIN.out _ (Qw.trans (Qw.al (Qw.refl wr) _) Q1.out)⟩
            case measure => simp [intOf]; omega
    · obtain rfl : i = l.length := by omega
      have e : Md.has l c k = false := HE.out.trans (by rw [List.drop_length]; rfl)
      have EE := Lib.hid e
      clear e
      go_wp2
      go_ret
      exact ⟨ret_bl EE.out.symm, HQ.out⟩

theorem fo_cons (p : Int × Int) (l : Vs.Ar) (c : Int) : Md.fo (p :: l) c = (decide (p.1 = c) || Md.fo l c) ∧ Md.fv (p :: l) c = if p.1 = c then p.2 else Md.fv l c := by
  unfold Md.fo Md.fv
  rw [Md.fnd_cons]
  by_cases h : p.1 = c
  · rw [if_pos h, if_pos h, decide_eq_true h]; exact ⟨rfl, rfl⟩
  · rw [if_neg h, if_neg h, decide_eq_false h]; exact ⟨rfl, rfl⟩
theorem ret_ib2 {a b : Int} {c d : Bool} (h : a = b) (g : c = d) : Ending.returned (.tuple #[.int .i64 a, .bool c]) = .returned (.tuple #[.int .i64 b, .bool d]) := by rw [h, g]
set_option maxRecDepth 100000 in
set_option maxHeartbeats 1000000 in
theorem mdFind {C : Nat} {w : World} {v : Value} {l : Vs.Ar} (h : ValsB C w v l) (hC : C ≤ w.heap.size) (c : Int) :
    Calls Try.prog 23 #[v, .int .i64 c] w fun e w' => e = .returned (.tuple #[.int .i64 (Md.fv l c), .bool (Md.fo l c)]) ∧ Qw w w' := by
  obtain ⟨a, cap, rfl, l1, l2, hA⟩ := h
  have HA := Lib.hid hA
  clear hA
  go_enter Try.func23, Try.ntmps23
  go_wp2
  go_loopw [10] (fun iv wr => ∃ i : Nat, i ≤ l.length ∧ iv = .int .i64 (i : Int) ∧ Hid (Md.fo l c = Md.fo (l.drop i) c ∧ Md.fv l c = Md.fv (l.drop i) c) ∧ Hid (Qw w wr)) (fun iv _ => l.length - (intOf iv).toNat)
  case atStart => exact ⟨0, by omega, rfl, Lib.hid ⟨rfl, rfl⟩, Lib.hid (Qw.refl w)⟩
  case round =>
    obtain ⟨i, hi, rfl, HE, HQ⟩ := hrel
    by_cases hlt : i < l.length
    · rcases HA.out with hn | ⟨b, off, rfl, hb, hc⟩
      · rw [hn] at hlt; simp at hlt
      · obtain ⟨c0, c1, _, _⟩ := hc i hlt
        have d0 := (HQ.out.cell (p := ⟨b, off + i * 2, none⟩) (by show b < w.heap.size; omega)).trans c0
        have d1 := (HQ.out.cell (p := ⟨b, off + i * 2 + 1, none⟩) (by show b < w.heap.size; omega)).trans c1
        have hD := v_drop l i hlt
        have hE := HE.out
        rw [hD, (fo_cons _ _ _).1, (fo_cons _ _ _).2] at hE
        generalize Vs.ltr l i = x at *
        generalize Vs.num l i = y at *
        simp only at hE
        have HE2 := Lib.hid hE
        have hl1 : (i : Int) < (l.length : Int) := by omega
        clear hc c0 c1 hD hE HE
        have fin : ∀ (wz : World), Qw wr wz → Hid (Qw w wz) := fun wz q => Lib.hid (HQ.out.trans q)
        have FIN := Lib.hid fin
        clear fin
        by_cases hxc : x = c
        · subst hxc
          have EE : Hid (Md.fo l x = true ∧ Md.fv l x = y) := Lib.hid ⟨HE2.out.1.trans (by simp), HE2.out.2.trans (by simp)⟩
          go_wp2
          go_ret2
          exact ⟨ret_ib2 EE.out.2.symm EE.out.1.symm, (FIN.out _ (Qw.al (Qw.refl wr) _)).out⟩
        · have z2 : (x == c) = false := beq_eq_false_iff_ne.2 hxc
          have HE3 : Hid (Md.fo l c = Md.fo (l.drop (i + 1)) c ∧ Md.fv l c = Md.fv (l.drop (i + 1)) c) := Lib.hid ⟨HE2.out.1.trans (by simp [hxc]), HE2.out.2.trans (by simp [hxc])⟩
          clear hxc
          go_wp2
          go_roundw
          case rel => exact ⟨i + 1, by omega, by go_num, HE3, FIN.out _ (Qw.al (Qw.refl wr) _)⟩
          case measure => simp [intOf]; omega
    · obtain rfl : i = l.length := by omega
      have EE : Hid (Md.fo l c = false ∧ Md.fv l c = 0) := Lib.hid ⟨HE.out.1.trans (by rw [List.drop_length]; rfl), HE.out.2.trans (by rw [List.drop_length]; rfl)⟩
      go_wp2
      go_ret2
      exact ⟨ret_ib2 EE.out.2.symm EE.out.1.symm, HQ.out⟩

/-! ### feed rates -/
theorem mdRate (n u : Int) (w : World) : Calls Try.prog 29 #[.int .i64 n, .int .i64 u] w fun e w' => e = .returned (.tuple #[.int .i64 (Md.rev n u), .int .i64 (Md.ree n u)]) ∧ Qw w w' := by
  have q0 := Qw.refl w
  by_cases hu : u = 20 ∨ u = 21
  · have lc : ∀ w, Calls Try.prog 45 #[.int .i64 1000000, .int .i64 u] w fun e w' => e = .returned (.tuple #[.int .i64 (if u = 20 then 25400 else 1000), .int .i64 0]) ∧ Qw w w' := fun w => by
      have := fxLength 1000000 u w
      rcases hu with rfl | rfl
      · rw [show lenv 1000000 20 = 25400 by decide +kernel, show lene 1000000 20 = 0 by decide +kernel] at this; rw [if_pos rfl]; exact this
      · rw [show lenv 1000000 21 = 1000 by decide +kernel, show lene 1000000 21 = 0 by decide +kernel] at this; rw [if_neg (by decide)]; exact this
    have LC := Lib.hid lc
    clear lc
    cases h : vld n
    · have e : Md.ree n u = 1 := if_neg (by rw [h]; simp)
      rw [show Md.rev n u = 0 from if_neg (by omega), e]
      have vv := fun w => fxValid n w
      rw [h] at vv
      have VV := Lib.hid vv
      clear e vv h
      generalize (if u = 20 then (25400 : Int) else 1000) = U at *
      go_enter Try.func29, Try.ntmps29
      go_wp2_with (first | (go_at_call 45; ((with_reducible refine (LC.out _).mono ?_); rintro e w' ⟨rfl, q⟩; replace q0 := Qw.trans q0 q; clear q)) | (go_at_call 46; ((with_reducible refine (VV.out _).mono ?_); rintro e w' ⟨rfl, rfl⟩)))
      go_ret2
      exact ⟨rfl, q0⟩
    · obtain ⟨a1, a2⟩ := vld_bd h
      obtain ⟨k, v⟩ := md_len n u h
      have c1 := fun w => muldivW n (if u = 20 then 25400 else 1000) 1000000 2 (by omega) (by omega) (by split <;> omega) (by split <;> omega) (by omega) (by omega) w
      rw [k, v] at c1
      have C1 := Lib.hid c1
      have vv := fun w => fxValid n w
      rw [h] at vv
      have VV := Lib.hid vv
      have e : Md.ree n u = if 1 ≤ ln n u ∧ ln n u ≤ 60000000 then 0 else 3 := if_pos ⟨h, hu⟩
      have e2 : Md.rev n u = if 1 ≤ ln n u ∧ ln n u ≤ 60000000 then ln n u else 0 := by unfold Md.rev; rw [e]; split <;> simp
      rw [e, e2]
      clear k v c1 e e2 vv h
      generalize ln n u = x at *
      generalize (if u = 20 then (25400 : Int) else 1000) = U at *
      by_cases c1 : x < 1
      · rw [if_neg (by omega), if_neg (by omega)]
        go_enter Try.func29, Try.ntmps29
        go_wp2_with (first | (go_at_call 45; ((with_reducible refine (LC.out _).mono ?_); rintro e w' ⟨rfl, q⟩; replace q0 := Qw.trans q0 q; clear q)) | (go_at_call 46; ((with_reducible refine (VV.out _).mono ?_); rintro e w' ⟨rfl, rfl⟩)) | (go_at_call 47; ((with_reducible refine (C1.out _).mono ?_); rintro e w' ⟨rfl, q⟩; replace q0 := Qw.trans q0 q; clear q)))
        go_ret2
        exact ⟨rfl, q0⟩
      · by_cases c2 : 60000000 < x
        · rw [if_neg (by omega), if_neg (by omega)]
          go_enter Try.func29, Try.ntmps29
          go_wp2_with (first | (go_at_call 45; ((with_reducible refine (LC.out _).mono ?_); rintro e w' ⟨rfl, q⟩; replace q0 := Qw.trans q0 q; clear q)) | (go_at_call 46; ((with_reducible refine (VV.out _).mono ?_); rintro e w' ⟨rfl, rfl⟩)) | (go_at_call 47; ((with_reducible refine (C1.out _).mono ?_); rintro e w' ⟨rfl, q⟩; replace q0 := Qw.trans q0 q; clear q)))
          go_ret2
          exact ⟨rfl, q0⟩
        · rw [if_pos (by omega), if_pos (by omega)]
          go_enter Try.func29, Try.ntmps29
          go_wp2_with (first | (go_at_call 45; ((with_reducible refine (LC.out _).mono ?_); rintro e w' ⟨rfl, q⟩; replace q0 := Qw.trans q0 q; clear q)) | (go_at_call 46; ((with_reducible refine (VV.out _).mono ?_); rintro e w' ⟨rfl, rfl⟩)) | (go_at_call 47; ((with_reducible refine (C1.out _).mono ?_); rintro e w' ⟨rfl, q⟩; replace q0 := Qw.trans q0 q; clear q)))
          go_ret2
          exact ⟨rfl, q0⟩
  · have e : Md.ree n u = 1 := if_neg (fun h => hu h.2)
    rw [show Md.rev n u = 0 from if_neg (by omega), e]
    have lc : ∀ w, Calls Try.prog 45 #[.int .i64 1000000, .int .i64 u] w fun e w' => e = .returned (.tuple #[.int .i64 0, .int .i64 1]) ∧ Qw w w' := fun w => by
      have := fxLength 1000000 u w
      have e : lene 1000000 u = 1 := if_neg (fun h => hu h.2)
      rw [show lenv 1000000 u = 0 from if_neg (by omega), e] at this
      exact this
    have LC := Lib.hid lc
    clear lc e
    go_enter Try.func29, Try.ntmps29
    go_wp2_with (go_at_call 45; ((with_reducible refine (LC.out _).mono ?_); rintro e w' ⟨rfl, q⟩; replace q0 := Qw.trans q0 q; clear q))
    go_ret2
    exact ⟨rfl, q0⟩
end Go.Proofs.Ytijakijjeoaikaa
