
/- The walks of the specification of modal groups: Has, Find, GroupOf, code, Check. -/
import Derived.Test.YtijakijjeoaikaaMrA
import Derived.Test.YtijakijjeoaikaaMdB
import Derived.Test.YtijakijjeoaikaaMdQ
set_option linter.unusedVariables false
set_option linter.unusedSimpArgs false
namespace Go.Proofs.Ytijakijjeoaikaa
open Go.RowKit

theorem has_ref (x y c k : Int) : (Md.isC (x, y) && decide (x = c) && decide (Md.cv (x, y) = k)) = (decide (x = c) && whole y && decide (wholev y = k) && (decide (c = 71) || decide (c = 77))) := by
  rw [(md_code x y).1, (md_code x y).2]
  by_cases e : x = c
  · subst e
    by_cases h : x = 71 ∨ x = 77
    · have : (decide (x = 71) || decide (x = 77)) = true := by simpa using h
      rw [if_pos h, if_pos h, this]
      simp
    · have : (decide (x = 71) || decide (x = 77)) = false := by simpa using h
      rw [if_neg h, if_neg h, this]
      simp
  · rw [decide_eq_false e]
    simp
set_option maxRecDepth 100000 in
set_option maxHeartbeats 4000000 in
theorem mrHas {C : Nat} {w : World} {v : Value} {l : Vs.Ar} (h : ValsB C w v l) (hC : C ≤ w.heap.size) (c k : Int) :
    Calls Try.prog 22 #[v, .int .i64 c, .int .i64 k] w fun e w' => e = .returned (.bool (Md.has l c k)) ∧ w = w' := by
  obtain ⟨a, cap, rfl, l1, l2, hA⟩ := h
  have HA := Lib.hid hA
  clear hA
  go_enter Try.func22, Try.ntmps22
  go_wp2
  go_loop [7] (fun iv => ∃ i : Nat, i ≤ l.length ∧ iv = .int .i64 (i : Int) ∧ Hid (Md.has l c k = Md.has (l.drop i) c k)) (fun iv => l.length - (intOf iv).toNat)
  case atStart => exact ⟨0, by omega, rfl, Lib.hid rfl⟩
  case round =>
    obtain ⟨i, hi, rfl, HE⟩ := hrel
    by_cases hlt : i < l.length
    · rcases HA.out with hn | ⟨b, off, rfl, hb, hc⟩
      · rw [hn] at hlt; simp at hlt
      · obtain ⟨d0, d1, _, _⟩ := hc i hlt
        have hD := v_drop l i hlt
        have hE := HE.out
        rw [hD, has_cons] at hE
        generalize Vs.ltr l i = x at *
        generalize Vs.num l i = y at *
        simp only at hE
        rw [has_ref] at hE
        have WW := Lib.hid (rxWhole y)
        generalize wholev y = n at *
        have hl1 : (i : Int) < (l.length : Int) := by omega
        clear hc hD HE
        by_cases hxc : x = c
        · subst hxc
          cases hw : whole y
          · rw [hw] at WW hE
            have HE3 : Hid (Md.has l x k = Md.has (l.drop (i + 1)) x k) := Lib.hid (hE.trans (by simp))
            clear hE hw
            go_wp2_with (go_at_call 41; ((with_reducible refine (WW.out _).mono ?_); rintro e w' ⟨rfl, rfl⟩))
            go_round
            case rel => exact ⟨i + 1, by omega, by go_num, HE3⟩
            case measure => simp [intOf]; omega
          · rw [hw] at WW hE
            clear hw
            by_cases hk : n = k
            · subst hk
              by_cases h1 : x = 71
              · have EE : Hid (Md.has l x n = true) := Lib.hid (hE.trans (by simp [h1]))
                subst h1
                clear hE
                go_wp2_with (go_at_call 41; ((with_reducible refine (WW.out _).mono ?_); rintro e w' ⟨rfl, rfl⟩))
                go_ret
                exact ⟨ret_bl EE.out.symm, rfl⟩
              · by_cases h2 : x = 77
                · have EE : Hid (Md.has l x n = true) := Lib.hid (hE.trans (by simp [h2]))
                  subst h2
                  clear hE
                  go_wp2_with (go_at_call 41; ((with_reducible refine (WW.out _).mono ?_); rintro e w' ⟨rfl, rfl⟩))
                  go_ret
                  exact ⟨ret_bl EE.out.symm, rfl⟩
                · have HE3 : Hid (Md.has l x n = Md.has (l.drop (i + 1)) x n) := Lib.hid (hE.trans (by simp [h1, h2]))
                  have z1 : (x == 71) = false := beq_eq_false_iff_ne.2 h1
                  have z2 : (x == 77) = false := beq_eq_false_iff_ne.2 h2
                  clear hE h1 h2
                  go_wp2_with (go_at_call 41; ((with_reducible refine (WW.out _).mono ?_); rintro e w' ⟨rfl, rfl⟩))
                  go_round
                  case rel => exact ⟨i + 1, by omega, by go_num, HE3⟩
                  case measure => simp [intOf]; omega
            · have HE3 : Hid (Md.has l x k = Md.has (l.drop (i + 1)) x k) := Lib.hid (hE.trans (by simp [hk]))
              have z : (n == k) = false := beq_eq_false_iff_ne.2 hk
              clear hE hk
              go_wp2_with (go_at_call 41; ((with_reducible refine (WW.out _).mono ?_); rintro e w' ⟨rfl, rfl⟩))
              go_round
              case rel => exact ⟨i + 1, by omega, by go_num, HE3⟩
              case measure => simp [intOf]; omega
        · have HE3 : Hid (Md.has l c k = Md.has (l.drop (i + 1)) c k) := Lib.hid (hE.trans (by simp [hxc]))
          have z : (x == c) = false := beq_eq_false_iff_ne.2 hxc
          clear hE hxc
          go_wp2_with (go_at_call 41; ((with_reducible refine (WW.out _).mono ?_); rintro e w' ⟨rfl, rfl⟩))
          go_round
          case rel => exact ⟨i + 1, by omega, by go_num, HE3⟩
          case measure => simp [intOf]; omega
    · obtain rfl : i = l.length := by omega
      have EE : Hid (Md.has l c k = false) := Lib.hid (HE.out.trans (by rw [List.drop_length]; rfl))
      clear hlt
      go_wp2
      go_ret
      exact ⟨ret_bl EE.out.symm, rfl⟩
set_option maxRecDepth 100000 in
set_option maxHeartbeats 1000000 in
theorem mrFind {C : Nat} {w : World} {v : Value} {l : Vs.Ar} (h : ValsB C w v l) (hC : C ≤ w.heap.size) (c : Int) :
    Calls Try.prog 24 #[v, .int .i64 c] w fun e w' => e = .returned (.tuple #[.int .i64 (Md.fv l c), .bool (Md.fo l c)]) ∧ w = w' := by
  obtain ⟨a, cap, rfl, l1, l2, hA⟩ := h
  have HA := Lib.hid hA
  clear hA
  go_enter Try.func24, Try.ntmps24
  go_wp2
  go_loop [6] (fun iv => ∃ i : Nat, i ≤ l.length ∧ iv = .int .i64 (i : Int) ∧ Hid (Md.fo l c = Md.fo (l.drop i) c ∧ Md.fv l c = Md.fv (l.drop i) c)) (fun iv => l.length - (intOf iv).toNat)
  case atStart => exact ⟨0, by omega, rfl, Lib.hid ⟨rfl, rfl⟩⟩
  case round =>
    obtain ⟨i, hi, rfl, HE⟩ := hrel
    by_cases hlt : i < l.length
    · rcases HA.out with hn | ⟨b, off, rfl, hb, hc⟩
      · rw [hn] at hlt; simp at hlt
      · obtain ⟨d0, d1, _, _⟩ := hc i hlt
        have hD := v_drop l i hlt
        have hE := HE.out
        rw [hD, (fo_cons _ _ _).1, (fo_cons _ _ _).2] at hE
        generalize Vs.ltr l i = x at *
        generalize Vs.num l i = y at *
        simp only at hE
        have HE2 := Lib.hid hE
        have hl1 : (i : Int) < (l.length : Int) := by omega
        clear hc hD hE HE
        by_cases hxc : x = c
        · subst hxc
          have EE : Hid (Md.fo l x = true ∧ Md.fv l x = y) := Lib.hid ⟨HE2.out.1.trans (by simp), HE2.out.2.trans (by simp)⟩
          go_wp2
          go_ret2
          exact ⟨ret_ib2 EE.out.2.symm EE.out.1.symm, rfl⟩
        · have z2 : (x == c) = false := beq_eq_false_iff_ne.2 hxc
          have HE3 : Hid (Md.fo l c = Md.fo (l.drop (i + 1)) c ∧ Md.fv l c = Md.fv (l.drop (i + 1)) c) := Lib.hid ⟨HE2.out.1.trans (by simp [hxc]), HE2.out.2.trans (by simp [hxc])⟩
          clear hxc
          go_wp2
          go_round
          case rel => exact ⟨i + 1, by omega, by go_num, HE3⟩
          case measure => simp [intOf]; omega
    · obtain rfl : i = l.length := by omega
      have EE : Hid (Md.fo l c = false ∧ Md.fv l c = 0) := Lib.hid ⟨HE.out.1.trans (by rw [List.drop_length]; rfl), HE.out.2.trans (by rw [List.drop_length]; rfl)⟩
      go_wp2
      go_ret2
      exact ⟨ret_ib2 EE.out.2.symm EE.out.1.symm, rfl⟩
set_option maxRecDepth 100000 in
set_option maxHeartbeats 1000000 in
theorem mrGroupOf {C : Nat} {w : World} {v : Value} {l : Vs.Ar} (h : ValsB C w v l) (hC : C ≤ w.heap.size) (g : Int) (hg0 : g ≠ 0) :
    Calls Try.prog 44 #[v, .int .i64 g] w fun e w' => e = .returned (.int .i64 (Md.gcd l g)) ∧ Qw w w' := by
  obtain ⟨a, cap, rfl, l1, l2, hA⟩ := h
  have HA := Lib.hid hA
  clear hA
  go_enter Try.func44, Try.ntmps44
  go_wp2
  go_loopw [5] (fun iv wr => ∃ i : Nat, i ≤ l.length ∧ iv = .int .i64 (i : Int) ∧ Hid (Md.gcd l g = Md.gcd (l.drop i) g) ∧ Hid (Qw w wr)) (fun iv _ => l.length - (intOf iv).toNat)
  case atStart => exact ⟨0, by omega, rfl, Lib.hid rfl, Lib.hid (Qw.refl w)⟩
  case round =>
    obtain ⟨i, hi, rfl, HE, HQ⟩ := hrel
    by_cases hlt : i < l.length
    · rcases HA.out with hn | ⟨b, off, rfl, hb, hc⟩
      · rw [hn] at hlt; simp at hlt
      · obtain ⟨c0, c1, _, _⟩ := hc i hlt
        have d0 := (HQ.out.cell (p := ⟨b, off + i * 2, none⟩) (by show b < w.heap.size; omega)).trans c0
        have d1 := (HQ.out.cell (p := ⟨b, off + i * 2 + 1, none⟩) (by show b < w.heap.size; omega)).trans c1
        have hD := v_drop l i hlt
        have hE := HE.out
        rw [hD, Md.gcd_cons] at hE
        generalize Vs.ltr l i = x at *
        generalize Vs.num l i = y at *
        have hR := Md.gof_ref (x, y) g hg0
        simp only at hR
        have hP := fun (e : Md.gof (x, y) = g) => (Md.gof_pos (p := (x, y)) (by omega))
        have hcv := (md_code x y).1
        have WW := Lib.hid (rxWhole y)
        have GG := Lib.hid (mrGroup x (wholev y))
        have hl1 : (i : Int) < (l.length : Int) := by omega
        have hG0 := Lib.hid hg0
        clear hc hD HE c0 c1 hg0
        cases hw : whole y
        · rw [hw] at WW hR
          have HE3 : Hid (Md.gcd l g = Md.gcd (l.drop (i + 1)) g) := Lib.hid (hE.trans (if_neg (by intro e; rw [decide_eq_true e] at hR; cases hR)))
          clear hE hw hR hP hcv
          generalize wholev y = n at *
          go_wp2_with (go_at_call 41; ((with_reducible refine (WW.out _).mono ?_); rintro e w' ⟨rfl, rfl⟩))
          go_roundw
          case rel => exact ⟨i + 1, by omega, by go_num, HE3, HQ⟩
          case measure => simp [intOf]; omega
        · rw [hw] at WW hR
          clear hw
          by_cases hgg : Md.grp x (wholev y) = g
          · rw [decide_eq_true hgg] at hR
            have e := of_decide_eq_true hR.symm
            have k := hP e
            have hx : x = 71 ∨ x = 77 := Md.gof_gm (p := (x, y)) (by have := hG0.out; omega)
            rw [if_pos hx] at hcv
            have EE : Hid (Md.gcd l g = wholev y) := Lib.hid ((hE.trans (if_pos e)).trans hcv)
            rw [hgg] at GG
            clear hE hR hP hcv e k hx hgg
            generalize wholev y = n at *
            go_wp2_with (first | (go_at_call 41; ((with_reducible refine (WW.out _).mono ?_); rintro e w' ⟨rfl, rfl⟩)) | (go_at_call 20; ((with_reducible refine (GG.out _).mono ?_); rintro e w3 ⟨rfl, q⟩; have Q3 := Lib.hid (Qw.trans HQ.out q); clear q)))
            go_ret
            exact ⟨ret_in EE.out.symm, Q3.out⟩
          · rw [decide_eq_false hgg] at hR
            have e := of_decide_eq_false hR.symm
            have HE3 : Hid (Md.gcd l g = Md.gcd (l.drop (i + 1)) g) := Lib.hid (hE.trans (if_neg e))
            clear hE hR hP hcv e
            generalize Md.grp x (wholev y) = gg at *
            generalize wholev y = n at *
            have z : (gg == g) = false := beq_eq_false_iff_ne.2 hgg
            clear hgg
            go_wp2_with (first | (go_at_call 41; ((with_reducible refine (WW.out _).mono ?_); rintro e w' ⟨rfl, rfl⟩)) | (go_at_call 20; ((with_reducible refine (GG.out _).mono ?_); rintro e w3 ⟨rfl, q⟩; have Q3 := Lib.hid (Qw.trans HQ.out q); clear q)))
            go_roundw
            case rel => exact ⟨i + 1, by omega, by go_num, HE3, Q3⟩
            case measure => simp [intOf]; omega
    · obtain rfl : i = l.length := by omega
      have EE : Hid (Md.gcd l g = -1) := Lib.hid (HE.out.trans (by rw [List.drop_length]; rfl))
      clear hlt
      go_wp2
      go_ret
      exact ⟨ret_in EE.out.symm, HQ.out⟩
theorem mrCode {C : Nat} {w : World} {v : Value} {l : Vs.Ar} (h : ValsB C w v l) (hC : C ≤ w.heap.size) (g was : Int) (hg0 : g ≠ 0) :
    Calls Try.prog 52 #[v, .int .i64 g, .int .i64 was] w fun e w' => e = .returned (.int .i64 (if 0 ≤ Md.gcd l g then Md.gcd l g else was)) ∧ Qw w w' := by
  have GG := Lib.hid (mrGroupOf h hC g hg0)
  have b := Md.gcd_bd l g hg0
  clear h
  generalize Md.gcd l g = x at *
  by_cases hx : 0 ≤ x
  · rw [if_pos hx]
    go_enter Try.func52, Try.ntmps52
    go_wp2_with (go_at_call 44; ((with_reducible refine (GG.out).mono ?_); rintro e w3 ⟨rfl, q⟩; have Q3 := Lib.hid q; clear q))
    go_ret
    exact ⟨rfl, Q3.out⟩
  · rw [if_neg hx]
    go_enter Try.func52, Try.ntmps52
    go_wp2_with (go_at_call 44; ((with_reducible refine (GG.out).mono ?_); rintro e w3 ⟨rfl, q⟩; have Q3 := Lib.hid q; clear q))
    go_ret
    exact ⟨rfl, Q3.out⟩
end Go.Proofs.Ytijakijjeoaikaa
