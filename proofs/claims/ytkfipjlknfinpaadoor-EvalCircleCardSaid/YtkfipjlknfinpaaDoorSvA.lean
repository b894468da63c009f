
/- Package syntax: which expressions are right; their depth. -/
import Derived.Test.YtkfipjlknfinpaaDoorSYB
import Derived.Test.YtkfipjlknfinpaaDoorQdeep
set_option linter.unusedVariables false
set_option linter.unusedSimpArgs false
namespace Go.Proofs.YtkfipjlknfinpaaDoor
open Go.RowKit

namespace Sy
/-- rightWithin. -/
def rgw : Nat → Ex → Bool
  | 0, _ => false
  | k + 1, x => nodeB x.op x.n x.ks.length && x.ks.all (rgw k)

theorem dmx_le {l : List Nat} {k : Nat} : dmx l ≤ k ↔ ∀ d ∈ l, d ≤ k := by
  induction l with
  | nil => simp [dmx]
  | cons d l ih => simp only [dmx, List.mem_cons, forall_eq_or_imp, ← ih]; omega
theorem rgw_eq (k : Nat) : ∀ x, rgw k x = (okx x && decide (dpt x ≤ k)) := by
  induction k with
  | zero =>
    intro x
    obtain ⟨op, n, ks⟩ := x
    rw [dpt_mk, decide_eq_false (by omega), Bool.and_false]; rfl
  | succ k ih =>
    intro x
    obtain ⟨op, n, ks⟩ := x
    rw [rgw, okx_mk, dpt_mk]
    show (nodeB op n ks.length && ks.all (rgw k)) = _
    rw [Bool.and_assoc]
    congr 1
    rw [Bool.eq_iff_iff]
    simp only [List.all_eq_true, Bool.and_eq_true, decide_eq_true_eq]
    constructor
    · intro h
      refine ⟨fun x hx => ?_, ?_⟩
      · have := h x hx; rw [ih] at this; simp at this; exact this.1
      · have : dmx (ks.map dpt) ≤ k := dmx_le.2 fun d hd => by
          obtain ⟨x, hx, rfl⟩ := List.mem_map.1 hd
          have := h x hx; rw [ih] at this; simp at this; exact this.2
        omega
    · rintro ⟨h1, h2⟩ x hx
      rw [ih]
      have : dpt x ≤ k := dmx_le.1 (show dmx (ks.map dpt) ≤ k by omega) _ (List.mem_map_of_mem hx)
      simp [h1 x hx, this]
theorem rgt_eq (x : Ex) : rgw 16 x = rgt x := rgw_eq 16 x
end Sy

theorem node_no {op n : Int} {k : Nat} (h : op < 0 ∨ 26 ≤ op) : Sy.nodeB op n k = false := by
  unfold Sy.nodeB
  rcases h with h | h
  · rw [decide_eq_false (show ¬ 0 ≤ op by omega)]; rfl
  · rw [decide_eq_false (show ¬ op ≤ 25 by omega), Bool.and_false]; rfl
theorem node_len {o : Nat} {n : Int} {k : Nat} (h : k ≠ Sy.kds o) : Sy.nodeB (o : Int) n k = false := by
  unfold Sy.nodeB
  rw [show ((o : Int)).toNat = o by omega, decide_eq_false h, Bool.and_false]; rfl
theorem node_num {o : Nat} {n : Int} {k : Nat} (h : n ≠ 0) (h' : o ≠ 0 ∨ n < 0 ∨ 1000000000000000 ≤ n) : Sy.nodeB (o : Int) n k = false := by
  unfold Sy.nodeB
  rw [decide_eq_false h, Bool.false_or]
  have : (decide ((o : Int) = 0) && decide (0 ≤ n) && decide (n < 1000000000000000)) = false := by
    simp; omega
  rw [this, Bool.and_false]
theorem node_yes {o : Nat} {n : Int} {k : Nat} (ho : o < 26) (hk : k = Sy.kds o) (h : n = 0 ∨ (o = 0 ∧ 0 ≤ n ∧ n < 1000000000000000)) : Sy.nodeB (o : Int) n k = true := by
  unfold Sy.nodeB
  rw [show ((o : Int)).toNat = o by omega, decide_eq_true hk, decide_eq_true (show (0 : Int) ≤ o by omega), decide_eq_true (show (o : Int) ≤ 25 by omega)]
  simp; omega

set_option maxRecDepth 100000 in
set_option maxHeartbeats 4000000 in
theorem sv_rightWithin (k : Nat) : ∀ (op n : Int) (ks : List Sy.Ex) (a : Option Addr) (cap : Nat) (S : Nat → Prop) (w : World), k ≤ 16 → Ow w → KidsB w S a cap ks →
    Calls Tryd.prog 42 #[.agg #[.int .i64 op, .int .i64 n, .slice a ks.length cap], .int .i64 (k : Int)] w fun e w' => e = .returned (.bool (Sy.rgw k (.mk op n ks))) ∧ Qw w w' := by
  induction k with
  | zero =>
    intro op n ks a cap S w _ hO hk
    obtain ⟨l1, l2⟩ := hk.cap
    clear hO hk
    go_enter Tryd.func42, Tryd.ntmps42
    go_wp2_with fail
    refine region_deep (by kernel_rfl) (by as_aux_lemma => kernel_rfl) ?_
    repeat (go_big_quiet_step (fail))
    refine wpQuiet_nil ?_
    intro _ hw'
    obtain ⟨nq, hw''⟩ := hw'
    subst hw''
    go_wp2_with fail
    go_ret
    exact ⟨rfl, (by repeat (first | exact q0.out | exact Qw.refl _ | refine Qw.al ?_ _ | refine Qw.dr ?_ | refine Qw.dn ?_ _ | refine Qw.sc ?_ (by first | (simp; done) | omega | (have := q0.out.size; first | omega | (simp; omega))) _))⟩
  | succ k ih =>
    intro op n ks a cap S w hk16 hO hk
    obtain ⟨l1, l2⟩ := hk.cap
    have k1 : ((k + 1 : Nat) : Int) = (k : Int) + 1 := by omega
    rw [k1]
    have b0 : ((k : Int) + 1 == 0) = false := beq_eq_false_iff_ne.2 (by omega)
    have hg := hO.1
    by_cases c1 : op < 0
    · have e : Sy.rgw (k + 1) (.mk op n ks) = false := by rw [Sy.rgw]; show (Sy.nodeB op n ks.length && _) = _; rw [node_no (.inl c1)]; rfl
      rw [e]
      have d1 : decide (op < 0) = true := decide_eq_true c1
      clear e hO hk ih k1 hg
      go_enter Tryd.func42, Tryd.ntmps42
      go_wp2_with fail
      refine region_deep (by kernel_rfl) (by as_aux_lemma => kernel_rfl) ?_
      repeat (go_big_quiet_step (fail))
      refine wpQuiet_nil ?_
      intro _ hw'
      obtain ⟨nq, hw''⟩ := hw'
      subst hw''
      go_wp2_with fail
      go_ret
      exact ⟨rfl, (by repeat (first | exact q0.out | exact Qw.refl _ | refine Qw.al ?_ _ | refine Qw.dr ?_ | refine Qw.dn ?_ _ | refine Qw.sc ?_ (by first | (simp; done) | omega | (have := q0.out.size; first | omega | (simp; omega))) _))⟩
    · have d1 : decide (op < 0) = false := decide_eq_false c1
      by_cases c2 : 26 ≤ op
      · have e : Sy.rgw (k + 1) (.mk op n ks) = false := by rw [Sy.rgw]; show (Sy.nodeB op n ks.length && _) = _; rw [node_no (.inr c2)]; rfl
        rw [e]
        have d2 : decide (26 ≤ op) = true := decide_eq_true c2
        clear e hO hk ih k1 hg
        go_enter Tryd.func42, Tryd.ntmps42
        go_wp2_with fail
        refine region_deep (by kernel_rfl) (by as_aux_lemma => kernel_rfl) ?_
        repeat (go_big_quiet_step (fail))
        refine wpQuiet_nil ?_
        intro _ hw'
        obtain ⟨nq, hw''⟩ := hw'
        subst hw''
        go_wp2_with fail
        go_ret
        exact ⟨rfl, (by repeat (first | exact q0.out | exact Qw.refl _ | refine Qw.al ?_ _ | refine Qw.dr ?_ | refine Qw.dn ?_ _ | refine Qw.sc ?_ (by first | (simp; done) | omega | (have := q0.out.size; first | omega | (simp; omega))) _))⟩
      · have d2 : decide (26 ≤ op) = false := decide_eq_false c2
        obtain ⟨o, rfl⟩ : ∃ o : Nat, op = (o : Int) := ⟨op.toNat, by omega⟩
        have ho : o < 26 := by omega
        have ho2 : (o : Int) < 26 := by omega
        have oc := (hO.2 o ho).2
        clear c1 c2
        by_cases c3 : ks.length = Sy.kds o
        · by_cases c5 : o = 0
          · subst c5
            obtain rfl : ks = [] := List.eq_nil_of_length_eq_zero c3
            have oc0 : w.cell? ⟨0, 1, none⟩ = some (.int .i64 0) := oc
            show Calls Tryd.prog 42 #[.agg #[.int .i64 0, .int .i64 n, .slice a 0 cap], .int .i64 ((k : Int) + 1)] w fun e w' => e = .returned (.bool (Sy.rgw (k + 1) (.mk 0 n []))) ∧ Qw w w'
            clear d1 d2 oc c3 l1 ho ho2
            by_cases c4 : n = 0
            · subst c4
              have e : Sy.rgw (k + 1) (.mk 0 0 []) = true := by rw [Sy.rgw]; show (Sy.nodeB 0 0 ([] : List Sy.Ex).length && true) = _; rw [show Sy.nodeB 0 0 ([] : List Sy.Ex).length = true from node_yes (o := 0) (by decide) (by decide) (.inl rfl)]; rfl
              rw [e]
              clear e hO hk ih k1
              go_enter Tryd.func42, Tryd.ntmps42
              go_wp2_with fail
              refine region_deep (by kernel_rfl) (by as_aux_lemma => kernel_rfl) ?_
              repeat (go_big_quiet_step (fail))
              refine wpQuiet_nil ?_
              intro _ hw'
              obtain ⟨nq, hw''⟩ := hw'
              subst hw''
              go_wp2_with fail
              have QS : Hid (Qw w ((w.alloc (.cells #[.int .i64 0, .int .i64 0, .slice a 0 cap] 31)).drewN nq)) := Lib.hid (bel_drewN ((Below.refl _ _).alloc (Nat.le_refl _) _) _)
              go_loopg [51] 0 (fun g iv wr => iv = .int .i64 0 ∧ Qw w wr)
              case atStart => exact ⟨rfl, QS.out⟩
              case round =>
                obtain ⟨rfl, hQ⟩ := hrel
                have q0 := Lib.hid hQ
                clear hQ QS
                go_wp2_with fail
                go_ret
                exact ⟨rfl, q0.out⟩
            · have f1 : (n != 0) = true := by simpa using c4
              by_cases c6 : n < 0
              · have f2 : decide (n < 0) = true := decide_eq_true c6
                have e : Sy.rgw (k + 1) (.mk 0 n []) = false := by rw [Sy.rgw]; show (Sy.nodeB 0 n ([] : List Sy.Ex).length && _) = _; rw [show Sy.nodeB 0 n ([] : List Sy.Ex).length = false from node_num (o := 0) c4 (.inr (.inl c6))]; rfl
                rw [e]
                clear e hO hk ih k1
                go_enter Tryd.func42, Tryd.ntmps42
                go_wp2_with fail
                refine region_deep (by kernel_rfl) (by as_aux_lemma => kernel_rfl) ?_
                repeat (go_big_quiet_step (fail))
                refine wpQuiet_nil ?_
                intro _ hw'
                obtain ⟨nq, hw''⟩ := hw'
                subst hw''
                go_wp2_with fail
                go_ret
                exact ⟨rfl, (by repeat (first | exact q0.out | exact Qw.refl _ | refine Qw.al ?_ _ | refine Qw.dr ?_ | refine Qw.dn ?_ _ | refine Qw.sc ?_ (by first | (simp; done) | omega | (have := q0.out.size; first | omega | (simp; omega))) _))⟩
              · have f2 : decide (n < 0) = false := decide_eq_false c6
                by_cases c7 : 1000000000000000 ≤ n
                · have f3 : decide (1000000000000000 ≤ n) = true := decide_eq_true c7
                  have e : Sy.rgw (k + 1) (.mk 0 n []) = false := by rw [Sy.rgw]; show (Sy.nodeB 0 n ([] : List Sy.Ex).length && _) = _; rw [show Sy.nodeB 0 n ([] : List Sy.Ex).length = false from node_num (o := 0) c4 (.inr (.inr c7))]; rfl
                  rw [e]
                  clear e hO hk ih k1
                  go_enter Tryd.func42, Tryd.ntmps42
                  go_wp2_with fail
                  refine region_deep (by kernel_rfl) (by as_aux_lemma => kernel_rfl) ?_
                  repeat (go_big_quiet_step (fail))
                  refine wpQuiet_nil ?_
                  intro _ hw'
                  obtain ⟨nq, hw''⟩ := hw'
                  subst hw''
                  go_wp2_with fail
                  go_ret
                  exact ⟨rfl, (by repeat (first | exact q0.out | exact Qw.refl _ | refine Qw.al ?_ _ | refine Qw.dr ?_ | refine Qw.dn ?_ _ | refine Qw.sc ?_ (by first | (simp; done) | omega | (have := q0.out.size; first | omega | (simp; omega))) _))⟩
                · have f3 : decide (1000000000000000 ≤ n) = false := decide_eq_false c7
                  have e : Sy.rgw (k + 1) (.mk 0 n []) = true := by rw [Sy.rgw]; show (Sy.nodeB 0 n ([] : List Sy.Ex).length && true) = _; rw [show Sy.nodeB 0 n ([] : List Sy.Ex).length = true from node_yes (o := 0) (by decide) (by decide) (.inr ⟨rfl, by omega, by omega⟩)]; rfl
                  rw [e]
                  clear e hO hk ih k1
                  go_enter Tryd.func42, Tryd.ntmps42
                  go_wp2_with fail
                  refine region_deep (by kernel_rfl) (by as_aux_lemma => kernel_rfl) ?_
                  repeat (go_big_quiet_step (fail))
                  refine wpQuiet_nil ?_
                  intro _ hw'
                  obtain ⟨nq, hw''⟩ := hw'
                  subst hw''
                  go_wp2_with fail
                  have QS : Hid (Qw w ((w.alloc (.cells #[.int .i64 0, .int .i64 n, .slice a 0 cap] 31)).drewN nq)) := Lib.hid (bel_drewN ((Below.refl _ _).alloc (Nat.le_refl _) _) _)
                  go_loopg [51] 0 (fun g iv wr => iv = .int .i64 0 ∧ Qw w wr)
                  case atStart => exact ⟨rfl, QS.out⟩
                  case round =>
                    obtain ⟨rfl, hQ⟩ := hrel
                    have q0 := Lib.hid hQ
                    clear hQ QS
                    go_wp2_with fail
                    go_ret
                    exact ⟨rfl, q0.out⟩
          · have f2 : ((o : Int) != 0) = true := by simpa using c5
            have d3 : ((ks.length : Int) != (Sy.kds o : Nat)) = false := by rw [c3]; simp
            by_cases c4 : n = 0
            · subst c4
              have hn : Sy.nodeB (o : Int) 0 ks.length = true := node_yes ho c3 (.inl rfl)
              have hR : Sy.rgw (k + 1) (.mk (o : Int) 0 ks) = ks.all (Sy.rgw k) := by rw [Sy.rgw]; show (Sy.nodeB (o : Int) 0 ks.length && _) = _; rw [hn]; rfl
              rw [hR]
              have HK := Lib.hid hk
              have HO := Lib.hid hO
              have IH := Lib.hid ih
              clear hR hn hk hO ih k1 c3
              go_enter Tryd.func42, Tryd.ntmps42
              go_wp2_with fail
              refine region_deep (by kernel_rfl) (by as_aux_lemma => kernel_rfl) ?_
              repeat (go_big_quiet_step (fail))
              refine wpQuiet_nil ?_
              intro _ hw'
              obtain ⟨nq, hw''⟩ := hw'
              subst hw''
              go_wp2_with fail
              have QS : Hid (Qw w ((w.alloc (.cells #[.int .i64 (o : Int), .int .i64 0, .slice a ks.length cap] 31)).drewN nq)) := Lib.hid (bel_drewN ((Below.refl _ _).alloc (Nat.le_refl _) _) _)
              go_loopg [51] ks.length (fun g iv wr => ∃ i : Nat, i ≤ ks.length ∧ g = ks.length - i ∧ iv = .int .i64 (i : Int) ∧ Hid ((ks.take i).all (Sy.rgw k) = true) ∧ Qw w wr)
              case atStart => exact ⟨0, Nat.zero_le _, rfl, rfl, Lib.hid (by simp), QS.out⟩
              case round =>
                obtain ⟨i, hi, rfl, rfl, hT, hQ⟩ := hrel
                have q0 := Lib.hid hQ
                by_cases hlt : i < ks.length
                · have hKr := HK.out.kept hQ
                  clear hQ QS
                  cases hKr with
                  | nl => simp at hlt
                  | mk b off cap ks ad cc hS h1 h2 hc hkk =>
                    obtain ⟨z0, z1, z2⟩ := hc i hlt
                    have KK := Lib.hid (hkk i hlt)
                    have hi2 : (i : Int) < (ks.length : Int) := by omega
                    have cr := fun w1 (h : KidsB w1 S (ad i) (cc i) ks[i].ks) (hO : Ow w1) => IH.out ks[i].op ks[i].n ks[i].ks (ad i) (cc i) S w1 (by omega) hO h
                    have eX : Sy.rgw k (.mk ks[i].op ks[i].n ks[i].ks) = Sy.rgw k ks[i] := by cases ks[i]; rfl
                    rw [eX] at cr
                    have bl := cell_lt z0
                    have hne : b ≠ wr.heap.size := by omega
                    cases eR : Sy.rgw k ks[i] with
                    | false =>
                      rw [eR] at cr
                      have eA : Hid (ks.all (Sy.rgw k) = false) := Lib.hid (by rw [List.all_eq_false]; exact ⟨ks[i], List.getElem_mem hlt, by rw [eR]; decide⟩)
                      have CR := Lib.hid cr
                      clear cr eX eR hc hkk
                      go_wp2_with (go_at_call 42; ((with_reducible refine (CR.out _ (KidsB.kept KK.out (by repeat (first | exact q0.out | exact Qw.refl _ | refine Qw.al ?_ _ | refine Qw.dr ?_ | refine Qw.dn ?_ _ | refine Qw.sc ?_ (by first | (simp; done) | omega | (have := q0.out.size; first | omega | (simp; omega))) _))) (Ow.kept HO.out (by repeat (first | exact q0.out | exact Qw.refl _ | refine Qw.al ?_ _ | refine Qw.dr ?_ | refine Qw.dn ?_ _ | refine Qw.sc ?_ (by first | (simp; done) | omega | (have := q0.out.size; first | omega | (simp; omega))) _)))).mono ?_); rintro e w' ⟨rfl, q⟩; replace q0 : Hid (Qw w w') := Lib.hid (Qw.trans (by repeat (first | exact q0.out | exact Qw.refl _ | refine Qw.al ?_ _ | refine Qw.dr ?_ | refine Qw.dn ?_ _ | refine Qw.sc ?_ (by first | (simp; done) | omega | (have := q0.out.size; first | omega | (simp; omega))) _)) q); clear q))
                      go_ret
                      exact ⟨ret_bool5 eA.out.symm, q0.out⟩
                    | true =>
                      rw [eR] at cr
                      have hT' : Hid ((ks.take (i + 1)).all (Sy.rgw k) = true) := Lib.hid (by rw [List.take_succ_eq_append_getElem hlt, List.all_append, hT.out]; simp [eR])
                      have CR := Lib.hid cr
                      clear cr eX eR hc hkk hT
                      go_wp2_with (go_at_call 42; ((with_reducible refine (CR.out _ (KidsB.kept KK.out (by repeat (first | exact q0.out | exact Qw.refl _ | refine Qw.al ?_ _ | refine Qw.dr ?_ | refine Qw.dn ?_ _ | refine Qw.sc ?_ (by first | (simp; done) | omega | (have := q0.out.size; first | omega | (simp; omega))) _))) (Ow.kept HO.out (by repeat (first | exact q0.out | exact Qw.refl _ | refine Qw.al ?_ _ | refine Qw.dr ?_ | refine Qw.dn ?_ _ | refine Qw.sc ?_ (by first | (simp; done) | omega | (have := q0.out.size; first | omega | (simp; omega))) _)))).mono ?_); rintro e w' ⟨rfl, q⟩; replace q0 : Hid (Qw w w') := Lib.hid (Qw.trans (by repeat (first | exact q0.out | exact Qw.refl _ | refine Qw.al ?_ _ | refine Qw.dr ?_ | refine Qw.dn ?_ _ | refine Qw.sc ?_ (by first | (simp; done) | omega | (have := q0.out.size; first | omega | (simp; omega))) _)) q); clear q))
                      go_roundg (ks.length - (i + 1))
                      case measure => omega
                      case rel => exact ⟨i + 1, by omega, rfl, by go_num, hT', q0.out⟩
                · obtain rfl : i = ks.length := by omega
                  clear hQ QS
                  have hb : ¬ (ks.length : Int) < (ks.length : Int) := by omega
                  go_wp2_with fail
                  go_ret
                  exact ⟨ret_bool5 (by have := hT.out; rw [List.take_length] at this; exact this.symm), q0.out⟩
            · have f1 : (n != 0) = true := by simpa using c4
              have e : Sy.rgw (k + 1) (.mk (o : Int) n ks) = false := by rw [Sy.rgw]; show (Sy.nodeB (o : Int) n (ks : List Sy.Ex).length && _) = _; rw [node_num c4 (.inl c5)]; rfl
              rw [e]
              clear e hO hk ih k1
              go_enter Tryd.func42, Tryd.ntmps42
              go_wp2_with fail
              refine region_deep (by kernel_rfl) (by as_aux_lemma => kernel_rfl) ?_
              repeat (go_big_quiet_step (fail))
              refine wpQuiet_nil ?_
              intro _ hw'
              obtain ⟨nq, hw''⟩ := hw'
              subst hw''
              go_wp2_with fail
              go_ret
              exact ⟨rfl, (by repeat (first | exact q0.out | exact Qw.refl _ | refine Qw.al ?_ _ | refine Qw.dr ?_ | refine Qw.dn ?_ _ | refine Qw.sc ?_ (by first | (simp; done) | omega | (have := q0.out.size; first | omega | (simp; omega))) _))⟩
        · have d3 : ((ks.length : Int) != (Sy.kds o : Nat)) = true := by simp; omega
          have e : Sy.rgw (k + 1) (.mk (o : Int) n ks) = false := by rw [Sy.rgw]; show (Sy.nodeB (o : Int) n ks.length && _) = _; rw [node_len c3]; rfl
          rw [e]
          clear e hO hk ih k1
          go_enter Tryd.func42, Tryd.ntmps42
          go_wp2_with fail
          refine region_deep (by kernel_rfl) (by as_aux_lemma => kernel_rfl) ?_
          repeat (go_big_quiet_step (fail))
          refine wpQuiet_nil ?_
          intro _ hw'
          obtain ⟨nq, hw''⟩ := hw'
          subst hw''
          go_wp2_with fail
          go_ret
          exact ⟨rfl, (by repeat (first | exact q0.out | exact Qw.refl _ | refine Qw.al ?_ _ | refine Qw.dr ?_ | refine Qw.dn ?_ _ | refine Qw.sc ?_ (by first | (simp; done) | omega | (have := q0.out.size; first | omega | (simp; omega))) _))⟩

end Go.Proofs.YtkfipjlknfinpaaDoor
