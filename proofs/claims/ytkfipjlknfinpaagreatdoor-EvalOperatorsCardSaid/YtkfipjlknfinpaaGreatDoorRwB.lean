
/- The specification of package syntax: which expressions are right. -/
import Derived.Test.YtkfipjlknfinpaaGreatDoorRwA
set_option linter.unusedVariables false
set_option linter.unusedSimpArgs false
namespace Go.Proofs.YtkfipjlknfinpaaGreatDoor
open Go.RowKit

set_option maxRecDepth 100000 in
set_option maxHeartbeats 4000000 in
theorem rw_rightWithin (k : Nat) : ∀ (op n : Int) (ks : List Sy.Ex) (a : Option Addr) (cap : Nat) (S : Nat → Prop) (w : World), k ≤ 16 → KidsB w S a cap ks →
    Calls Tryz.prog 31 #[.agg #[.int .i64 op, .int .i64 n, .slice a ks.length cap], .int .i64 (k : Int)] w fun e w' => e = .returned (.bool (Sy.rgw k (.mk op n ks))) ∧ Qw w w' := by
  induction k with
  | zero =>
    intro op n ks a cap S w _ hk
    obtain ⟨l1, l2⟩ := hk.cap
    have KD : Hid (∀ w : World, Calls Tryz.prog 60 #[.int .i64 0] w fun e w' => e = .returned (.int .i64 0) ∧ w = w') := Lib.hid fun w => rw_kids0 rfl w
    clear hk
    go_enter Tryz.func31, Tryz.ntmps31
    go_wp2_with fail
    refine region_deep (by kernel_rfl) (by as_aux_lemma => kernel_rfl) ?_
    repeat (go_big_quiet_step ((go_at_call 60; exact Calls.quiet_of_same ((KD.out _).mono fun _ _ ⟨h1, h2⟩ => ⟨h1, h2.symm⟩))))
    refine wpQuiet_nil ?_
    intro _ hw'
    obtain ⟨nq, hw''⟩ := hw'
    subst hw''
    go_wp2_with fail
    go_ret
    exact ⟨rfl, (by repeat (first | exact q0.out | exact Qw.refl _ | refine Qw.al ?_ _ | refine Qw.dr ?_ | refine Qw.dn ?_ _ | refine Qw.sc ?_ (by first | (simp; done) | omega | (have := q0.out.size; first | omega | (simp; omega))) _))⟩
  | succ k ih =>
    intro op n ks a cap S w hk16 hk
    obtain ⟨l1, l2⟩ := hk.cap
    have k1 : ((k + 1 : Nat) : Int) = (k : Int) + 1 := by omega
    rw [k1]
    have b0 : decide ((k : Int) + 1 < 1) = false := decide_eq_false (by omega)
    by_cases c1 : op < 0
    · have e : Sy.rgw (k + 1) (.mk op n ks) = false := by rw [Sy.rgw]; show (Sy.nodeB op n ks.length && _) = _; rw [node_no (.inl c1)]; rfl
      rw [e]
      have d1 : decide (op < 0) = true := decide_eq_true c1
      have KD : Hid (∀ w : World, Calls Tryz.prog 60 #[.int .i64 0] w fun e w' => e = .returned (.int .i64 0) ∧ w = w') := Lib.hid fun w => rw_kids0 rfl w
      clear e hk ih k1
      go_enter Tryz.func31, Tryz.ntmps31
      go_wp2_with fail
      refine region_deep (by kernel_rfl) (by as_aux_lemma => kernel_rfl) ?_
      repeat (go_big_quiet_step ((go_at_call 60; exact Calls.quiet_of_same ((KD.out _).mono fun _ _ ⟨h1, h2⟩ => ⟨h1, h2.symm⟩))))
      refine wpQuiet_nil ?_
      intro _ hw'
      obtain ⟨nq, hw''⟩ := hw'
      subst hw''
      go_wp2_with fail
      go_ret
      exact ⟨rfl, (by repeat (first | exact q0.out | exact Qw.refl _ | refine Qw.al ?_ _ | refine Qw.dr ?_ | refine Qw.dn ?_ _ | refine Qw.sc ?_ (by first | (simp; done) | omega | (have := q0.out.size; first | omega | (simp; omega))) _))⟩
    · have d1 : decide (op < 0) = false := decide_eq_false c1
      by_cases c2 : 25 < op
      · have e : Sy.rgw (k + 1) (.mk op n ks) = false := by rw [Sy.rgw]; show (Sy.nodeB op n ks.length && _) = _; rw [node_no (.inr (by omega))]; rfl
        rw [e]
        have d2 : decide (25 < op) = true := decide_eq_true c2
        have KD : Hid (∀ w : World, Calls Tryz.prog 60 #[.int .i64 0] w fun e w' => e = .returned (.int .i64 0) ∧ w = w') := Lib.hid fun w => rw_kids0 rfl w
        clear e hk ih k1
        go_enter Tryz.func31, Tryz.ntmps31
        go_wp2_with fail
        refine region_deep (by kernel_rfl) (by as_aux_lemma => kernel_rfl) ?_
        repeat (go_big_quiet_step ((go_at_call 60; exact Calls.quiet_of_same ((KD.out _).mono fun _ _ ⟨h1, h2⟩ => ⟨h1, h2.symm⟩))))
        refine wpQuiet_nil ?_
        intro _ hw'
        obtain ⟨nq, hw''⟩ := hw'
        subst hw''
        go_wp2_with fail
        go_ret
        exact ⟨rfl, (by repeat (first | exact q0.out | exact Qw.refl _ | refine Qw.al ?_ _ | refine Qw.dr ?_ | refine Qw.dn ?_ _ | refine Qw.sc ?_ (by first | (simp; done) | omega | (have := q0.out.size; first | omega | (simp; omega))) _))⟩
      · have d2 : decide (25 < op) = false := decide_eq_false c2
        obtain ⟨o, rfl⟩ : ∃ o : Nat, op = (o : Int) := ⟨op.toNat, by omega⟩
        have ho : o < 26 := by omega
        have KD : Hid (∀ w : World, Calls Tryz.prog 60 #[.int .i64 (o : Int)] w fun e w' => e = .returned (.int .i64 (Sy.kds o : Nat)) ∧ w = w') := Lib.hid fun w => rw_kids o ho w
        clear c1 c2
        by_cases c3 : ks.length = Sy.kds o
        · have d3 : ((ks.length : Int) != (Sy.kds o : Nat)) = false := by rw [c3]; simp
          by_cases cn : n < 0
          · by_cases c5 : o = 0
            · have f0 : ((o : Int) != 0) = false := by rw [c5]; rfl
              have f2 : decide (n < 0) = true := decide_eq_true cn
              have e : Sy.rgw (k + 1) (.mk (o : Int) n ks) = false := by rw [Sy.rgw]; show (Sy.nodeB (o : Int) n ks.length && _) = _; rw [node_num (by omega) (.inr (.inl cn))]; rfl
              rw [e]
              clear e hk ih k1 c5 c3
              go_enter Tryz.func31, Tryz.ntmps31
              go_wp2_with fail
              refine region_deep (by kernel_rfl) (by as_aux_lemma => kernel_rfl) ?_
              repeat (go_big_quiet_step ((go_at_call 60; exact Calls.quiet_of_same ((KD.out _).mono fun _ _ ⟨h1, h2⟩ => ⟨h1, h2.symm⟩))))
              refine wpQuiet_nil ?_
              intro _ hw'
              obtain ⟨nq, hw''⟩ := hw'
              subst hw''
              go_wp2_with fail
              go_ret
              exact ⟨rfl, (by repeat (first | exact q0.out | exact Qw.refl _ | refine Qw.al ?_ _ | refine Qw.dr ?_ | refine Qw.dn ?_ _ | refine Qw.sc ?_ (by first | (simp; done) | omega | (have := q0.out.size; first | omega | (simp; omega))) _))⟩
            · have f0 : ((o : Int) != 0) = true := by simpa using c5
              have f1 : (n != 0) = true := by simp; omega
              have e : Sy.rgw (k + 1) (.mk (o : Int) n ks) = false := by rw [Sy.rgw]; show (Sy.nodeB (o : Int) n ks.length && _) = _; rw [node_num (by omega) (.inr (.inl cn))]; rfl
              rw [e]
              clear e hk ih k1 c5 c3
              go_enter Tryz.func31, Tryz.ntmps31
              go_wp2_with fail
              refine region_deep (by kernel_rfl) (by as_aux_lemma => kernel_rfl) ?_
              repeat (go_big_quiet_step ((go_at_call 60; exact Calls.quiet_of_same ((KD.out _).mono fun _ _ ⟨h1, h2⟩ => ⟨h1, h2.symm⟩))))
              refine wpQuiet_nil ?_
              intro _ hw'
              obtain ⟨nq, hw''⟩ := hw'
              subst hw''
              go_wp2_with fail
              go_ret
              exact ⟨rfl, (by repeat (first | exact q0.out | exact Qw.refl _ | refine Qw.al ?_ _ | refine Qw.dr ?_ | refine Qw.dn ?_ _ | refine Qw.sc ?_ (by first | (simp; done) | omega | (have := q0.out.size; first | omega | (simp; omega))) _))⟩
          · have f2 : decide (n < 0) = false := decide_eq_false cn
            by_cases c7 : 1000000000000000 ≤ n
            · have f3 : decide (1000000000000000 ≤ n) = true := decide_eq_true c7
              have e : Sy.rgw (k + 1) (.mk (o : Int) n ks) = false := by rw [Sy.rgw]; show (Sy.nodeB (o : Int) n ks.length && _) = _; rw [node_num (by omega) (.inr (.inr c7))]; rfl
              rw [e]
              by_cases c5 : o = 0
              · have f0 : ((o : Int) != 0) = false := by rw [c5]; rfl
                clear e hk ih k1 c5 c3
                go_enter Tryz.func31, Tryz.ntmps31
                go_wp2_with fail
                refine region_deep (by kernel_rfl) (by as_aux_lemma => kernel_rfl) ?_
                repeat (go_big_quiet_step ((go_at_call 60; exact Calls.quiet_of_same ((KD.out _).mono fun _ _ ⟨h1, h2⟩ => ⟨h1, h2.symm⟩))))
                refine wpQuiet_nil ?_
                intro _ hw'
                obtain ⟨nq, hw''⟩ := hw'
                subst hw''
                go_wp2_with fail
                go_ret
                exact ⟨rfl, (by repeat (first | exact q0.out | exact Qw.refl _ | refine Qw.al ?_ _ | refine Qw.dr ?_ | refine Qw.dn ?_ _ | refine Qw.sc ?_ (by first | (simp; done) | omega | (have := q0.out.size; first | omega | (simp; omega))) _))⟩
              · have f0 : ((o : Int) != 0) = true := by simpa using c5
                have f1 : (n != 0) = true := by simp; omega
                clear e hk ih k1 c5 c3
                go_enter Tryz.func31, Tryz.ntmps31
                go_wp2_with fail
                refine region_deep (by kernel_rfl) (by as_aux_lemma => kernel_rfl) ?_
                repeat (go_big_quiet_step ((go_at_call 60; exact Calls.quiet_of_same ((KD.out _).mono fun _ _ ⟨h1, h2⟩ => ⟨h1, h2.symm⟩))))
                refine wpQuiet_nil ?_
                intro _ hw'
                obtain ⟨nq, hw''⟩ := hw'
                subst hw''
                go_wp2_with fail
                go_ret
                exact ⟨rfl, (by repeat (first | exact q0.out | exact Qw.refl _ | refine Qw.al ?_ _ | refine Qw.dr ?_ | refine Qw.dn ?_ _ | refine Qw.sc ?_ (by first | (simp; done) | omega | (have := q0.out.size; first | omega | (simp; omega))) _))⟩
            · have f3 : decide (1000000000000000 ≤ n) = false := decide_eq_false c7
              by_cases cz : o ≠ 0 ∧ n ≠ 0
              · obtain ⟨c5, c4⟩ := cz
                have f0 : ((o : Int) != 0) = true := by simpa using c5
                have f1 : (n != 0) = true := by simpa using c4
                have e : Sy.rgw (k + 1) (.mk (o : Int) n ks) = false := by rw [Sy.rgw]; show (Sy.nodeB (o : Int) n ks.length && _) = _; rw [node_num c4 (.inl c5)]; rfl
                rw [e]
                clear e hk ih k1 c5 c4 c3
                go_enter Tryz.func31, Tryz.ntmps31
                go_wp2_with fail
                refine region_deep (by kernel_rfl) (by as_aux_lemma => kernel_rfl) ?_
                repeat (go_big_quiet_step ((go_at_call 60; exact Calls.quiet_of_same ((KD.out _).mono fun _ _ ⟨h1, h2⟩ => ⟨h1, h2.symm⟩))))
                refine wpQuiet_nil ?_
                intro _ hw'
                obtain ⟨nq, hw''⟩ := hw'
                subst hw''
                go_wp2_with fail
                go_ret
                exact ⟨rfl, (by repeat (first | exact q0.out | exact Qw.refl _ | refine Qw.al ?_ _ | refine Qw.dr ?_ | refine Qw.dn ?_ _ | refine Qw.sc ?_ (by first | (simp; done) | omega | (have := q0.out.size; first | omega | (simp; omega))) _))⟩
              · have hn : Sy.nodeB (o : Int) n ks.length = true := node_yes ho c3 (by
                  rcases Nat.decEq o 0 with h | h
                  · exact .inl (Classical.byContradiction fun h2 => cz ⟨h, h2⟩)
                  · by_cases h2 : n = 0
                    · exact .inl h2
                    · exact .inr ⟨h, by omega, by omega⟩)
                have hR : Sy.rgw (k + 1) (.mk (o : Int) n ks) = ks.all (Sy.rgw k) := by rw [Sy.rgw]; show (Sy.nodeB (o : Int) n ks.length && _) = _; rw [hn]; rfl
                rw [hR]
                have HK := Lib.hid hk
                have IH := Lib.hid ih
                have fz : ((o : Int) != 0) = false ∨ (((o : Int) != 0) = true ∧ (n != 0) = false) := by
                  by_cases h : o = 0
                  · exact .inl (by rw [h]; rfl)
                  · refine .inr ⟨by simpa using h, ?_⟩
                    have : n = 0 := Classical.byContradiction fun h2 => cz ⟨h, h2⟩
                    rw [this]; rfl
                clear hR hn hk ih k1 c3 cz
                rcases fz with f0 | ⟨f0, f1⟩
                all_goals
                  go_enter Tryz.func31, Tryz.ntmps31
                  go_wp2_with fail
                  refine region_deep (by kernel_rfl) (by as_aux_lemma => kernel_rfl) ?_
                  repeat (go_big_quiet_step ((go_at_call 60; exact Calls.quiet_of_same ((KD.out _).mono fun _ _ ⟨h1, h2⟩ => ⟨h1, h2.symm⟩))))
                  refine wpQuiet_nil ?_
                  intro _ hw'
                  obtain ⟨nq, hw''⟩ := hw'
                  subst hw''
                  go_wp2_with fail
                  have QS : Hid (Qw w ((w.alloc (.cells #[.int .i64 (o : Int), .int .i64 n, .slice a ks.length cap] 24)).drewN nq)) := Lib.hid (bel_drewN ((Below.refl _ _).alloc (Nat.le_refl _) _) _)
                  have XS : Hid (Bx ((w.alloc (.cells #[.int .i64 (o : Int), .int .i64 n, .slice a ks.length cap] 24)).drewN nq) w.heap.size #[.int .i64 (o : Int), .int .i64 n, .slice a ks.length cap] 24) := Lib.hid (Bx.new w _ _)
                  go_loopg [5] ks.length (fun g iv wr => ∃ i : Nat, i ≤ ks.length ∧ g = ks.length - i ∧ iv = .int .i64 (i : Int) ∧ Hid ((ks.take i).all (Sy.rgw k) = true) ∧ Hid (Bx wr w.heap.size #[.int .i64 (o : Int), .int .i64 n, .slice a ks.length cap] 24) ∧ Qw w wr)
                  case atStart => exact ⟨0, Nat.zero_le _, rfl, rfl, Lib.hid (by simp), XS, QS.out⟩
                  case round =>
                    clear XS QS
                    obtain ⟨i, hi, rfl, rfl, hT, X, hQ⟩ := hrel
                    have q0 := Lib.hid hQ
                    have xc := X.out.cell' 2 _ rfl
                    by_cases hlt : i < ks.length
                    · have hKr := HK.out.kept hQ
                      clear hQ
                      cases hKr with
                      | nl => simp at hlt
                      | mk b off cap ks ad cc hS h1 h2 hc hkk =>
                        obtain ⟨z0, z1, z2⟩ := hc i hlt
                        have KK := Lib.hid (hkk i hlt)
                        have hi2 : (i : Int) < (ks.length : Int) := by omega
                        have cr := fun w1 (h : KidsB w1 S (ad i) (cc i) ks[i].ks) => IH.out ks[i].op ks[i].n ks[i].ks (ad i) (cc i) S w1 (by omega) h
                        have eX : Sy.rgw k (.mk ks[i].op ks[i].n ks[i].ks) = Sy.rgw k ks[i] := by cases ks[i]; rfl
                        rw [eX] at cr
                        have bl := cell_lt z0
                        cases eR : Sy.rgw k ks[i] with
                        | false =>
                          rw [eR] at cr
                          have eA : Hid (ks.all (Sy.rgw k) = false) := Lib.hid (by rw [List.all_eq_false]; exact ⟨ks[i], List.getElem_mem hlt, by rw [eR]; decide⟩)
                          have CR := Lib.hid cr
                          clear cr eX eR hc hkk
                          go_wp2_with (go_at_call 31; ((with_reducible refine (CR.out _ (KidsB.kept KK.out (by repeat (first | exact q0.out | exact Qw.refl _ | refine Qw.al ?_ _ | refine Qw.dr ?_ | refine Qw.dn ?_ _ | refine Qw.sc ?_ (by first | (simp; done) | omega | (have := q0.out.size; first | omega | (simp; omega))) _)))).mono ?_); rintro e w' ⟨rfl, q⟩; replace q0 : Hid (Qw w w') := Lib.hid (Qw.trans (by repeat (first | exact q0.out | exact Qw.refl _ | refine Qw.al ?_ _ | refine Qw.dr ?_ | refine Qw.dn ?_ _ | refine Qw.sc ?_ (by first | (simp; done) | omega | (have := q0.out.size; first | omega | (simp; omega))) _)) q); clear q))
                          go_ret
                          exact ⟨ret_bool5 eA.out.symm, q0.out⟩
                        | true =>
                          rw [eR] at cr
                          have hT' : Hid ((ks.take (i + 1)).all (Sy.rgw k) = true) := Lib.hid (by rw [List.take_succ_eq_append_getElem hlt, List.all_append, hT.out]; simp [eR])
                          have CR := Lib.hid cr
                          clear cr eX eR hc hkk hT
                          go_wp2_with (go_at_call 31; ((with_reducible refine (CR.out _ (KidsB.kept KK.out (by repeat (first | exact q0.out | exact Qw.refl _ | refine Qw.al ?_ _ | refine Qw.dr ?_ | refine Qw.dn ?_ _ | refine Qw.sc ?_ (by first | (simp; done) | omega | (have := q0.out.size; first | omega | (simp; omega))) _)))).mono ?_); rintro e w' ⟨rfl, q⟩; replace X := Lib.hid (Bx.kept X.out q); replace q0 : Hid (Qw w w') := Lib.hid (Qw.trans (by repeat (first | exact q0.out | exact Qw.refl _ | refine Qw.al ?_ _ | refine Qw.dr ?_ | refine Qw.dn ?_ _ | refine Qw.sc ?_ (by first | (simp; done) | omega | (have := q0.out.size; first | omega | (simp; omega))) _)) q); clear q))
                          go_roundg (ks.length - (i + 1))
                          case measure => omega
                          case rel => exact ⟨i + 1, by omega, rfl, by go_num, hT', X, q0.out⟩
                    · obtain rfl : i = ks.length := by omega
                      clear hQ
                      have hb : ¬ (ks.length : Int) < (ks.length : Int) := by omega
                      go_wp2_with fail
                      go_ret
                      exact ⟨ret_bool5 (by have := hT.out; rw [List.take_length] at this; exact this.symm), q0.out⟩
        · have d3 : ((ks.length : Int) != (Sy.kds o : Nat)) = true := by simp; omega
          have e : Sy.rgw (k + 1) (.mk (o : Int) n ks) = false := by rw [Sy.rgw]; show (Sy.nodeB (o : Int) n ks.length && _) = _; rw [node_len c3]; rfl
          rw [e]
          clear e hk ih k1 c3
          go_enter Tryz.func31, Tryz.ntmps31
          go_wp2_with fail
          refine region_deep (by kernel_rfl) (by as_aux_lemma => kernel_rfl) ?_
          repeat (go_big_quiet_step ((go_at_call 60; exact Calls.quiet_of_same ((KD.out _).mono fun _ _ ⟨h1, h2⟩ => ⟨h1, h2.symm⟩))))
          refine wpQuiet_nil ?_
          intro _ hw'
          obtain ⟨nq, hw''⟩ := hw'
          subst hw''
          go_wp2_with fail
          go_ret
          exact ⟨rfl, (by repeat (first | exact q0.out | exact Qw.refl _ | refine Qw.al ?_ _ | refine Qw.dr ?_ | refine Qw.dn ?_ _ | refine Qw.sc ?_ (by first | (simp; done) | omega | (have := q0.out.size; first | omega | (simp; omega))) _))⟩

theorem rw_right (op n : Int) (ks : List Sy.Ex) (a : Option Addr) (cap : Nat) (S : Nat → Prop) (w : World) (hk : KidsB w S a cap ks) :
    Calls Tryz.prog 15 #[.agg #[.int .i64 op, .int .i64 n, .slice a ks.length cap]] w fun e w' => e = .returned (.bool (Sy.rgt (.mk op n ks))) ∧ Qw w w' := by
  have c := fun w1 (h : KidsB w1 S a cap ks) => rw_rightWithin 16 op n ks a cap S w1 (Nat.le_refl _) h
  rw [Sy.rgt_eq] at c
  generalize Sy.rgt (.mk op n ks) = b at *
  have HK := Lib.hid hk
  have C1 : Hid (∀ w1, KidsB w1 S a cap ks → Calls Tryz.prog 31 #[.agg #[.int .i64 op, .int .i64 n, .slice a ks.length cap], .int .i64 16] w1 fun e w' => e = .returned (.bool b) ∧ Qw w1 w') := Lib.hid c
  clear c hk
  have q0 : Hid (Qw w w) := Lib.hid (Qw.refl w)
  go_enter Tryz.func15, Tryz.ntmps15
  go_wp2_with (go_at_call 31; ((with_reducible refine (C1.out _ (KidsB.kept HK.out (by repeat (first | exact q0.out | exact Qw.refl _ | refine Qw.al ?_ _ | refine Qw.dr ?_ | refine Qw.dn ?_ _ | refine Qw.sc ?_ (by first | (simp; done) | omega | (have := q0.out.size; first | omega | (simp; omega))) _)))).mono ?_); rintro e w' ⟨rfl, q⟩; replace q0 : Hid (Qw w w') := Lib.hid (Qw.trans (by repeat (first | exact q0.out | exact Qw.refl _ | refine Qw.al ?_ _ | refine Qw.dr ?_ | refine Qw.dn ?_ _ | refine Qw.sc ?_ (by first | (simp; done) | omega | (have := q0.out.size; first | omega | (simp; omega))) _)) q); clear q))
  go_ret
  exact ⟨rfl, q0.out⟩
end Go.Proofs.YtkfipjlknfinpaaGreatDoor
