import Derived.Test.YtciglhecjkeogaaGreatDoorZTX12
import Derived.Test.YtciglhecjkeogaaGreatDoorZTX13
set_option linter.unusedVariables false
set_option linter.unusedSimpArgs false
namespace Go.Proofs.YtciglhecjkeogaaGreatDoor
open Go.RowKit
namespace Sy
def rgw : Nat → Ex → Bool
  | 0, _ => false
  | k + 1, x => nodeB x.op x.n x.ks.length && x.ks.all (rgw k)
theorem dmx_le {l : List Nat} {k : Nat} : dmx l ≤ k ↔ ∀ d ∈ l, d ≤ k := by
  induction l with
  | nil => simp [dmx]
  | cons d l ih => simp only [dmx, List.mem_cons, forall_eq_or_imp, ← ih]; omega
theorem rgw_eq (k : Nat) : ∀ x, rgw k x = (okx x && decide (dpt x ≤ k)) := by
  induction k with
  | zero =>
    intro x
    obtain ⟨op, n, ks⟩ := x
    rw [dpt_mk, decide_eq_false (by omega), Bool.and_false]; rfl
  | succ k ih =>
    intro x
    obtain ⟨op, n, ks⟩ := x
    rw [rgw, okx_mk, dpt_mk]
    show (nodeB op n ks.length && ks.all (rgw k)) = _
    rw [Bool.and_assoc]
    congr 1
    rw [Bool.eq_iff_iff]
    simp only [List.all_eq_true, Bool.and_eq_true, decide_eq_true_eq]
    constructor
    · intro h
      refine ⟨fun x hx => ?_, ?_⟩
      · have := h x hx; rw [ih] at this; simp at this; exact this.1
      · have : dmx (ks.map dpt) ≤ k := dmx_le.2 fun d hd => by
          obtain ⟨x, hx, rfl⟩ := List.mem_map.1 hd
          have := h x hx; rw [ih] at this; simp at this; exact this.2
        omega
    · rintro ⟨h1, h2⟩ x hx
      rw [ih]
      have : dpt x ≤ k := dmx_le.1 (show dmx (ks.map dpt) ≤ k by omega) _ (List.mem_map_of_mem hx)
      simp [h1 x hx, this]
theorem rgt_eq (x : Ex) : rgw 16 x = rgt x := rgw_eq 16 x
end Sy
theorem node_no {op n : Int} {k : Nat} (h : op < 0 ∨ 26 ≤ op) : Sy.nodeB op n k = false := by
  unfold Sy.nodeB
  rcases h with h | h
  · rw [decide_eq_false (show ¬ 0 ≤ op by omega)]; rfl
  · rw [decide_eq_false (show ¬ op ≤ 25 by omega), Bool.and_false]; rfl
theorem node_len {o : Nat} {n : Int} {k : Nat} (h : k ≠ Sy.kds o) : Sy.nodeB (o : Int) n k = false := by
  unfold Sy.nodeB
  rw [show ((o : Int)).toNat = o by omega, decide_eq_false h, Bool.and_false]; rfl
theorem node_num {o : Nat} {n : Int} {k : Nat} (h : n ≠ 0) (h' : o ≠ 0 ∨ n < 0 ∨ 1000000000000000 ≤ n) : Sy.nodeB (o : Int) n k = false := by
  unfold Sy.nodeB
  rw [decide_eq_false h, Bool.false_or]
  have : (decide ((o : Int) = 0) && decide (0 ≤ n) && decide (n < 1000000000000000)) = false := by
    simp; omega
  rw [this, Bool.and_false]
theorem node_yes {o : Nat} {n : Int} {k : Nat} (ho : o < 26) (hk : k = Sy.kds o) (h : n = 0 ∨ (o = 0 ∧ 0 ≤ n ∧ n < 1000000000000000)) : Sy.nodeB (o : Int) n k = true := by
  unfold Sy.nodeB
  rw [show ((o : Int)).toNat = o by omega, decide_eq_true hk, decide_eq_true (show (0 : Int) ≤ o by omega), decide_eq_true (show (o : Int) ≤ 25 by omega)]
  simp; omega
set_option maxRecDepth 100000 in
set_option maxHeartbeats 4000000 in
theorem sv_rightWithin (k : Nat) : ∀ (op n : Int) (ks : List Sy.Ex) (a : Option Addr) (cap : Nat) (S : Nat → Prop) (w : World), k ≤ 16 → Ow w → KidsB w S a cap ks →
    Calls Tryz.prog 48 #[.agg #[.int .i64 op, .int .i64 n, .slice a ks.length cap], .int .i64 (k : Int)] w fun e w' => e = .returned (.bool (Sy.rgw k (.mk op n ks))) ∧ Qw w w' := by
  induction k with
  | zero =>
    intro op n ks a cap S w _ hO hk
    obtain ⟨l1, l2⟩ := hk.cap
    clear hO hk
    go_enter Tryz.func48, Tryz.ntmps48
    go_wp2_with fail
    refine region_deep (by kernel_rfl) (by as_aux_lemma => kernel_rfl) ?_
    repeat (go_big_quiet_step (fail))
    refine wpQuiet_nil ?_
    intro _ hw'
    obtain ⟨nq, hw''⟩ := hw'
    subst hw''
    go_wp2_with fail
    go_ret
    exact ⟨rfl, Qz⟩
  | succ k ih =>
    intro op n ks a cap S w hk16 hO hk
    obtain ⟨l1, l2⟩ := hk.cap
    have k1 : ((k + 1 : Nat) : Int) = (k : Int) + 1 := by omega
    rw [k1]
    have b0 : ((k : Int) + 1 == 0) = false := beq_eq_false_iff_ne.2 (by omega)
    have hg := hO.1
    by_cases c1 : op < 0
    · have e : Sy.rgw (k + 1) (.mk op n ks) = false := by rw [Sy.rgw]; show (Sy.nodeB op n ks.length && _) = _; rw [node_no (.inl c1)]; rfl
      rw [e]
      have d1 : decide (op < 0) = true := decide_eq_true c1
      clear e hO hk ih k1 hg
      go_enter Tryz.func48, Tryz.ntmps48
      go_wp2_with fail
      refine region_deep (by kernel_rfl) (by as_aux_lemma => kernel_rfl) ?_
      repeat (go_big_quiet_step (fail))
      refine wpQuiet_nil ?_
      intro _ hw'
      obtain ⟨nq, hw''⟩ := hw'
      subst hw''
      go_wp2_with fail
      go_ret
      exact ⟨rfl, Qz⟩
    · have d1 : decide (op < 0) = false := decide_eq_false c1
      by_cases c2 : 26 ≤ op
      · have e : Sy.rgw (k + 1) (.mk op n ks) = false := by rw [Sy.rgw]; show (Sy.nodeB op n ks.length && _) = _; rw [node_no (.inr c2)]; rfl
        rw [e]
        have d2 : decide (26 ≤ op) = true := decide_eq_true c2
        clear e hO hk ih k1 hg
        go_enter Tryz.func48, Tryz.ntmps48
        go_wp2_with fail
        refine region_deep (by kernel_rfl) (by as_aux_lemma => kernel_rfl) ?_
        repeat (go_big_quiet_step (fail))
        refine wpQuiet_nil ?_
        intro _ hw'
        obtain ⟨nq, hw''⟩ := hw'
        subst hw''
        go_wp2_with fail
        go_ret
        exact ⟨rfl, Qz⟩
      · have d2 : decide (26 ≤ op) = false := decide_eq_false c2
        obtain ⟨o, rfl⟩ : ∃ o : Nat, op = (o : Int) := ⟨op.toNat, by omega⟩
        have ho : o < 26 := by omega
        have ho2 : (o : Int) < 26 := by omega
        have oc := (hO.2 o ho).2
        clear c1 c2
        by_cases c3 : ks.length = Sy.kds o
        · by_cases c5 : o = 0
          · subst c5
            obtain rfl : ks = [] := List.eq_nil_of_length_eq_zero c3
            have oc0 : w.cell? ⟨0, 1, none⟩ = some (.int .i64 0) := oc
            show Calls Tryz.prog 48 #[.agg #[.int .i64 0, .int .i64 n, .slice a 0 cap], .int .i64 ((k : Int) + 1)] w fun e w' => e = .returned (.bool (Sy.rgw (k + 1) (.mk 0 n []))) ∧ Qw w w'
            clear d1 d2 oc c3 l1 ho ho2
            by_cases c4 : n = 0
            · subst c4
              have e : Sy.rgw (k + 1) (.mk 0 0 []) = true := by rw [Sy.rgw]; show (Sy.nodeB 0 0 ([] : List Sy.Ex).length && true) = _; rw [show Sy.nodeB 0 0 ([] : List Sy.Ex).length = true from node_yes (o := 0) (by decide) (by decide) (.inl rfl)]; rfl
              rw [e]
              clear e hO hk ih k1
              go_enter Tryz.func48, Tryz.ntmps48
              go_wp2_with fail
              refine region_deep (by kernel_rfl) (by as_aux_lemma => kernel_rfl) ?_
              repeat (go_big_quiet_step (fail))
              refine wpQuiet_nil ?_
              intro _ hw'
              obtain ⟨nq, hw''⟩ := hw'
              subst hw''
              go_wp2_with fail
              have QS : Hid (Qw w ((w.alloc (.cells #[.int .i64 0, .int .i64 0, .slice a 0 cap] 31)).drewN nq)) := Lib.hid (bel_drewN ((Below.refl _ _).alloc (Nat.le_refl _) _) _)
              go_loopg [51] 0 (fun g iv wr => iv = .int .i64 0 ∧ Qw w wr)
              case atStart => exact ⟨rfl, QS.out⟩
              case round =>
                obtain ⟨rfl, hQ⟩ := hrel
                have q0 := Lib.hid hQ
                clear hQ QS
                go_wp2_with fail
                go_ret
                exact ⟨rfl, q0.out⟩
            · have f1 : (n != 0) = true := by simpa using c4
              by_cases c6 : n < 0
              · have f2 : decide (n < 0) = true := decide_eq_true c6
                have e : Sy.rgw (k + 1) (.mk 0 n []) = false := by rw [Sy.rgw]; show (Sy.nodeB 0 n ([] : List Sy.Ex).length && _) = _; rw [show Sy.nodeB 0 n ([] : List Sy.Ex).length = false from node_num (o := 0) c4 (.inr (.inl c6))]; rfl
                rw [e]
                clear e hO hk ih k1
                go_enter Tryz.func48, Tryz.ntmps48
                go_wp2_with fail
                refine region_deep (by kernel_rfl) (by as_aux_lemma => kernel_rfl) ?_
                repeat (go_big_quiet_step (fail))
                refine wpQuiet_nil ?_
                intro _ hw'
                obtain ⟨nq, hw''⟩ := hw'
                subst hw''
                go_wp2_with fail
                go_ret
                exact ⟨rfl, Qz⟩
              · have f2 : decide (n < 0) = false := decide_eq_false c6
                by_cases c7 : 1000000000000000 ≤ n
                · have f3 : decide (1000000000000000 ≤ n) = true := decide_eq_true c7
                  have e : Sy.rgw (k + 1) (.mk 0 n []) = false := by rw [Sy.rgw]; show (Sy.nodeB 0 n ([] : List Sy.Ex).length && _) = _; rw [show Sy.nodeB 0 n ([] : List Sy.Ex).length = false from node_num (o := 0) c4 (.inr (.inr c7))]; rfl
                  rw [e]
                  clear e hO hk ih k1
                  go_enter Tryz.func48, Tryz.ntmps48
                  go_wp2_with fail
                  refine region_deep (by kernel_rfl) (by as_aux_lemma => kernel_rfl) ?_
                  repeat (go_big_quiet_step (fail))
                  refine wpQuiet_nil ?_
                  intro _ hw'
                  obtain ⟨nq, hw''⟩ := hw'
                  subst hw''
                  go_wp2_with fail
                  go_ret
                  exact ⟨rfl, Qz⟩
                · have f3 : decide (1000000000000000 ≤ n) = false := decide_eq_false c7
                  have e : Sy.rgw (k + 1) (.mk 0 n []) = true := by rw [Sy.rgw]; show (Sy.nodeB 0 n ([] : List Sy.Ex).length && true) = _; rw [show Sy.nodeB 0 n ([] : List Sy.Ex).length = true from node_yes (o := 0) (by decide) (by decide) (.inr ⟨rfl, by omega, by omega⟩)]; rfl
                  rw [e]
                  clear e hO hk ih k1
                  go_enter Tryz.func48, Tryz.ntmps48
                  go_wp2_with fail
                  refine region_deep (by kernel_rfl) (by as_aux_lemma => kernel_rfl) ?_
                  repeat (go_big_quiet_step (fail))
                  refine wpQuiet_nil ?_
                  intro _ hw'
                  obtain ⟨nq, hw''⟩ := hw'
                  subst hw''
                  go_wp2_with fail
                  have QS : Hid (Qw w ((w.alloc (.cells #[.int .i64 0, .int .i64 n, .slice a 0 cap] 31)).drewN nq)) := Lib.hid (bel_drewN ((Below.refl _ _).alloc (Nat.le_refl _) _) _)
                  go_loopg [51] 0 (fun g iv wr => iv = .int .i64 0 ∧ Qw w wr)
                  case atStart => exact ⟨rfl, QS.out⟩
                  case round =>
                    obtain ⟨rfl, hQ⟩ := hrel
                    have q0 := Lib.hid hQ
                    clear hQ QS
                    go_wp2_with fail
                    go_ret
                    exact ⟨rfl, q0.out⟩
          · have f2 : ((o : Int) != 0) = true := by simpa using c5
            have d3 : ((ks.length : Int) != (Sy.kds o : Nat)) = false := by rw [c3]; simp
            by_cases c4 : n = 0
            · subst c4
              have hn : Sy.nodeB (o : Int) 0 ks.length = true := node_yes ho c3 (.inl rfl)
              have hR : Sy.rgw (k + 1) (.mk (o : Int) 0 ks) = ks.all (Sy.rgw k) := by rw [Sy.rgw]; show (Sy.nodeB (o : Int) 0 ks.length && _) = _; rw [hn]; rfl
              rw [hR]
              have HK := Lib.hid hk
              have HO := Lib.hid hO
              have IH := Lib.hid ih
              clear hR hn hk hO ih k1 c3
              go_enter Tryz.func48, Tryz.ntmps48
              go_wp2_with fail
              refine region_deep (by kernel_rfl) (by as_aux_lemma => kernel_rfl) ?_
              repeat (go_big_quiet_step (fail))
              refine wpQuiet_nil ?_
              intro _ hw'
              obtain ⟨nq, hw''⟩ := hw'
              subst hw''
              go_wp2_with fail
              have QS : Hid (Qw w ((w.alloc (.cells #[.int .i64 (o : Int), .int .i64 0, .slice a ks.length cap] 31)).drewN nq)) := Lib.hid (bel_drewN ((Below.refl _ _).alloc (Nat.le_refl _) _) _)
              go_loopg [51] ks.length (fun g iv wr => ∃ i : Nat, i ≤ ks.length ∧ g = ks.length - i ∧ iv = .int .i64 (i : Int) ∧ Hid ((ks.take i).all (Sy.rgw k) = true) ∧ Qw w wr)
              case atStart => exact ⟨0, Nat.zero_le _, rfl, rfl, Lib.hid (by simp), QS.out⟩
              case round =>
                obtain ⟨i, hi, rfl, rfl, hT, hQ⟩ := hrel
                have q0 := Lib.hid hQ
                by_cases hlt : i < ks.length
                · have hKr := HK.out.kept hQ
                  clear hQ QS
                  cases hKr with
                  | nl => simp at hlt
                  | mk b off cap ks ad cc hS h1 h2 hc hkk =>
                    obtain ⟨z0, z1, z2⟩ := hc i hlt
                    have KK := Lib.hid (hkk i hlt)
                    have hi2 : (i : Int) < (ks.length : Int) := by omega
                    have cr := fun w1 (h : KidsB w1 S (ad i) (cc i) ks[i].ks) (hO : Ow w1) => IH.out ks[i].op ks[i].n ks[i].ks (ad i) (cc i) S w1 (by omega) hO h
                    have eX : Sy.rgw k (.mk ks[i].op ks[i].n ks[i].ks) = Sy.rgw k ks[i] := by cases ks[i]; rfl
                    rw [eX] at cr
                    have bl := cell_lt z0
                    have hne : b ≠ wr.heap.size := by omega
                    cases eR : Sy.rgw k ks[i] with
                    | false =>
                      rw [eR] at cr
                      have eA : Hid (ks.all (Sy.rgw k) = false) := Lib.hid (by rw [List.all_eq_false]; exact ⟨ks[i], List.getElem_mem hlt, by rw [eR]; decide⟩)
                      have CR := Lib.hid cr
                      clear cr eX eR hc hkk
                      go_wp2_with (go_at_call 48; ((with_reducible refine (CR.out _ (KidsB.kept KK.out Qz) (Ow.kept HO.out Qz)).mono ?_); rintro e w' ⟨rfl, q⟩; replace q0 : Hid (Qw w w') := Lib.hid (Qw.trans Qz q); clear q))
                      go_ret
                      exact ⟨ret_bool5 eA.out.symm, q0.out⟩
                    | true =>
                      rw [eR] at cr
                      have hT' : Hid ((ks.take (i + 1)).all (Sy.rgw k) = true) := Lib.hid (by rw [List.take_succ_eq_append_getElem hlt, List.all_append, hT.out]; simp [eR])
                      have CR := Lib.hid cr
                      clear cr eX eR hc hkk hT
                      go_wp2_with (go_at_call 48; ((with_reducible refine (CR.out _ (KidsB.kept KK.out Qz) (Ow.kept HO.out Qz)).mono ?_); rintro e w' ⟨rfl, q⟩; replace q0 : Hid (Qw w w') := Lib.hid (Qw.trans Qz q); clear q))
                      go_roundg (ks.length - (i + 1))
                      case measure => omega
                      case rel => exact ⟨i + 1, by omega, rfl, by go_num, hT', q0.out⟩
                · obtain rfl : i = ks.length := by omega
                  clear hQ QS
                  have hb : ¬ (ks.length : Int) < (ks.length : Int) := by omega
                  go_wp2_with fail
                  go_ret
                  exact ⟨ret_bool5 (by have := hT.out; rw [List.take_length] at this; exact this.symm), q0.out⟩
            · have f1 : (n != 0) = true := by simpa using c4
              have e : Sy.rgw (k + 1) (.mk (o : Int) n ks) = false := by rw [Sy.rgw]; show (Sy.nodeB (o : Int) n (ks : List Sy.Ex).length && _) = _; rw [node_num c4 (.inl c5)]; rfl
              rw [e]
              clear e hO hk ih k1
              go_enter Tryz.func48, Tryz.ntmps48
              go_wp2_with fail
              refine region_deep (by kernel_rfl) (by as_aux_lemma => kernel_rfl) ?_
              repeat (go_big_quiet_step (fail))
              refine wpQuiet_nil ?_
              intro _ hw'
              obtain ⟨nq, hw''⟩ := hw'
              subst hw''
              go_wp2_with fail
              go_ret
              exact ⟨rfl, Qz⟩
        · have d3 : ((ks.length : Int) != (Sy.kds o : Nat)) = true := by simp; omega
          have e : Sy.rgw (k + 1) (.mk (o : Int) n ks) = false := by rw [Sy.rgw]; show (Sy.nodeB (o : Int) n ks.length && _) = _; rw [node_len c3]; rfl
          rw [e]
          clear e hO hk ih k1
          go_enter Tryz.func48, Tryz.ntmps48
          go_wp2_with fail
          refine region_deep (by kernel_rfl) (by as_aux_lemma => kernel_rfl) ?_
          repeat (go_big_quiet_step (fail))
          refine wpQuiet_nil ?_
          intro _ hw'
          obtain ⟨nq, hw''⟩ := hw'
          subst hw''
          go_wp2_with fail
          go_ret
          exact ⟨rfl, Qz⟩
end Go.Proofs.YtciglhecjkeogaaGreatDoor
set_option linter.unusedVariables false
set_option linter.unusedSimpArgs false
namespace Go.Proofs.YtciglhecjkeogaaGreatDoor
open Go.RowKit
theorem sv_right (op n : Int) (ks : List Sy.Ex) (a : Option Addr) (cap : Nat) (S : Nat → Prop) (w : World) (hO : Ow w) (hk : KidsB w S a cap ks) :
    Calls Tryz.prog 26 #[.agg #[.int .i64 op, .int .i64 n, .slice a ks.length cap]] w fun e w' => e = .returned (.bool (Sy.rgt (.mk op n ks))) ∧ Qw w w' := by
  have c1 : ∀ w, Ow w → KidsB w S a cap ks → Calls Tryz.prog 48 #[.agg #[.int .i64 op, .int .i64 n, .slice a ks.length cap], .int .i64 16] w fun e w' => e = .returned (.bool (Sy.rgt (.mk op n ks))) ∧ Qw w w' := fun w h1 h2 => by
    rw [← Sy.rgt_eq]; exact sv_rightWithin 16 op n ks a cap S w (Nat.le_refl _) h1 h2
  have C1 := Lib.hid c1
  have HO := Lib.hid hO
  have HK := Lib.hid hk
  clear c1 hO hk
  have q0 : Hid (Qw w w) := Lib.hid (Qw.refl w)
  go_enter Tryz.func26, Tryz.ntmps26
  go_wp2_with (go_at_call 48; ((with_reducible refine (C1.out _ (Ow.kept HO.out Qz) (KidsB.kept HK.out Qz)).mono ?_); rintro e w' ⟨rfl, q⟩; replace q0 : Hid (Qw w w') := Lib.hid (Qw.trans Qz q); clear q))
  go_ret
  exact ⟨rfl, q0.out⟩
theorem sv_blank (op n : Int) (l : Nat) (a : Option Addr) (cap : Nat) (l1 : l ≤ cap) (l2 : cap ≤ 9223372036854775807) (w : World) :
    Calls Tryz.prog 47 #[.agg #[.int .i64 op, .int .i64 n, .slice a l cap]] w fun e w' => e = .returned (.bool (decide (op = 0) && decide (n = 0) && decide (l = 0))) ∧ Qw w w' := by
  by_cases c1 : op = 0
  · subst c1
    by_cases c2 : n = 0
    · subst c2
      by_cases c3 : l = 0
      · subst c3
        go_enter Tryz.func47, Tryz.ntmps47
        go_wp2
        go_ret
        exact ⟨rfl, Qz⟩
      · have h3 : ((l : Int) == 0) = false := beq_eq_false_iff_ne.2 (by omega)
        rw [decide_eq_false c3]
        clear c3
        go_enter Tryz.func47, Tryz.ntmps47
        go_wp2
        go_ret
        exact ⟨rfl, Qz⟩
    · have h3 : (n == 0) = false := beq_eq_false_iff_ne.2 c2
      rw [decide_eq_false c2]
      clear c2
      go_enter Tryz.func47, Tryz.ntmps47
      go_wp2
      go_ret
      exact ⟨rfl, Qz⟩
  · have h3 : (op == 0) = false := beq_eq_false_iff_ne.2 c1
    rw [decide_eq_false c1]
    clear c1
    go_enter Tryz.func47, Tryz.ntmps47
    go_wp2
    go_ret
    exact ⟨rfl, Qz⟩
def wdsB (ws : List (Int × Sy.Ex)) : Bool := ws.all (fun w => Sy.isw w.1 && Sy.rgt w.2)
set_option maxRecDepth 100000 in
set_option maxHeartbeats 4000000 in
theorem sv_rightWords (ws : List (Int × Sy.Ex)) (a : Option Addr) (cap : Nat) (S : Nat → Prop) (w : World) (hO : Ow w) (hk : WordsB w S a cap ws) :
    Calls Tryz.prog 46 #[.slice a ws.length cap] w fun e w' => e = .returned (.bool (decide (ws.length ≤ 24) && wdsB ws)) ∧ Qw w w' := by
  obtain ⟨l1, l2, _⟩ := id hk
  have HO := Lib.hid hO
  have HK := Lib.hid hk
  have ol := hO.1
  clear hO hk
  by_cases c1 : ws.length ≤ 24
  · rw [decide_eq_true c1, Bool.true_and]
    have c1' : ¬ (24 : Int) < (ws.length : Int) := by omega
    go_enter Tryz.func46, Tryz.ntmps46
    go_wp2_with fail
    go_loopg [10] ws.length (fun g iv wr => ∃ i : Nat, i ≤ ws.length ∧ g = ws.length - i ∧ iv = .int .i64 (i : Int) ∧ Hid (wdsB (ws.take i) = true) ∧ Qw w wr)
    case atStart => exact ⟨0, Nat.zero_le _, rfl, rfl, Lib.hid (by simp [wdsB]), Qw.refl w⟩
    case round =>
      obtain ⟨i, hi, rfl, rfl, hT, hQ⟩ := hrel
      have q0 := Lib.hid hQ
      by_cases hlt : i < ws.length
      · have hKr := HK.out.go (w' := wr) (T := S) (fun b hS hb => ⟨hQ.block b hb, hS⟩)
        have HOr := Lib.hid (HO.out.kept hQ)
        clear hQ
        obtain ⟨_, _, h0 | ⟨b, off, ad, cc, rfl, hS, hc⟩⟩ := hKr
        · rw [h0] at hlt; simp at hlt
        · obtain ⟨z0, z1, z2, z3, z4⟩ := hc i hlt
          have KK := Lib.hid z4
          have hi2 : (i : Int) < (ws.length : Int) := by omega
          have bl := cell_lt z0
          have hne : b ≠ wr.heap.size := by omega
          have fw := fun w => syIsWord ws[i].1 w
          have cr := fun w1 (h : KidsB w1 S (ad i) (cc i) ws[i].2.ks) (hO : Ow w1) => sv_right ws[i].2.op ws[i].2.n ws[i].2.ks (ad i) (cc i) S w1 hO h
          have eX : Sy.rgt (.mk ws[i].2.op ws[i].2.n ws[i].2.ks) = Sy.rgt ws[i].2 := by cases ws[i].2; rfl
          rw [eX] at cr
          have step : wdsB (ws.take (i + 1)) = (Sy.isw ws[i].1 && Sy.rgt ws[i].2) := by
            have h := hT.out
            unfold wdsB at h ⊢
            rw [List.take_succ_eq_append_getElem hlt, List.all_append, h]; simp
          have bad : (Sy.isw ws[i].1 && Sy.rgt ws[i].2) = false → wdsB ws = false := fun h => by
            unfold wdsB; rw [List.all_eq_false]; exact ⟨ws[i], List.getElem_mem hlt, by rw [h]; decide⟩
          cases eW : Sy.isw ws[i].1 with
          | false =>
            have eA : Hid (wdsB ws = false) := Lib.hid (bad (by rw [eW]; rfl))
            rw [eW] at fw
            have FW := Lib.hid fw
            clear fw cr eX step bad eW hc z4
            go_wp2_with (go_at_call 73; ((with_reducible refine (FW.out _).mono ?_); rintro e w' ⟨rfl, rfl⟩))
            go_ret
            exact ⟨ret_bool5 eA.out.symm, Qz⟩
          | true =>
            rw [eW] at fw
            have FW := Lib.hid fw
            cases eR : Sy.rgt ws[i].2 with
            | false =>
              have eA : Hid (wdsB ws = false) := Lib.hid (bad (by rw [eW, eR]; rfl))
              rw [eR] at cr
              have CR := Lib.hid cr
              clear fw cr eX step bad eW eR hc z4
              go_wp2_with (first | (go_at_call 73; ((with_reducible refine (FW.out _).mono ?_); rintro e w' ⟨rfl, rfl⟩)) | (go_at_call 26; ((with_reducible refine (CR.out _ (KidsB.kept KK.out Qz) (Ow.kept HOr.out Qz)).mono ?_); rintro e w' ⟨rfl, q⟩; replace q0 : Hid (Qw w w') := Lib.hid (Qw.trans Qz q); clear q)))
              go_ret
              exact ⟨ret_bool5 eA.out.symm, q0.out⟩
            | true =>
              have hT' : Hid (wdsB (ws.take (i + 1)) = true) := Lib.hid (by rw [step, eW, eR]; rfl)
              rw [eR] at cr
              have CR := Lib.hid cr
              clear fw cr eX step bad eW eR hc z4 hT
              go_wp2_with (first | (go_at_call 73; ((with_reducible refine (FW.out _).mono ?_); rintro e w' ⟨rfl, rfl⟩)) | (go_at_call 26; ((with_reducible refine (CR.out _ (KidsB.kept KK.out Qz) (Ow.kept HOr.out Qz)).mono ?_); rintro e w' ⟨rfl, q⟩; replace q0 : Hid (Qw w w') := Lib.hid (Qw.trans Qz q); clear q)))
              go_roundg (ws.length - (i + 1))
              case measure => omega
              case rel => exact ⟨i + 1, by omega, rfl, by go_num, hT', q0.out⟩
      · obtain rfl : i = ws.length := by omega
        clear hQ
        have hb : ¬ (ws.length : Int) < (ws.length : Int) := by omega
        go_wp2_with fail
        go_ret
        exact ⟨ret_bool5 (by have := hT.out; rw [List.take_length] at this; exact this.symm), q0.out⟩
  · rw [decide_eq_false c1, Bool.false_and]
    have c1' : (24 : Int) < (ws.length : Int) := by omega
    go_enter Tryz.func46, Tryz.ntmps46
    go_wp2_with fail
    go_ret
    exact ⟨rfl, Qz⟩
end Go.Proofs.YtciglhecjkeogaaGreatDoor
set_option linter.unusedVariables false
set_option linter.unusedSimpArgs false
namespace Go.Proofs.YtciglhecjkeogaaGreatDoor
open Go.RowKit
def kcs (l : List Ev.V) : Array Value := #[.int .i64 (Ev.kv l 0), .int .i64 (Ev.kv l 1)]
theorem kcs_set {l : List Ev.V} {i : Nat} (hl : l.length = i) (hi : i < 2) (v : Ev.V) : (kcs l).setIfInBounds i (.int .i64 v.1) = kcs (l ++ [v]) := by
  match l, hl with
  | [], rfl => rfl
  | [u], rfl => rfl
  | _ :: _ :: _, rfl => simp at hi; omega
theorem sc_int (a : Int) : (-1073741900 ≤ (Cm.sc a).1 ∧ (Cm.sc a).1 ≤ 1073741900) ∧ -1073741900 ≤ (Cm.sc a).2 ∧ (Cm.sc a).2 ≤ 1073741900 := ⟨Cm.nm_re (Cm.sc_bd a), Cm.nm_im (Cm.sc_bd a)⟩
theorem kcs_at (l : List Ev.V) {i : Nat} (hi : i < 2) : ∃ v, (kcs l)[i]? = some v := by
  match i, hi with
  | 0, _ => exact ⟨_, rfl⟩
  | 1, _ => exact ⟨_, rfl⟩
theorem val_err {s : Vs.St} {ks : List Sy.Ex} {i : Nat} (h : i < ks.length) (h0 : Ev.fe ((ks.take i).map (Ev.val s)) = 0) (hv : (Ev.val s ks[i]).2 ≠ 0) (o n : Int) : Ev.val s (.mk o n ks) = (0, (Ev.val s ks[i]).2) := by
  have e : ks.map (Ev.val s) = (ks.take i).map (Ev.val s) ++ Ev.val s ks[i] :: (ks.drop (i + 1)).map (Ev.val s) := by
    conv => lhs; rw [← List.take_append_drop i ks, List.drop_eq_getElem_cons h]
    rw [List.map_append, List.map_cons]
  have f := Ev.fe_stop (r := (ks.drop (i + 1)).map (Ev.val s)) h0 hv
  rw [← e] at f
  rw [Ev.val_mk, Ev.opk, f, if_neg hv]
theorem val_more {s : Vs.St} {ks : List Sy.Ex} {i : Nat} (h : i < ks.length) : (ks.take (i + 1)).map (Ev.val s) = (ks.take i).map (Ev.val s) ++ [Ev.val s ks[i]] := by
  rw [List.take_succ_eq_append_getElem h, List.map_append]; rfl
theorem val_opv {s : Vs.St} {ks : List Sy.Ex} (h0 : Ev.fe (ks.map (Ev.val s)) = 0) (o : Nat) (n : Int) : Ev.val s (.mk (o : Int) n ks) = Ev.opv s n (Ev.kv (ks.map (Ev.val s)) 0) (Ev.kv (ks.map (Ev.val s)) 1) o := by
  rw [Ev.val_mk, Ev.opk, if_pos h0, Int.toNat_natCast]
theorem okx_node {o n : Int} {ks : List Sy.Ex} (h : Sy.okx (.mk o n ks) = true) : (∃ k : Nat, k < 26 ∧ o = (k : Int) ∧ ks.length = Sy.kds k) ∧ (∀ k ∈ ks, Sy.okx k = true) ∧ Ev.Bd n := by
  rw [Sy.okx_mk] at h
  simp only [Sy.nodeB, Bool.and_eq_true, Bool.or_eq_true, decide_eq_true_eq, List.all_eq_true] at h
  obtain ⟨⟨⟨⟨h0, h1⟩, h2⟩, hn⟩, ha⟩ := h
  refine ⟨⟨o.toNat, by omega, by omega, h2⟩, ha, ?_⟩
  rcases hn with rfl | ⟨⟨_, h1⟩, h2⟩
  · exact Ev.bd0
  · exact ⟨by omega, by omega⟩
theorem kds_two : ∀ o, o < 26 → Sy.kds o ≤ 2 := by decide
set_option maxRecDepth 100000 in
set_option maxHeartbeats 4000000 in
theorem evValue {B L cap : Nat} {s : Vs.St} (hg : Ev.Good s) : ∀ x : Sy.Ex, Sy.okx x = true → ∀ (a : Option Addr) (c : Nat) (S : Nat → Prop) (w : World), Pst w B L cap s → Tc w → KidsB w S a c x.ks →
    Calls Tryz.prog 28 #[.agg #[.int .i64 x.op, .int .i64 x.n, .slice a x.ks.length c], .pointer (some ⟨B, 0, none⟩)] w fun e w' => e = .returned (.tuple #[.int .i64 (Ev.val s x).1, .int .i64 (Ev.val s x).2]) ∧ Qw w w' := by
  refine Sy.Ex.ind fun op n ks ih hok a c S w hp ht hk => ?_
  obtain ⟨⟨o, ho, rfl, hl⟩, hka, hn⟩ := okx_node hok
  have hl2 := kds_two o ho
  rw [← hl] at hl2
  show Calls Tryz.prog 28 #[.agg #[.int .i64 (o : Int), .int .i64 n, .slice a ks.length c], .pointer (some ⟨B, 0, none⟩)] w _
  obtain ⟨l1, l2⟩ := KidsB.cap hk
  obtain ⟨rv, re, hR0⟩ : ∃ rv re, Ev.val s (.mk (o : Int) n ks) = (rv, re) := ⟨_, _, rfl⟩
  rw [hR0]
  have hR := Lib.hid hR0
  clear hR0
  have HP := Lib.hid hp
  have HT := Lib.hid ht
  have HK := Lib.hid hk
  have IH := Lib.hid ih
  have HA := Lib.hid hka
  have HN := Lib.hid hn
  have hlN := Lib.hid hl
  change KidsB w S a c ks at hk
  clear hp ht hk ih hka hok hn hl
  go_enter Tryz.func28, Tryz.ntmps28
  go_wp2_with fail
  have QS : Hid (Qw w ((w.alloc (.cells #[.int .i64 (o : Int), .int .i64 n, .slice a ks.length c] 31)).alloc (.cells #[.int .i64 0, .int .i64 0] 94))) := Lib.hid Qz
  have XS : Hid (Bx ((w.alloc (.cells #[.int .i64 (o : Int), .int .i64 n, .slice a ks.length c] 31)).alloc (.cells #[.int .i64 0, .int .i64 0] 94)) w.heap.size #[.int .i64 (o : Int), .int .i64 n, .slice a ks.length c] 31) := Lib.hid (Bx.alloc (Bx.new w _ _) _)
  have YS : Hid (Bx ((w.alloc (.cells #[.int .i64 (o : Int), .int .i64 n, .slice a ks.length c] 31)).alloc (.cells #[.int .i64 0, .int .i64 0] 94)) (w.heap.size + 1) (kcs ((ks.take 0).map (Ev.val s))) 94) := Lib.hid (by
    have := Bx.new (w.alloc (.cells #[.int .i64 (o : Int), .int .i64 n, .slice a ks.length c] 31)) #[.int .i64 0, .int .i64 0] 94
    rwa [show (w.alloc (.cells #[.int .i64 (o : Int), .int .i64 n, .slice a ks.length c] 31)).heap.size = w.heap.size + 1 by simp] at this)
  go_loopg [20] ks.length (fun g iv wr => ∃ i : Nat, i ≤ ks.length ∧ g = ks.length - i ∧ iv = .int .i64 (i : Int) ∧ Hid (Ev.fe ((ks.take i).map (Ev.val s)) = 0) ∧ Hid (Bx wr w.heap.size #[.int .i64 (o : Int), .int .i64 n, .slice a ks.length c] 31) ∧ Hid (Bx wr (w.heap.size + 1) (kcs ((ks.take i).map (Ev.val s))) 94) ∧ Qw w wr)
  case atStart => exact ⟨0, Nat.zero_le _, rfl, rfl, Lib.hid rfl, XS, YS, QS.out⟩
  case round =>
    clear XS YS QS
    obtain ⟨i, hi, rfl, rfl, hT, X, Y, hQ⟩ := hrel
    have q0 := Lib.hid hQ
    by_cases hlt : i < ks.length
    · have hKr := HK.out.kept hQ
      have HPr := Lib.hid (HP.out.kept hQ)
      have HTr := Lib.hid (HT.out.kept hQ)
      clear hQ HP HT
      change KidsB wr S a c ks at hKr
      cases hKr with
      | nl => simp at hlt
      | mk b off cap2 ks ad cc hS h1 h2 hc hkk =>
        obtain ⟨z0, z1, z2⟩ := hc i hlt
        have KK := Lib.hid (hkk i hlt)
        have hi2 : (i : Int) < (ks.length : Int) := by omega
        have hi3 : (i : Int) < 2 := by omega
        have cr := fun w1 (h : KidsB w1 S (ad i) (cc i) ks[i].ks) (hp : Pst w1 B L cap s) (ht : Tc w1) => IH.out ks[i] (List.getElem_mem hlt) (HA.out _ (List.getElem_mem hlt)) (ad i) (cc i) S w1 hp ht h
        have bl := cell_lt z0
        have hne : b ≠ wr.heap.size := by omega
        have szr := q0.out.size
        have eM := val_more (s := s) hlt
        have eK := fun v => kcs_set (l := (ks.take i).map (Ev.val s)) (i := i) (by rw [List.length_map, List.length_take]; omega) (by omega) v
        by_cases hv : (Ev.val s ks[i]).2 = 0
        · have eF0 := Ev.fe_more hT.out hv
          have eK0 := eK (Ev.val s ks[i])
          rw [← eM] at eF0 eK0
          rw [hv] at cr
          have eF := Lib.hid eF0
          have EK := Lib.hid eK0
          have CR := Lib.hid cr
          obtain ⟨uo, huo⟩ := kcs_at ((ks.take i).map (Ev.val s)) (show i < 2 by omega)
          replace huo := Lib.hid huo
          clear cr eM eK hc hkk hT eF0 eK0 hv
          generalize (Ev.val s ks[i]).1 = v1 at *
          go_wp2_with (go_at_call 28; ((with_reducible refine (CR.out _ (KidsB.kept KK.out (by repeat (first | exact Qw.refl _ | refine Qw.al ?_ _ | refine Qw.dr ?_ | refine Qw.dn ?_ _ | refine Qw.sc ?_ (by first | (simp; done) | omega | (simp; omega)) _))) (HPr.out.kept (by repeat (first | exact Qw.refl _ | refine Qw.al ?_ _ | refine Qw.dr ?_ | refine Qw.dn ?_ _ | refine Qw.sc ?_ (by first | (simp; done) | omega | (simp; omega)) _))) (Tc.kept HTr.out (by repeat (first | exact Qw.refl _ | refine Qw.al ?_ _ | refine Qw.dr ?_ | refine Qw.dn ?_ _ | refine Qw.sc ?_ (by first | (simp; done) | omega | (simp; omega)) _)))).mono ?_); rintro e w' ⟨rfl, q⟩; replace X := Lib.hid (X.out.kept (Qw.trans (by repeat (first | exact Qw.refl _ | refine Qw.al ?_ _ | refine Qw.dr ?_ | refine Qw.dn ?_ _ | refine Qw.sc ?_ (by first | (simp; done) | omega | (simp; omega)) _)) q)); replace Y := Lib.hid (Y.out.kept (Qw.trans (by repeat (first | exact Qw.refl _ | refine Qw.al ?_ _ | refine Qw.dr ?_ | refine Qw.dn ?_ _ | refine Qw.sc ?_ (by first | (simp; done) | omega | (simp; omega)) _)) q)); have yf := Y.out.free i; have yc := Y.out.cell' i _ huo.out; replace q0 : Hid (Qw w w') := Lib.hid (Qw.trans Qz q); clear q))
          go_roundg (ks.length - (i + 1))
          case measure => omega
          case rel => exact ⟨i + 1, by omega, rfl, by go_num, eF, Lib.hid (X.out.other (by simp) _), Lib.hid (by have := Y.out.set i (.int .i64 v1); rwa [EK.out] at this), Qw.sc q0.out (by simp) _⟩
        · have eE := Lib.hid (val_err hlt hT.out hv (o : Int) n)
          have hvn : ((Ev.val s ks[i]).2 != 0) = true := by simpa using hv
          have CR := Lib.hid cr
          clear cr eM eK hc hkk hT hv
          have eR := Lib.hid (Prod.mk.inj (hR.out.symm.trans eE.out))
          clear eE
          generalize (Ev.val s ks[i]).1 = v1 at *
          generalize (Ev.val s ks[i]).2 = v2 at *
          go_wp2_with (go_at_call 28; ((with_reducible refine (CR.out _ (KidsB.kept KK.out (by repeat (first | exact Qw.refl _ | refine Qw.al ?_ _ | refine Qw.dr ?_ | refine Qw.dn ?_ _ | refine Qw.sc ?_ (by first | (simp; done) | omega | (simp; omega)) _))) (HPr.out.kept (by repeat (first | exact Qw.refl _ | refine Qw.al ?_ _ | refine Qw.dr ?_ | refine Qw.dn ?_ _ | refine Qw.sc ?_ (by first | (simp; done) | omega | (simp; omega)) _))) (Tc.kept HTr.out (by repeat (first | exact Qw.refl _ | refine Qw.al ?_ _ | refine Qw.dr ?_ | refine Qw.dn ?_ _ | refine Qw.sc ?_ (by first | (simp; done) | omega | (simp; omega)) _)))).mono ?_); rintro e w' ⟨rfl, q⟩; replace q0 : Hid (Qw w w') := Lib.hid (Qw.trans Qz q); clear q))
          go_ret2
          exact ⟨ret_iib eR.out.1.symm eR.out.2.symm, q0.out⟩
    · obtain rfl : i = ks.length := by omega
      have HPr := Lib.hid (HP.out.kept hQ)
      have HTr := Lib.hid (HT.out.kept hQ)
      have HAh := HA
      clear hQ HP HT HK IH
      have hb : ¬ (ks.length : Int) < (ks.length : Int) := by omega
      have hF := hT.out
      replace Y := Y.out
      rw [List.take_length] at hF Y
      have eV := val_opv (n := n) hF o
      rw [hR.out] at eV
      have bl : ∀ v ∈ ks.map (Ev.val s), Ev.Bd v.1 := fun v hv => by
        obtain ⟨x, hx, rfl⟩ := List.mem_map.1 hv
        exact Ev.val_bd hg x (HAh.out x hx)
      obtain ⟨a1, a2⟩ := Ev.kv_bd bl 0
      obtain ⟨b1, b2⟩ := Ev.kv_bd bl 1
      have y0 : wr.cell? ⟨w.heap.size + 1, 0, none⟩ = some (.int .i64 (Ev.kv (ks.map (Ev.val s)) 0)) := Y.cell' 0 _ rfl
      have y1 : wr.cell? ⟨w.heap.size + 1, 1, none⟩ = some (.int .i64 (Ev.kv (ks.map (Ev.val s)) 1)) := Y.cell' 1 _ rfl
      clear bl hF hT Y hR hlN hl2 HAh HA
      generalize Ev.kv (ks.map (Ev.val s)) 0 = A at *
      generalize Ev.kv (ks.map (Ev.val s)) 1 = D at *
      have hcs : o = 0 ∨ o = 1 ∨ o = 2 ∨ o = 3 ∨ o = 4 ∨ o = 5 ∨ o = 6 ∨ o = 7 ∨ o = 8 ∨ o = 9 ∨ o = 10 ∨ o = 11 ∨ o = 12 ∨ o = 13 ∨ o = 14 ∨ o = 15 ∨ o = 16 ∨ o = 17 ∨ o = 18 ∨ o = 19 ∨ o = 20 ∨ o = 21 ∨ o = 22 ∨ o = 23 ∨ o = 24 ∨ o = 25 := by omega
      clear ho
      rcases hcs with rfl | rfl | rfl | rfl | rfl | rfl | rfl | rfl | rfl | rfl | rfl | rfl | rfl | rfl | rfl | rfl | rfl | rfl | rfl | rfl | rfl | rfl | rfl | rfl | rfl | rfl
      · have x0 : wr.cell? ⟨w.heap.size, 0, none⟩ = some (.int .i64 0) := X.out.cell' 0 _ rfl
        have x1 : wr.cell? ⟨w.heap.size, 1, none⟩ = some (.int .i64 n) := X.out.cell' 1 _ rfl
        have E : Hid (rv = n ∧ re = 0) := Lib.hid (Prod.mk.inj eV)
        clear eV
        go_wp2_with fail
        refine region_deep (by kernel_rfl) (by as_aux_lemma => kernel_rfl) ?_
        repeat (go_big_quiet_step (fail))
        refine wpQuiet_nil ?_
        intro _ hw'
        obtain ⟨nq, hw''⟩ := hw'
        subst hw''
        go_wp2_with fail
        go_ret2
        exact ⟨ret_iib E.out.1.symm E.out.2.symm, Qz⟩
      · have x0 : wr.cell? ⟨w.heap.size, 0, none⟩ = some (.int .i64 1) := X.out.cell' 0 _ rfl
        have E : Hid (rv = (Ev.varv s A).1 ∧ re = (Ev.varv s A).2) := Lib.hid (Prod.mk.inj eV)
        clear eV
        have C := Lib.hid (fun (w1 : World) (h : Pst w1 B L cap s) => evVariable h A)
        generalize (Ev.varv s A).1 = vv at *
        generalize (Ev.varv s A).2 = ee at *
        go_wp2_with fail
        refine region_deep (by kernel_rfl) (by as_aux_lemma => kernel_rfl) ?_
        repeat (go_big_quiet_step (fail))
        refine wpQuiet_nil ?_
        intro _ hw'
        obtain ⟨nq, hw''⟩ := hw'
        subst hw''
        go_wp2_with (go_at_call 50; ((with_reducible refine (C.out _ (HPr.out.kept (by repeat (first | exact Qw.refl _ | refine Qw.dn ?_ _)))).mono ?_); rintro e w' ⟨rfl, q⟩; replace q0 : Hid (Qw w w') := Lib.hid (Qw.trans Qz q); clear q))
        go_ret2
        exact ⟨ret_iib E.out.1.symm E.out.2.symm, Qz⟩
      · have x0 : wr.cell? ⟨w.heap.size, 0, none⟩ = some (.int .i64 2) := X.out.cell' 0 _ rfl
        have E : Hid (rv = (-A) ∧ re = 0) := Lib.hid (Prod.mk.inj eV)
        clear eV
        have nA : IntKind.i64.wrap (-A) = -A := IntWalk.i64_in _ (by omega)
        go_wp2_with fail
        refine region_deep (by kernel_rfl) (by as_aux_lemma => kernel_rfl) ?_
        repeat (go_big_quiet_step (fail))
        refine wpQuiet_nil ?_
        intro _ hw'
        obtain ⟨nq, hw''⟩ := hw'
        subst hw''
        go_wp2_with fail
        go_ret2
        exact ⟨ret_iib E.out.1.symm E.out.2.symm, Qz⟩
      · have x0 : wr.cell? ⟨w.heap.size, 0, none⟩ = some (.int .i64 3) := X.out.cell' 0 _ rfl
        have E : Hid (rv = (addv A D) ∧ re = (adde A D)) := Lib.hid (Prod.mk.inj eV)
        clear eV
        have C := Lib.hid (fun (w1 : World) => fxAdd A D w1)
        generalize (addv A D) = vv at *
        generalize (adde A D) = ee at *
        go_wp2_with fail
        refine region_deep (by kernel_rfl) (by as_aux_lemma => kernel_rfl) ?_
        repeat (go_big_quiet_step (fail))
        refine wpQuiet_nil ?_
        intro _ hw'
        obtain ⟨nq, hw''⟩ := hw'
        subst hw''
        go_wp2_with fail
        refine code_of (fun z => Qw wr z) (by repeat (first | exact Qw.refl _ | refine Qw.dn ?_ _)) ?_
        intro w1 q1
        have k0 : ∀ p : Kept w1, p.v.cell? ⟨w.heap.size, 0, none⟩ = some (.int .i64 3) := fun p => ((X.out.kept q1).kept p.h).cell' 0 _ rfl
        have D0 : Hid (∀ p : Kept w1, Calls Tryz.prog 58 #[] p.v fun e w' => e = .returned (.agg #[.nilFunc, .nilFunc, .nilFunc, .func (Fn.func 85) #[] #[], .func (Fn.func 86) #[] #[], .func (Fn.func 87) #[] #[], .func (Fn.func 88) #[] #[], .func (Fn.func 89) #[] #[], .nilFunc, .nilFunc, .nilFunc, .func (Fn.func 90) #[] #[], .nilFunc, .nilFunc, .nilFunc, .nilFunc, .nilFunc, .func (Fn.func 91) #[] #[], .func (Fn.func 93) #[] #[], .func (Fn.func 94) #[] #[], .func (Fn.func 95) #[] #[], .func (Fn.func 96) #[] #[], .func (Fn.func 97) #[] #[], .func (Fn.func 98) #[] #[], .func (Fn.func 99) #[] #[], .func (Fn.func 100) #[] #[]]) ∧ Qw p.v w') := Lib.hid fun p => evBinary p.v
        have D1 : Hid (∀ p : Kept w1, Calls Tryz.prog 85 #[.int .i64 A, .int .i64 D] p.v fun e w' => e = .returned (.tuple #[.int .i64 vv, .int .i64 ee]) ∧ p.v = w') := Lib.hid fun p => C.out _
        have kx : ∀ w', (Instr.index 101 (.agg #[.nilFunc, .nilFunc, .nilFunc, .func (Fn.func 85) #[] #[], .func (Fn.func 86) #[] #[], .func (Fn.func 87) #[] #[], .func (Fn.func 88) #[] #[], .func (Fn.func 89) #[] #[], .nilFunc, .nilFunc, .nilFunc, .func (Fn.func 90) #[] #[], .nilFunc, .nilFunc, .nilFunc, .nilFunc, .nilFunc, .func (Fn.func 91) #[] #[], .func (Fn.func 93) #[] #[], .func (Fn.func 94) #[] #[], .func (Fn.func 95) #[] #[], .func (Fn.func 96) #[] #[], .func (Fn.func 97) #[] #[], .func (Fn.func 98) #[] #[], .func (Fn.func 99) #[] #[], .func (Fn.func 100) #[] #[]]) (.int .i64 3)).run Tryz.prog w' = .ok (.func (Fn.func 85) #[] #[]) w' := fun w' => by kernel_rfl
        replace q0 := Lib.hid (Qw.trans q0.out q1)
        refine region_kept (by kernel_rfl) (by kernel_rfl) ?_
        repeat (go_big_quiet_step (first | (go_at_call 58; with_reducible exact Kept.call (D0.out _)) | (go_at_call 85; with_reducible exact Kept.same (D1.out _))))
        refine wpQuiet_nil ?_
        intro w2 q
        go_wp2_with fail
        go_ret2
        exact ⟨ret_iib E.out.1.symm E.out.2.symm, q0.out.trans q⟩
      · have x0 : wr.cell? ⟨w.heap.size, 0, none⟩ = some (.int .i64 4) := X.out.cell' 0 _ rfl
        have E : Hid (rv = (subv A D) ∧ re = (sube A D)) := Lib.hid (Prod.mk.inj eV)
        clear eV
        have C := Lib.hid (fun (w1 : World) => fxSub A D w1)
        generalize (subv A D) = vv at *
        generalize (sube A D) = ee at *
        go_wp2_with fail
        refine region_deep (by kernel_rfl) (by as_aux_lemma => kernel_rfl) ?_
        repeat (go_big_quiet_step (fail))
        refine wpQuiet_nil ?_
        intro _ hw'
        obtain ⟨nq, hw''⟩ := hw'
        subst hw''
        go_wp2_with fail
        refine code_of (fun z => Qw wr z) (by repeat (first | exact Qw.refl _ | refine Qw.dn ?_ _)) ?_
        intro w1 q1
        have k0 : ∀ p : Kept w1, p.v.cell? ⟨w.heap.size, 0, none⟩ = some (.int .i64 4) := fun p => ((X.out.kept q1).kept p.h).cell' 0 _ rfl
        have D0 : Hid (∀ p : Kept w1, Calls Tryz.prog 58 #[] p.v fun e w' => e = .returned (.agg #[.nilFunc, .nilFunc, .nilFunc, .func (Fn.func 85) #[] #[], .func (Fn.func 86) #[] #[], .func (Fn.func 87) #[] #[], .func (Fn.func 88) #[] #[], .func (Fn.func 89) #[] #[], .nilFunc, .nilFunc, .nilFunc, .func (Fn.func 90) #[] #[], .nilFunc, .nilFunc, .nilFunc, .nilFunc, .nilFunc, .func (Fn.func 91) #[] #[], .func (Fn.func 93) #[] #[], .func (Fn.func 94) #[] #[], .func (Fn.func 95) #[] #[], .func (Fn.func 96) #[] #[], .func (Fn.func 97) #[] #[], .func (Fn.func 98) #[] #[], .func (Fn.func 99) #[] #[], .func (Fn.func 100) #[] #[]]) ∧ Qw p.v w') := Lib.hid fun p => evBinary p.v
        have D1 : Hid (∀ p : Kept w1, Calls Tryz.prog 86 #[.int .i64 A, .int .i64 D] p.v fun e w' => e = .returned (.tuple #[.int .i64 vv, .int .i64 ee]) ∧ p.v = w') := Lib.hid fun p => C.out _
        have kx : ∀ w', (Instr.index 101 (.agg #[.nilFunc, .nilFunc, .nilFunc, .func (Fn.func 85) #[] #[], .func (Fn.func 86) #[] #[], .func (Fn.func 87) #[] #[], .func (Fn.func 88) #[] #[], .func (Fn.func 89) #[] #[], .nilFunc, .nilFunc, .nilFunc, .func (Fn.func 90) #[] #[], .nilFunc, .nilFunc, .nilFunc, .nilFunc, .nilFunc, .func (Fn.func 91) #[] #[], .func (Fn.func 93) #[] #[], .func (Fn.func 94) #[] #[], .func (Fn.func 95) #[] #[], .func (Fn.func 96) #[] #[], .func (Fn.func 97) #[] #[], .func (Fn.func 98) #[] #[], .func (Fn.func 99) #[] #[], .func (Fn.func 100) #[] #[]]) (.int .i64 4)).run Tryz.prog w' = .ok (.func (Fn.func 86) #[] #[]) w' := fun w' => by kernel_rfl
        replace q0 := Lib.hid (Qw.trans q0.out q1)
        refine region_kept (by kernel_rfl) (by kernel_rfl) ?_
        repeat (go_big_quiet_step (first | (go_at_call 58; with_reducible exact Kept.call (D0.out _)) | (go_at_call 86; with_reducible exact Kept.same (D1.out _))))
        refine wpQuiet_nil ?_
        intro w2 q
        go_wp2_with fail
        go_ret2
        exact ⟨ret_iib E.out.1.symm E.out.2.symm, q0.out.trans q⟩
      · have x0 : wr.cell? ⟨w.heap.size, 0, none⟩ = some (.int .i64 5) := X.out.cell' 0 _ rfl
        have E : Hid (rv = (mulv A D) ∧ re = (mule A D)) := Lib.hid (Prod.mk.inj eV)
        clear eV
        have C := Lib.hid (fun (w1 : World) => fxMul A D w1)
        generalize (mulv A D) = vv at *
        generalize (mule A D) = ee at *
        go_wp2_with fail
        refine region_deep (by kernel_rfl) (by as_aux_lemma => kernel_rfl) ?_
        repeat (go_big_quiet_step (fail))
        refine wpQuiet_nil ?_
        intro _ hw'
        obtain ⟨nq, hw''⟩ := hw'
        subst hw''
        go_wp2_with fail
        refine code_of (fun z => Qw wr z) (by repeat (first | exact Qw.refl _ | refine Qw.dn ?_ _)) ?_
        intro w1 q1
        have k0 : ∀ p : Kept w1, p.v.cell? ⟨w.heap.size, 0, none⟩ = some (.int .i64 5) := fun p => ((X.out.kept q1).kept p.h).cell' 0 _ rfl
        have D0 : Hid (∀ p : Kept w1, Calls Tryz.prog 58 #[] p.v fun e w' => e = .returned (.agg #[.nilFunc, .nilFunc, .nilFunc, .func (Fn.func 85) #[] #[], .func (Fn.func 86) #[] #[], .func (Fn.func 87) #[] #[], .func (Fn.func 88) #[] #[], .func (Fn.func 89) #[] #[], .nilFunc, .nilFunc, .nilFunc, .func (Fn.func 90) #[] #[], .nilFunc, .nilFunc, .nilFunc, .nilFunc, .nilFunc, .func (Fn.func 91) #[] #[], .func (Fn.func 93) #[] #[], .func (Fn.func 94) #[] #[], .func (Fn.func 95) #[] #[], .func (Fn.func 96) #[] #[], .func (Fn.func 97) #[] #[], .func (Fn.func 98) #[] #[], .func (Fn.func 99) #[] #[], .func (Fn.func 100) #[] #[]]) ∧ Qw p.v w') := Lib.hid fun p => evBinary p.v
        have D1 : Hid (∀ p : Kept w1, Calls Tryz.prog 87 #[.int .i64 A, .int .i64 D] p.v fun e w' => e = .returned (.tuple #[.int .i64 vv, .int .i64 ee]) ∧ Qw p.v w') := Lib.hid fun p => C.out _
        have kx : ∀ w', (Instr.index 101 (.agg #[.nilFunc, .nilFunc, .nilFunc, .func (Fn.func 85) #[] #[], .func (Fn.func 86) #[] #[], .func (Fn.func 87) #[] #[], .func (Fn.func 88) #[] #[], .func (Fn.func 89) #[] #[], .nilFunc, .nilFunc, .nilFunc, .func (Fn.func 90) #[] #[], .nilFunc, .nilFunc, .nilFunc, .nilFunc, .nilFunc, .func (Fn.func 91) #[] #[], .func (Fn.func 93) #[] #[], .func (Fn.func 94) #[] #[], .func (Fn.func 95) #[] #[], .func (Fn.func 96) #[] #[], .func (Fn.func 97) #[] #[], .func (Fn.func 98) #[] #[], .func (Fn.func 99) #[] #[], .func (Fn.func 100) #[] #[]]) (.int .i64 5)).run Tryz.prog w' = .ok (.func (Fn.func 87) #[] #[]) w' := fun w' => by kernel_rfl
        replace q0 := Lib.hid (Qw.trans q0.out q1)
        refine region_kept (by kernel_rfl) (by kernel_rfl) ?_
        repeat (go_big_quiet_step (first | (go_at_call 58; with_reducible exact Kept.call (D0.out _)) | (go_at_call 87; with_reducible exact Kept.call (D1.out _))))
        refine wpQuiet_nil ?_
        intro w2 q
        go_wp2_with fail
        go_ret2
        exact ⟨ret_iib E.out.1.symm E.out.2.symm, q0.out.trans q⟩
      · have x0 : wr.cell? ⟨w.heap.size, 0, none⟩ = some (.int .i64 6) := X.out.cell' 0 _ rfl
        have E : Hid (rv = (divv A D) ∧ re = (dive A D)) := Lib.hid (Prod.mk.inj eV)
        clear eV
        have C := Lib.hid (fun (w1 : World) => fxDiv A D w1)
        generalize (divv A D) = vv at *
        generalize (dive A D) = ee at *
        go_wp2_with fail
        refine region_deep (by kernel_rfl) (by as_aux_lemma => kernel_rfl) ?_
        repeat (go_big_quiet_step (fail))
        refine wpQuiet_nil ?_
        intro _ hw'
        obtain ⟨nq, hw''⟩ := hw'
        subst hw''
        go_wp2_with fail
        refine code_of (fun z => Qw wr z) (by repeat (first | exact Qw.refl _ | refine Qw.dn ?_ _)) ?_
        intro w1 q1
        have k0 : ∀ p : Kept w1, p.v.cell? ⟨w.heap.size, 0, none⟩ = some (.int .i64 6) := fun p => ((X.out.kept q1).kept p.h).cell' 0 _ rfl
        have D0 : Hid (∀ p : Kept w1, Calls Tryz.prog 58 #[] p.v fun e w' => e = .returned (.agg #[.nilFunc, .nilFunc, .nilFunc, .func (Fn.func 85) #[] #[], .func (Fn.func 86) #[] #[], .func (Fn.func 87) #[] #[], .func (Fn.func 88) #[] #[], .func (Fn.func 89) #[] #[], .nilFunc, .nilFunc, .nilFunc, .func (Fn.func 90) #[] #[], .nilFunc, .nilFunc, .nilFunc, .nilFunc, .nilFunc, .func (Fn.func 91) #[] #[], .func (Fn.func 93) #[] #[], .func (Fn.func 94) #[] #[], .func (Fn.func 95) #[] #[], .func (Fn.func 96) #[] #[], .func (Fn.func 97) #[] #[], .func (Fn.func 98) #[] #[], .func (Fn.func 99) #[] #[], .func (Fn.func 100) #[] #[]]) ∧ Qw p.v w') := Lib.hid fun p => evBinary p.v
        have D1 : Hid (∀ p : Kept w1, Calls Tryz.prog 88 #[.int .i64 A, .int .i64 D] p.v fun e w' => e = .returned (.tuple #[.int .i64 vv, .int .i64 ee]) ∧ Qw p.v w') := Lib.hid fun p => C.out _
        have kx : ∀ w', (Instr.index 101 (.agg #[.nilFunc, .nilFunc, .nilFunc, .func (Fn.func 85) #[] #[], .func (Fn.func 86) #[] #[], .func (Fn.func 87) #[] #[], .func (Fn.func 88) #[] #[], .func (Fn.func 89) #[] #[], .nilFunc, .nilFunc, .nilFunc, .func (Fn.func 90) #[] #[], .nilFunc, .nilFunc, .nilFunc, .nilFunc, .nilFunc, .func (Fn.func 91) #[] #[], .func (Fn.func 93) #[] #[], .func (Fn.func 94) #[] #[], .func (Fn.func 95) #[] #[], .func (Fn.func 96) #[] #[], .func (Fn.func 97) #[] #[], .func (Fn.func 98) #[] #[], .func (Fn.func 99) #[] #[], .func (Fn.func 100) #[] #[]]) (.int .i64 6)).run Tryz.prog w' = .ok (.func (Fn.func 88) #[] #[]) w' := fun w' => by kernel_rfl
        replace q0 := Lib.hid (Qw.trans q0.out q1)
        refine region_kept (by kernel_rfl) (by kernel_rfl) ?_
        repeat (go_big_quiet_step (first | (go_at_call 58; with_reducible exact Kept.call (D0.out _)) | (go_at_call 88; with_reducible exact Kept.call (D1.out _))))
        refine wpQuiet_nil ?_
        intro w2 q
        go_wp2_with fail
        go_ret2
        exact ⟨ret_iib E.out.1.symm E.out.2.symm, q0.out.trans q⟩
      · have x0 : wr.cell? ⟨w.heap.size, 0, none⟩ = some (.int .i64 7) := X.out.cell' 0 _ rfl
        have E : Hid (rv = (modv A D) ∧ re = (dve A D)) := Lib.hid (Prod.mk.inj eV)
        clear eV
        have C := Lib.hid (fun (w1 : World) => fxMod A D w1)
        generalize (modv A D) = vv at *
        generalize (dve A D) = ee at *
        go_wp2_with fail
        refine region_deep (by kernel_rfl) (by as_aux_lemma => kernel_rfl) ?_
        repeat (go_big_quiet_step (fail))
        refine wpQuiet_nil ?_
        intro _ hw'
        obtain ⟨nq, hw''⟩ := hw'
        subst hw''
        go_wp2_with fail
        refine code_of (fun z => Qw wr z) (by repeat (first | exact Qw.refl _ | refine Qw.dn ?_ _)) ?_
        intro w1 q1
        have k0 : ∀ p : Kept w1, p.v.cell? ⟨w.heap.size, 0, none⟩ = some (.int .i64 7) := fun p => ((X.out.kept q1).kept p.h).cell' 0 _ rfl
        have D0 : Hid (∀ p : Kept w1, Calls Tryz.prog 58 #[] p.v fun e w' => e = .returned (.agg #[.nilFunc, .nilFunc, .nilFunc, .func (Fn.func 85) #[] #[], .func (Fn.func 86) #[] #[], .func (Fn.func 87) #[] #[], .func (Fn.func 88) #[] #[], .func (Fn.func 89) #[] #[], .nilFunc, .nilFunc, .nilFunc, .func (Fn.func 90) #[] #[], .nilFunc, .nilFunc, .nilFunc, .nilFunc, .nilFunc, .func (Fn.func 91) #[] #[], .func (Fn.func 93) #[] #[], .func (Fn.func 94) #[] #[], .func (Fn.func 95) #[] #[], .func (Fn.func 96) #[] #[], .func (Fn.func 97) #[] #[], .func (Fn.func 98) #[] #[], .func (Fn.func 99) #[] #[], .func (Fn.func 100) #[] #[]]) ∧ Qw p.v w') := Lib.hid fun p => evBinary p.v
        have D1 : Hid (∀ p : Kept w1, Calls Tryz.prog 89 #[.int .i64 A, .int .i64 D] p.v fun e w' => e = .returned (.tuple #[.int .i64 vv, .int .i64 ee]) ∧ p.v = w') := Lib.hid fun p => C.out _
        have kx : ∀ w', (Instr.index 101 (.agg #[.nilFunc, .nilFunc, .nilFunc, .func (Fn.func 85) #[] #[], .func (Fn.func 86) #[] #[], .func (Fn.func 87) #[] #[], .func (Fn.func 88) #[] #[], .func (Fn.func 89) #[] #[], .nilFunc, .nilFunc, .nilFunc, .func (Fn.func 90) #[] #[], .nilFunc, .nilFunc, .nilFunc, .nilFunc, .nilFunc, .func (Fn.func 91) #[] #[], .func (Fn.func 93) #[] #[], .func (Fn.func 94) #[] #[], .func (Fn.func 95) #[] #[], .func (Fn.func 96) #[] #[], .func (Fn.func 97) #[] #[], .func (Fn.func 98) #[] #[], .func (Fn.func 99) #[] #[], .func (Fn.func 100) #[] #[]]) (.int .i64 7)).run Tryz.prog w' = .ok (.func (Fn.func 89) #[] #[]) w' := fun w' => by kernel_rfl
        replace q0 := Lib.hid (Qw.trans q0.out q1)
        refine region_kept (by kernel_rfl) (by kernel_rfl) ?_
        repeat (go_big_quiet_step (first | (go_at_call 58; with_reducible exact Kept.call (D0.out _)) | (go_at_call 89; with_reducible exact Kept.same (D1.out _))))
        refine wpQuiet_nil ?_
        intro w2 q
        go_wp2_with fail
        go_ret2
        exact ⟨ret_iib E.out.1.symm E.out.2.symm, q0.out.trans q⟩
      · have x0 : wr.cell? ⟨w.heap.size, 0, none⟩ = some (.int .i64 8) := X.out.cell' 0 _ rfl
        have E : Hid (rv = (Ev.quo (Cm.sc A).2 1073741824).1 ∧ re = (Ev.quo (Cm.sc A).2 1073741824).2) := Lib.hid (Prod.mk.inj eV)
        clear eV
        have S1 := Lib.hid (fun (w1 : World) (h : Tc w1) => co_sincos A (by omega) (by omega) w1 h)
        obtain ⟨⟨s1, s2⟩, s3, s4⟩ := sc_int A
        have C := Lib.hid (fun (w1 : World) => evScaled (Cm.sc A).2 (by omega) (by omega) w1)
        generalize (Ev.quo (Cm.sc A).2 1073741824).1 = vv at *
        generalize (Ev.quo (Cm.sc A).2 1073741824).2 = ee at *
        generalize (Cm.sc A).1 = cc at *
        generalize (Cm.sc A).2 = ss at *
        go_wp2_with fail
        refine region_deep (by kernel_rfl) (by as_aux_lemma => kernel_rfl) ?_
        repeat (go_big_quiet_step (fail))
        refine wpQuiet_nil ?_
        intro _ hw'
        obtain ⟨nq, hw''⟩ := hw'
        subst hw''
        go_wp2_with (first
          | (go_at_call 51; ((with_reducible refine (S1.out _ (HTr.out.kept (by repeat (first | exact Qw.refl _ | refine Qw.dn ?_ _)))).mono ?_); rintro e w' ⟨rfl, q⟩; replace q0 : Hid (Qw w w') := Lib.hid (Qw.trans Qz q); clear q))
          | (go_at_call 52; ((with_reducible refine (C.out _).mono ?_); rintro e w' ⟨rfl, q⟩; replace q0 : Hid (Qw w w') := Lib.hid (Qw.trans Qz q); clear q)))
        go_ret2
        exact ⟨ret_iib E.out.1.symm E.out.2.symm, Qz⟩
      · have x0 : wr.cell? ⟨w.heap.size, 0, none⟩ = some (.int .i64 9) := X.out.cell' 0 _ rfl
        have E : Hid (rv = (Ev.quo (Cm.sc A).1 1073741824).1 ∧ re = (Ev.quo (Cm.sc A).1 1073741824).2) := Lib.hid (Prod.mk.inj eV)
        clear eV
        have S1 := Lib.hid (fun (w1 : World) (h : Tc w1) => co_sincos A (by omega) (by omega) w1 h)
        obtain ⟨⟨s1, s2⟩, s3, s4⟩ := sc_int A
        have C := Lib.hid (fun (w1 : World) => evScaled (Cm.sc A).1 (by omega) (by omega) w1)
        generalize (Ev.quo (Cm.sc A).1 1073741824).1 = vv at *
        generalize (Ev.quo (Cm.sc A).1 1073741824).2 = ee at *
        generalize (Cm.sc A).1 = cc at *
        generalize (Cm.sc A).2 = ss at *
        go_wp2_with fail
        refine region_deep (by kernel_rfl) (by as_aux_lemma => kernel_rfl) ?_
        repeat (go_big_quiet_step (fail))
        refine wpQuiet_nil ?_
        intro _ hw'
        obtain ⟨nq, hw''⟩ := hw'
        subst hw''
        go_wp2_with (first
          | (go_at_call 51; ((with_reducible refine (S1.out _ (HTr.out.kept (by repeat (first | exact Qw.refl _ | refine Qw.dn ?_ _)))).mono ?_); rintro e w' ⟨rfl, q⟩; replace q0 : Hid (Qw w w') := Lib.hid (Qw.trans Qz q); clear q))
          | (go_at_call 52; ((with_reducible refine (C.out _).mono ?_); rintro e w' ⟨rfl, q⟩; replace q0 : Hid (Qw w w') := Lib.hid (Qw.trans Qz q); clear q)))
        go_ret2
        exact ⟨ret_iib E.out.1.symm E.out.2.symm, Qz⟩
      · have x0 : wr.cell? ⟨w.heap.size, 0, none⟩ = some (.int .i64 10) := X.out.cell' 0 _ rfl
        have E : Hid (rv = (Ev.tanv A).1 ∧ re = (Ev.tanv A).2) := Lib.hid (Prod.mk.inj eV)
        clear eV
        have S1 := Lib.hid (fun (w1 : World) (h : Tc w1) => co_sincos A (by omega) (by omega) w1 h)
        obtain ⟨⟨s1, s2⟩, s3, s4⟩ := sc_int A
        have C := Lib.hid (fun (w1 : World) => evTangent (Cm.sc A).2 (Cm.sc A).1 (by omega) (by omega) (by omega) (by omega) w1)
        unfold Ev.tanv at E
        generalize (if (Cm.sc A).1 = 0 then (0, 4) else Ev.quo (Cm.sc A).2 (Cm.sc A).1).1 = vv at *
        generalize (if (Cm.sc A).1 = 0 then (0, 4) else Ev.quo (Cm.sc A).2 (Cm.sc A).1).2 = ee at *
        generalize (Cm.sc A).1 = cc at *
        generalize (Cm.sc A).2 = ss at *
        go_wp2_with fail
        refine region_deep (by kernel_rfl) (by as_aux_lemma => kernel_rfl) ?_
        repeat (go_big_quiet_step (fail))
        refine wpQuiet_nil ?_
        intro _ hw'
        obtain ⟨nq, hw''⟩ := hw'
        subst hw''
        go_wp2_with (first
          | (go_at_call 51; ((with_reducible refine (S1.out _ (HTr.out.kept (by repeat (first | exact Qw.refl _ | refine Qw.dn ?_ _)))).mono ?_); rintro e w' ⟨rfl, q⟩; replace q0 : Hid (Qw w w') := Lib.hid (Qw.trans Qz q); clear q))
          | (go_at_call 53; ((with_reducible refine (C.out _).mono ?_); rintro e w' ⟨rfl, q⟩; replace q0 : Hid (Qw w w') := Lib.hid (Qw.trans Qz q); clear q)))
        go_ret2
        exact ⟨ret_iib E.out.1.symm E.out.2.symm, Qz⟩
      · have x0 : wr.cell? ⟨w.heap.size, 0, none⟩ = some (.int .i64 11) := X.out.cell' 0 _ rfl
        have E : Hid (rv = (Ev.dirv A D).1 ∧ re = (Ev.dirv A D).2) := Lib.hid (Prod.mk.inj eV)
        clear eV
        have C := Lib.hid (fun (w1 : World) (h : Tc w1) => evDirection A D ⟨a1, a2⟩ ⟨b1, b2⟩ w1 h)
        generalize (Ev.dirv A D).1 = vv at *
        generalize (Ev.dirv A D).2 = ee at *
        go_wp2_with fail
        refine region_deep (by kernel_rfl) (by as_aux_lemma => kernel_rfl) ?_
        repeat (go_big_quiet_step (fail))
        refine wpQuiet_nil ?_
        intro _ hw'
        obtain ⟨nq, hw''⟩ := hw'
        subst hw''
        go_wp2_with fail
        refine code_of (fun z => Qw wr z) (by repeat (first | exact Qw.refl _ | refine Qw.dn ?_ _)) ?_
        intro w1 q1
        have k0 : ∀ p : Kept w1, p.v.cell? ⟨w.heap.size, 0, none⟩ = some (.int .i64 11) := fun p => ((X.out.kept q1).kept p.h).cell' 0 _ rfl
        have D0 : Hid (∀ p : Kept w1, Calls Tryz.prog 58 #[] p.v fun e w' => e = .returned (.agg #[.nilFunc, .nilFunc, .nilFunc, .func (Fn.func 85) #[] #[], .func (Fn.func 86) #[] #[], .func (Fn.func 87) #[] #[], .func (Fn.func 88) #[] #[], .func (Fn.func 89) #[] #[], .nilFunc, .nilFunc, .nilFunc, .func (Fn.func 90) #[] #[], .nilFunc, .nilFunc, .nilFunc, .nilFunc, .nilFunc, .func (Fn.func 91) #[] #[], .func (Fn.func 93) #[] #[], .func (Fn.func 94) #[] #[], .func (Fn.func 95) #[] #[], .func (Fn.func 96) #[] #[], .func (Fn.func 97) #[] #[], .func (Fn.func 98) #[] #[], .func (Fn.func 99) #[] #[], .func (Fn.func 100) #[] #[]]) ∧ Qw p.v w') := Lib.hid fun p => evBinary p.v
        have D1 : Hid (∀ p : Kept w1, Calls Tryz.prog 90 #[.int .i64 A, .int .i64 D] p.v fun e w' => e = .returned (.tuple #[.int .i64 vv, .int .i64 ee]) ∧ Qw p.v w') := Lib.hid fun p => C.out _ (HTr.out.kept (q1.trans p.h))
        have kx : ∀ w', (Instr.index 101 (.agg #[.nilFunc, .nilFunc, .nilFunc, .func (Fn.func 85) #[] #[], .func (Fn.func 86) #[] #[], .func (Fn.func 87) #[] #[], .func (Fn.func 88) #[] #[], .func (Fn.func 89) #[] #[], .nilFunc, .nilFunc, .nilFunc, .func (Fn.func 90) #[] #[], .nilFunc, .nilFunc, .nilFunc, .nilFunc, .nilFunc, .func (Fn.func 91) #[] #[], .func (Fn.func 93) #[] #[], .func (Fn.func 94) #[] #[], .func (Fn.func 95) #[] #[], .func (Fn.func 96) #[] #[], .func (Fn.func 97) #[] #[], .func (Fn.func 98) #[] #[], .func (Fn.func 99) #[] #[], .func (Fn.func 100) #[] #[]]) (.int .i64 11)).run Tryz.prog w' = .ok (.func (Fn.func 90) #[] #[]) w' := fun w' => by kernel_rfl
        replace q0 := Lib.hid (Qw.trans q0.out q1)
        refine region_kept (by kernel_rfl) (by kernel_rfl) ?_
        repeat (go_big_quiet_step (first | (go_at_call 58; with_reducible exact Kept.call (D0.out _)) | (go_at_call 90; with_reducible exact Kept.call (D1.out _))))
        refine wpQuiet_nil ?_
        intro w2 q
        go_wp2_with fail
        go_ret2
        exact ⟨ret_iib E.out.1.symm E.out.2.symm, q0.out.trans q⟩
      · have x0 : wr.cell? ⟨w.heap.size, 0, none⟩ = some (.int .i64 12) := X.out.cell' 0 _ rfl
        have E : Hid (rv = (sqv A) ∧ re = (sqe A)) := Lib.hid (Prod.mk.inj eV)
        clear eV
        have C := Lib.hid (fun (w1 : World) => fxSqrt A w1)
        generalize (sqv A) = vv at *
        generalize (sqe A) = ee at *
        go_wp2_with fail
        refine region_deep (by kernel_rfl) (by as_aux_lemma => kernel_rfl) ?_
        repeat (go_big_quiet_step (fail))
        refine wpQuiet_nil ?_
        intro _ hw'
        obtain ⟨nq, hw''⟩ := hw'
        subst hw''
        go_wp2_with (go_at_call 54; ((with_reducible refine (C.out _).mono ?_); rintro e w' ⟨rfl, q⟩; replace q0 : Hid (Qw w w') := Lib.hid (Qw.trans Qz q); clear q))
        go_ret2
        exact ⟨ret_iib E.out.1.symm E.out.2.symm, Qz⟩
      · have x0 : wr.cell? ⟨w.heap.size, 0, none⟩ = some (.int .i64 13) := X.out.cell' 0 _ rfl
        have E : Hid (rv = (max A (-A)) ∧ re = 0) := Lib.hid (Prod.mk.inj eV)
        clear eV
        have nA : IntKind.i64.wrap (-A) = -A := IntWalk.i64_in _ (by omega)
        go_wp2_with fail
        refine region_deep (by kernel_rfl) (by as_aux_lemma => kernel_rfl) ?_
        repeat (go_big_quiet_step (fail))
        refine wpQuiet_nil ?_
        intro _ hw'
        obtain ⟨nq, hw''⟩ := hw'
        subst hw''
        go_wp2_with fail
        go_ret2
        exact ⟨ret_iib E.out.1.symm E.out.2.symm, Qz⟩
      · have x0 : wr.cell? ⟨w.heap.size, 0, none⟩ = some (.int .i64 14) := X.out.cell' 0 _ rfl
        have E : Hid (rv = (roundv A) ∧ re = (arge A)) := Lib.hid (Prod.mk.inj eV)
        clear eV
        have C := Lib.hid (fun (w1 : World) => fxRound A w1)
        generalize (roundv A) = vv at *
        generalize (arge A) = ee at *
        go_wp2_with fail
        refine region_deep (by kernel_rfl) (by as_aux_lemma => kernel_rfl) ?_
        repeat (go_big_quiet_step (fail))
        refine wpQuiet_nil ?_
        intro _ hw'
        obtain ⟨nq, hw''⟩ := hw'
        subst hw''
        go_wp2_with (go_at_call 55; ((with_reducible refine (C.out _).mono ?_); rintro e w' ⟨rfl, q⟩; replace q0 : Hid (Qw w w') := Lib.hid (Qw.trans Qz q); clear q))
        go_ret2
        exact ⟨ret_iib E.out.1.symm E.out.2.symm, Qz⟩
      · have x0 : wr.cell? ⟨w.heap.size, 0, none⟩ = some (.int .i64 15) := X.out.cell' 0 _ rfl
        have E : Hid (rv = (fixv A) ∧ re = (arge A)) := Lib.hid (Prod.mk.inj eV)
        clear eV
        have C := Lib.hid (fun (w1 : World) => fxFix A w1)
        generalize (fixv A) = vv at *
        generalize (arge A) = ee at *
        go_wp2_with fail
        refine region_deep (by kernel_rfl) (by as_aux_lemma => kernel_rfl) ?_
        repeat (go_big_quiet_step (fail))
        refine wpQuiet_nil ?_
        intro _ hw'
        obtain ⟨nq, hw''⟩ := hw'
        subst hw''
        go_wp2_with (go_at_call 56; ((with_reducible refine (C.out _).mono ?_); rintro e w' ⟨rfl, q⟩; replace q0 : Hid (Qw w w') := Lib.hid (Qw.trans Qz q); clear q))
        go_ret2
        exact ⟨ret_iib E.out.1.symm E.out.2.symm, Qz⟩
      · have x0 : wr.cell? ⟨w.heap.size, 0, none⟩ = some (.int .i64 16) := X.out.cell' 0 _ rfl
        have E : Hid (rv = (fupv A) ∧ re = (arge A)) := Lib.hid (Prod.mk.inj eV)
        clear eV
        have C := Lib.hid (fun (w1 : World) => fxFup A w1)
        generalize (fupv A) = vv at *
        generalize (arge A) = ee at *
        go_wp2_with fail
        refine region_deep (by kernel_rfl) (by as_aux_lemma => kernel_rfl) ?_
        repeat (go_big_quiet_step (fail))
        refine wpQuiet_nil ?_
        intro _ hw'
        obtain ⟨nq, hw''⟩ := hw'
        subst hw''
        go_wp2_with (go_at_call 57; ((with_reducible refine (C.out _).mono ?_); rintro e w' ⟨rfl, q⟩; replace q0 : Hid (Qw w w') := Lib.hid (Qw.trans Qz q); clear q))
        go_ret2
        exact ⟨ret_iib E.out.1.symm E.out.2.symm, Qz⟩
      · have x0 : wr.cell? ⟨w.heap.size, 0, none⟩ = some (.int .i64 17) := X.out.cell' 0 _ rfl
        have E : Hid (rv = (Ev.flg (A == D)).1 ∧ re = (Ev.flg (A == D)).2) := Lib.hid (Prod.mk.inj eV)
        clear eV
        have C := Lib.hid (fun (w1 : World) => evC1 A D w1)
        generalize (Ev.flg (A == D)).1 = vv at *
        generalize (Ev.flg (A == D)).2 = ee at *
        go_wp2_with fail
        refine region_deep (by kernel_rfl) (by as_aux_lemma => kernel_rfl) ?_
        repeat (go_big_quiet_step (fail))
        refine wpQuiet_nil ?_
        intro _ hw'
        obtain ⟨nq, hw''⟩ := hw'
        subst hw''
        go_wp2_with fail
        refine code_of (fun z => Qw wr z) (by repeat (first | exact Qw.refl _ | refine Qw.dn ?_ _)) ?_
        intro w1 q1
        have k0 : ∀ p : Kept w1, p.v.cell? ⟨w.heap.size, 0, none⟩ = some (.int .i64 17) := fun p => ((X.out.kept q1).kept p.h).cell' 0 _ rfl
        have D0 : Hid (∀ p : Kept w1, Calls Tryz.prog 58 #[] p.v fun e w' => e = .returned (.agg #[.nilFunc, .nilFunc, .nilFunc, .func (Fn.func 85) #[] #[], .func (Fn.func 86) #[] #[], .func (Fn.func 87) #[] #[], .func (Fn.func 88) #[] #[], .func (Fn.func 89) #[] #[], .nilFunc, .nilFunc, .nilFunc, .func (Fn.func 90) #[] #[], .nilFunc, .nilFunc, .nilFunc, .nilFunc, .nilFunc, .func (Fn.func 91) #[] #[], .func (Fn.func 93) #[] #[], .func (Fn.func 94) #[] #[], .func (Fn.func 95) #[] #[], .func (Fn.func 96) #[] #[], .func (Fn.func 97) #[] #[], .func (Fn.func 98) #[] #[], .func (Fn.func 99) #[] #[], .func (Fn.func 100) #[] #[]]) ∧ Qw p.v w') := Lib.hid fun p => evBinary p.v
        have D1 : Hid (∀ p : Kept w1, Calls Tryz.prog 91 #[.int .i64 A, .int .i64 D] p.v fun e w' => e = .returned (.tuple #[.int .i64 vv, .int .i64 ee]) ∧ p.v = w') := Lib.hid fun p => C.out _
        have kx : ∀ w', (Instr.index 101 (.agg #[.nilFunc, .nilFunc, .nilFunc, .func (Fn.func 85) #[] #[], .func (Fn.func 86) #[] #[], .func (Fn.func 87) #[] #[], .func (Fn.func 88) #[] #[], .func (Fn.func 89) #[] #[], .nilFunc, .nilFunc, .nilFunc, .func (Fn.func 90) #[] #[], .nilFunc, .nilFunc, .nilFunc, .nilFunc, .nilFunc, .func (Fn.func 91) #[] #[], .func (Fn.func 93) #[] #[], .func (Fn.func 94) #[] #[], .func (Fn.func 95) #[] #[], .func (Fn.func 96) #[] #[], .func (Fn.func 97) #[] #[], .func (Fn.func 98) #[] #[], .func (Fn.func 99) #[] #[], .func (Fn.func 100) #[] #[]]) (.int .i64 17)).run Tryz.prog w' = .ok (.func (Fn.func 91) #[] #[]) w' := fun w' => by kernel_rfl
        replace q0 := Lib.hid (Qw.trans q0.out q1)
        refine region_kept (by kernel_rfl) (by kernel_rfl) ?_
        repeat (go_big_quiet_step (first | (go_at_call 58; with_reducible exact Kept.call (D0.out _)) | (go_at_call 91; with_reducible exact Kept.same (D1.out _))))
        refine wpQuiet_nil ?_
        intro w2 q
        go_wp2_with fail
        go_ret2
        exact ⟨ret_iib E.out.1.symm E.out.2.symm, q0.out.trans q⟩
      · have x0 : wr.cell? ⟨w.heap.size, 0, none⟩ = some (.int .i64 18) := X.out.cell' 0 _ rfl
        have E : Hid (rv = (Ev.flg (A != D)).1 ∧ re = (Ev.flg (A != D)).2) := Lib.hid (Prod.mk.inj eV)
        clear eV
        have C := Lib.hid (fun (w1 : World) => evC2 A D w1)
        generalize (Ev.flg (A != D)).1 = vv at *
        generalize (Ev.flg (A != D)).2 = ee at *
        go_wp2_with fail
        refine region_deep (by kernel_rfl) (by as_aux_lemma => kernel_rfl) ?_
        repeat (go_big_quiet_step (fail))
        refine wpQuiet_nil ?_
        intro _ hw'
        obtain ⟨nq, hw''⟩ := hw'
        subst hw''
        go_wp2_with fail
        refine code_of (fun z => Qw wr z) (by repeat (first | exact Qw.refl _ | refine Qw.dn ?_ _)) ?_
        intro w1 q1
        have k0 : ∀ p : Kept w1, p.v.cell? ⟨w.heap.size, 0, none⟩ = some (.int .i64 18) := fun p => ((X.out.kept q1).kept p.h).cell' 0 _ rfl
        have D0 : Hid (∀ p : Kept w1, Calls Tryz.prog 58 #[] p.v fun e w' => e = .returned (.agg #[.nilFunc, .nilFunc, .nilFunc, .func (Fn.func 85) #[] #[], .func (Fn.func 86) #[] #[], .func (Fn.func 87) #[] #[], .func (Fn.func 88) #[] #[], .func (Fn.func 89) #[] #[], .nilFunc, .nilFunc, .nilFunc, .func (Fn.func 90) #[] #[], .nilFunc, .nilFunc, .nilFunc, .nilFunc, .nilFunc, .func (Fn.func 91) #[] #[], .func (Fn.func 93) #[] #[], .func (Fn.func 94) #[] #[], .func (Fn.func 95) #[] #[], .func (Fn.func 96) #[] #[], .func (Fn.func 97) #[] #[], .func (Fn.func 98) #[] #[], .func (Fn.func 99) #[] #[], .func (Fn.func 100) #[] #[]]) ∧ Qw p.v w') := Lib.hid fun p => evBinary p.v
        have D1 : Hid (∀ p : Kept w1, Calls Tryz.prog 93 #[.int .i64 A, .int .i64 D] p.v fun e w' => e = .returned (.tuple #[.int .i64 vv, .int .i64 ee]) ∧ p.v = w') := Lib.hid fun p => C.out _
        have kx : ∀ w', (Instr.index 101 (.agg #[.nilFunc, .nilFunc, .nilFunc, .func (Fn.func 85) #[] #[], .func (Fn.func 86) #[] #[], .func (Fn.func 87) #[] #[], .func (Fn.func 88) #[] #[], .func (Fn.func 89) #[] #[], .nilFunc, .nilFunc, .nilFunc, .func (Fn.func 90) #[] #[], .nilFunc, .nilFunc, .nilFunc, .nilFunc, .nilFunc, .func (Fn.func 91) #[] #[], .func (Fn.func 93) #[] #[], .func (Fn.func 94) #[] #[], .func (Fn.func 95) #[] #[], .func (Fn.func 96) #[] #[], .func (Fn.func 97) #[] #[], .func (Fn.func 98) #[] #[], .func (Fn.func 99) #[] #[], .func (Fn.func 100) #[] #[]]) (.int .i64 18)).run Tryz.prog w' = .ok (.func (Fn.func 93) #[] #[]) w' := fun w' => by kernel_rfl
        replace q0 := Lib.hid (Qw.trans q0.out q1)
        refine region_kept (by kernel_rfl) (by kernel_rfl) ?_
        repeat (go_big_quiet_step (first | (go_at_call 58; with_reducible exact Kept.call (D0.out _)) | (go_at_call 93; with_reducible exact Kept.same (D1.out _))))
        refine wpQuiet_nil ?_
        intro w2 q
        go_wp2_with fail
        go_ret2
        exact ⟨ret_iib E.out.1.symm E.out.2.symm, q0.out.trans q⟩
      · have x0 : wr.cell? ⟨w.heap.size, 0, none⟩ = some (.int .i64 19) := X.out.cell' 0 _ rfl
        have E : Hid (rv = (Ev.flg (decide (D < A))).1 ∧ re = (Ev.flg (decide (D < A))).2) := Lib.hid (Prod.mk.inj eV)
        clear eV
        have C := Lib.hid (fun (w1 : World) => evC3 A D w1)
        generalize (Ev.flg (decide (D < A))).1 = vv at *
        generalize (Ev.flg (decide (D < A))).2 = ee at *
        go_wp2_with fail
        refine region_deep (by kernel_rfl) (by as_aux_lemma => kernel_rfl) ?_
        repeat (go_big_quiet_step (fail))
        refine wpQuiet_nil ?_
        intro _ hw'
        obtain ⟨nq, hw''⟩ := hw'
        subst hw''
        go_wp2_with fail
        refine code_of (fun z => Qw wr z) (by repeat (first | exact Qw.refl _ | refine Qw.dn ?_ _)) ?_
        intro w1 q1
        have k0 : ∀ p : Kept w1, p.v.cell? ⟨w.heap.size, 0, none⟩ = some (.int .i64 19) := fun p => ((X.out.kept q1).kept p.h).cell' 0 _ rfl
        have D0 : Hid (∀ p : Kept w1, Calls Tryz.prog 58 #[] p.v fun e w' => e = .returned (.agg #[.nilFunc, .nilFunc, .nilFunc, .func (Fn.func 85) #[] #[], .func (Fn.func 86) #[] #[], .func (Fn.func 87) #[] #[], .func (Fn.func 88) #[] #[], .func (Fn.func 89) #[] #[], .nilFunc, .nilFunc, .nilFunc, .func (Fn.func 90) #[] #[], .nilFunc, .nilFunc, .nilFunc, .nilFunc, .nilFunc, .func (Fn.func 91) #[] #[], .func (Fn.func 93) #[] #[], .func (Fn.func 94) #[] #[], .func (Fn.func 95) #[] #[], .func (Fn.func 96) #[] #[], .func (Fn.func 97) #[] #[], .func (Fn.func 98) #[] #[], .func (Fn.func 99) #[] #[], .func (Fn.func 100) #[] #[]]) ∧ Qw p.v w') := Lib.hid fun p => evBinary p.v
        have D1 : Hid (∀ p : Kept w1, Calls Tryz.prog 94 #[.int .i64 A, .int .i64 D] p.v fun e w' => e = .returned (.tuple #[.int .i64 vv, .int .i64 ee]) ∧ p.v = w') := Lib.hid fun p => C.out _
        have kx : ∀ w', (Instr.index 101 (.agg #[.nilFunc, .nilFunc, .nilFunc, .func (Fn.func 85) #[] #[], .func (Fn.func 86) #[] #[], .func (Fn.func 87) #[] #[], .func (Fn.func 88) #[] #[], .func (Fn.func 89) #[] #[], .nilFunc, .nilFunc, .nilFunc, .func (Fn.func 90) #[] #[], .nilFunc, .nilFunc, .nilFunc, .nilFunc, .nilFunc, .func (Fn.func 91) #[] #[], .func (Fn.func 93) #[] #[], .func (Fn.func 94) #[] #[], .func (Fn.func 95) #[] #[], .func (Fn.func 96) #[] #[], .func (Fn.func 97) #[] #[], .func (Fn.func 98) #[] #[], .func (Fn.func 99) #[] #[], .func (Fn.func 100) #[] #[]]) (.int .i64 19)).run Tryz.prog w' = .ok (.func (Fn.func 94) #[] #[]) w' := fun w' => by kernel_rfl
        replace q0 := Lib.hid (Qw.trans q0.out q1)
        refine region_kept (by kernel_rfl) (by kernel_rfl) ?_
        repeat (go_big_quiet_step (first | (go_at_call 58; with_reducible exact Kept.call (D0.out _)) | (go_at_call 94; with_reducible exact Kept.same (D1.out _))))
        refine wpQuiet_nil ?_
        intro w2 q
        go_wp2_with fail
        go_ret2
        exact ⟨ret_iib E.out.1.symm E.out.2.symm, q0.out.trans q⟩
      · have x0 : wr.cell? ⟨w.heap.size, 0, none⟩ = some (.int .i64 20) := X.out.cell' 0 _ rfl
        have E : Hid (rv = (Ev.flg (decide (D ≤ A))).1 ∧ re = (Ev.flg (decide (D ≤ A))).2) := Lib.hid (Prod.mk.inj eV)
        clear eV
        have C := Lib.hid (fun (w1 : World) => evC4 A D w1)
        generalize (Ev.flg (decide (D ≤ A))).1 = vv at *
        generalize (Ev.flg (decide (D ≤ A))).2 = ee at *
        go_wp2_with fail
        refine region_deep (by kernel_rfl) (by as_aux_lemma => kernel_rfl) ?_
        repeat (go_big_quiet_step (fail))
        refine wpQuiet_nil ?_
        intro _ hw'
        obtain ⟨nq, hw''⟩ := hw'
        subst hw''
        go_wp2_with fail
        refine code_of (fun z => Qw wr z) (by repeat (first | exact Qw.refl _ | refine Qw.dn ?_ _)) ?_
        intro w1 q1
        have k0 : ∀ p : Kept w1, p.v.cell? ⟨w.heap.size, 0, none⟩ = some (.int .i64 20) := fun p => ((X.out.kept q1).kept p.h).cell' 0 _ rfl
        have D0 : Hid (∀ p : Kept w1, Calls Tryz.prog 58 #[] p.v fun e w' => e = .returned (.agg #[.nilFunc, .nilFunc, .nilFunc, .func (Fn.func 85) #[] #[], .func (Fn.func 86) #[] #[], .func (Fn.func 87) #[] #[], .func (Fn.func 88) #[] #[], .func (Fn.func 89) #[] #[], .nilFunc, .nilFunc, .nilFunc, .func (Fn.func 90) #[] #[], .nilFunc, .nilFunc, .nilFunc, .nilFunc, .nilFunc, .func (Fn.func 91) #[] #[], .func (Fn.func 93) #[] #[], .func (Fn.func 94) #[] #[], .func (Fn.func 95) #[] #[], .func (Fn.func 96) #[] #[], .func (Fn.func 97) #[] #[], .func (Fn.func 98) #[] #[], .func (Fn.func 99) #[] #[], .func (Fn.func 100) #[] #[]]) ∧ Qw p.v w') := Lib.hid fun p => evBinary p.v
        have D1 : Hid (∀ p : Kept w1, Calls Tryz.prog 95 #[.int .i64 A, .int .i64 D] p.v fun e w' => e = .returned (.tuple #[.int .i64 vv, .int .i64 ee]) ∧ p.v = w') := Lib.hid fun p => C.out _
        have kx : ∀ w', (Instr.index 101 (.agg #[.nilFunc, .nilFunc, .nilFunc, .func (Fn.func 85) #[] #[], .func (Fn.func 86) #[] #[], .func (Fn.func 87) #[] #[], .func (Fn.func 88) #[] #[], .func (Fn.func 89) #[] #[], .nilFunc, .nilFunc, .nilFunc, .func (Fn.func 90) #[] #[], .nilFunc, .nilFunc, .nilFunc, .nilFunc, .nilFunc, .func (Fn.func 91) #[] #[], .func (Fn.func 93) #[] #[], .func (Fn.func 94) #[] #[], .func (Fn.func 95) #[] #[], .func (Fn.func 96) #[] #[], .func (Fn.func 97) #[] #[], .func (Fn.func 98) #[] #[], .func (Fn.func 99) #[] #[], .func (Fn.func 100) #[] #[]]) (.int .i64 20)).run Tryz.prog w' = .ok (.func (Fn.func 95) #[] #[]) w' := fun w' => by kernel_rfl
        replace q0 := Lib.hid (Qw.trans q0.out q1)
        refine region_kept (by kernel_rfl) (by kernel_rfl) ?_
        repeat (go_big_quiet_step (first | (go_at_call 58; with_reducible exact Kept.call (D0.out _)) | (go_at_call 95; with_reducible exact Kept.same (D1.out _))))
        refine wpQuiet_nil ?_
        intro w2 q
        go_wp2_with fail
        go_ret2
        exact ⟨ret_iib E.out.1.symm E.out.2.symm, q0.out.trans q⟩
      · have x0 : wr.cell? ⟨w.heap.size, 0, none⟩ = some (.int .i64 21) := X.out.cell' 0 _ rfl
        have E : Hid (rv = (Ev.flg (decide (A < D))).1 ∧ re = (Ev.flg (decide (A < D))).2) := Lib.hid (Prod.mk.inj eV)
        clear eV
        have C := Lib.hid (fun (w1 : World) => evC5 A D w1)
        generalize (Ev.flg (decide (A < D))).1 = vv at *
        generalize (Ev.flg (decide (A < D))).2 = ee at *
        go_wp2_with fail
        refine region_deep (by kernel_rfl) (by as_aux_lemma => kernel_rfl) ?_
        repeat (go_big_quiet_step (fail))
        refine wpQuiet_nil ?_
        intro _ hw'
        obtain ⟨nq, hw''⟩ := hw'
        subst hw''
        go_wp2_with fail
        refine code_of (fun z => Qw wr z) (by repeat (first | exact Qw.refl _ | refine Qw.dn ?_ _)) ?_
        intro w1 q1
        have k0 : ∀ p : Kept w1, p.v.cell? ⟨w.heap.size, 0, none⟩ = some (.int .i64 21) := fun p => ((X.out.kept q1).kept p.h).cell' 0 _ rfl
        have D0 : Hid (∀ p : Kept w1, Calls Tryz.prog 58 #[] p.v fun e w' => e = .returned (.agg #[.nilFunc, .nilFunc, .nilFunc, .func (Fn.func 85) #[] #[], .func (Fn.func 86) #[] #[], .func (Fn.func 87) #[] #[], .func (Fn.func 88) #[] #[], .func (Fn.func 89) #[] #[], .nilFunc, .nilFunc, .nilFunc, .func (Fn.func 90) #[] #[], .nilFunc, .nilFunc, .nilFunc, .nilFunc, .nilFunc, .func (Fn.func 91) #[] #[], .func (Fn.func 93) #[] #[], .func (Fn.func 94) #[] #[], .func (Fn.func 95) #[] #[], .func (Fn.func 96) #[] #[], .func (Fn.func 97) #[] #[], .func (Fn.func 98) #[] #[], .func (Fn.func 99) #[] #[], .func (Fn.func 100) #[] #[]]) ∧ Qw p.v w') := Lib.hid fun p => evBinary p.v
        have D1 : Hid (∀ p : Kept w1, Calls Tryz.prog 96 #[.int .i64 A, .int .i64 D] p.v fun e w' => e = .returned (.tuple #[.int .i64 vv, .int .i64 ee]) ∧ p.v = w') := Lib.hid fun p => C.out _
        have kx : ∀ w', (Instr.index 101 (.agg #[.nilFunc, .nilFunc, .nilFunc, .func (Fn.func 85) #[] #[], .func (Fn.func 86) #[] #[], .func (Fn.func 87) #[] #[], .func (Fn.func 88) #[] #[], .func (Fn.func 89) #[] #[], .nilFunc, .nilFunc, .nilFunc, .func (Fn.func 90) #[] #[], .nilFunc, .nilFunc, .nilFunc, .nilFunc, .nilFunc, .func (Fn.func 91) #[] #[], .func (Fn.func 93) #[] #[], .func (Fn.func 94) #[] #[], .func (Fn.func 95) #[] #[], .func (Fn.func 96) #[] #[], .func (Fn.func 97) #[] #[], .func (Fn.func 98) #[] #[], .func (Fn.func 99) #[] #[], .func (Fn.func 100) #[] #[]]) (.int .i64 21)).run Tryz.prog w' = .ok (.func (Fn.func 96) #[] #[]) w' := fun w' => by kernel_rfl
        replace q0 := Lib.hid (Qw.trans q0.out q1)
        refine region_kept (by kernel_rfl) (by kernel_rfl) ?_
        repeat (go_big_quiet_step (first | (go_at_call 58; with_reducible exact Kept.call (D0.out _)) | (go_at_call 96; with_reducible exact Kept.same (D1.out _))))
        refine wpQuiet_nil ?_
        intro w2 q
        go_wp2_with fail
        go_ret2
        exact ⟨ret_iib E.out.1.symm E.out.2.symm, q0.out.trans q⟩
      · have x0 : wr.cell? ⟨w.heap.size, 0, none⟩ = some (.int .i64 22) := X.out.cell' 0 _ rfl
        have E : Hid (rv = (Ev.flg (decide (A ≤ D))).1 ∧ re = (Ev.flg (decide (A ≤ D))).2) := Lib.hid (Prod.mk.inj eV)
        clear eV
        have C := Lib.hid (fun (w1 : World) => evC6 A D w1)
        generalize (Ev.flg (decide (A ≤ D))).1 = vv at *
        generalize (Ev.flg (decide (A ≤ D))).2 = ee at *
        go_wp2_with fail
        refine region_deep (by kernel_rfl) (by as_aux_lemma => kernel_rfl) ?_
        repeat (go_big_quiet_step (fail))
        refine wpQuiet_nil ?_
        intro _ hw'
        obtain ⟨nq, hw''⟩ := hw'
        subst hw''
        go_wp2_with fail
        refine code_of (fun z => Qw wr z) (by repeat (first | exact Qw.refl _ | refine Qw.dn ?_ _)) ?_
        intro w1 q1
        have k0 : ∀ p : Kept w1, p.v.cell? ⟨w.heap.size, 0, none⟩ = some (.int .i64 22) := fun p => ((X.out.kept q1).kept p.h).cell' 0 _ rfl
        have D0 : Hid (∀ p : Kept w1, Calls Tryz.prog 58 #[] p.v fun e w' => e = .returned (.agg #[.nilFunc, .nilFunc, .nilFunc, .func (Fn.func 85) #[] #[], .func (Fn.func 86) #[] #[], .func (Fn.func 87) #[] #[], .func (Fn.func 88) #[] #[], .func (Fn.func 89) #[] #[], .nilFunc, .nilFunc, .nilFunc, .func (Fn.func 90) #[] #[], .nilFunc, .nilFunc, .nilFunc, .nilFunc, .nilFunc, .func (Fn.func 91) #[] #[], .func (Fn.func 93) #[] #[], .func (Fn.func 94) #[] #[], .func (Fn.func 95) #[] #[], .func (Fn.func 96) #[] #[], .func (Fn.func 97) #[] #[], .func (Fn.func 98) #[] #[], .func (Fn.func 99) #[] #[], .func (Fn.func 100) #[] #[]]) ∧ Qw p.v w') := Lib.hid fun p => evBinary p.v
        have D1 : Hid (∀ p : Kept w1, Calls Tryz.prog 97 #[.int .i64 A, .int .i64 D] p.v fun e w' => e = .returned (.tuple #[.int .i64 vv, .int .i64 ee]) ∧ p.v = w') := Lib.hid fun p => C.out _
        have kx : ∀ w', (Instr.index 101 (.agg #[.nilFunc, .nilFunc, .nilFunc, .func (Fn.func 85) #[] #[], .func (Fn.func 86) #[] #[], .func (Fn.func 87) #[] #[], .func (Fn.func 88) #[] #[], .func (Fn.func 89) #[] #[], .nilFunc, .nilFunc, .nilFunc, .func (Fn.func 90) #[] #[], .nilFunc, .nilFunc, .nilFunc, .nilFunc, .nilFunc, .func (Fn.func 91) #[] #[], .func (Fn.func 93) #[] #[], .func (Fn.func 94) #[] #[], .func (Fn.func 95) #[] #[], .func (Fn.func 96) #[] #[], .func (Fn.func 97) #[] #[], .func (Fn.func 98) #[] #[], .func (Fn.func 99) #[] #[], .func (Fn.func 100) #[] #[]]) (.int .i64 22)).run Tryz.prog w' = .ok (.func (Fn.func 97) #[] #[]) w' := fun w' => by kernel_rfl
        replace q0 := Lib.hid (Qw.trans q0.out q1)
        refine region_kept (by kernel_rfl) (by kernel_rfl) ?_
        repeat (go_big_quiet_step (first | (go_at_call 58; with_reducible exact Kept.call (D0.out _)) | (go_at_call 97; with_reducible exact Kept.same (D1.out _))))
        refine wpQuiet_nil ?_
        intro w2 q
        go_wp2_with fail
        go_ret2
        exact ⟨ret_iib E.out.1.symm E.out.2.symm, q0.out.trans q⟩
      · have x0 : wr.cell? ⟨w.heap.size, 0, none⟩ = some (.int .i64 23) := X.out.cell' 0 _ rfl
        have E : Hid (rv = (Ev.flg ((A != 0) && (D != 0))).1 ∧ re = (Ev.flg ((A != 0) && (D != 0))).2) := Lib.hid (Prod.mk.inj eV)
        clear eV
        have C := Lib.hid (fun (w1 : World) => evC7 A D w1)
        generalize (Ev.flg ((A != 0) && (D != 0))).1 = vv at *
        generalize (Ev.flg ((A != 0) && (D != 0))).2 = ee at *
        go_wp2_with fail
        refine region_deep (by kernel_rfl) (by as_aux_lemma => kernel_rfl) ?_
        repeat (go_big_quiet_step (fail))
        refine wpQuiet_nil ?_
        intro _ hw'
        obtain ⟨nq, hw''⟩ := hw'
        subst hw''
        go_wp2_with fail
        refine code_of (fun z => Qw wr z) (by repeat (first | exact Qw.refl _ | refine Qw.dn ?_ _)) ?_
        intro w1 q1
        have k0 : ∀ p : Kept w1, p.v.cell? ⟨w.heap.size, 0, none⟩ = some (.int .i64 23) := fun p => ((X.out.kept q1).kept p.h).cell' 0 _ rfl
        have D0 : Hid (∀ p : Kept w1, Calls Tryz.prog 58 #[] p.v fun e w' => e = .returned (.agg #[.nilFunc, .nilFunc, .nilFunc, .func (Fn.func 85) #[] #[], .func (Fn.func 86) #[] #[], .func (Fn.func 87) #[] #[], .func (Fn.func 88) #[] #[], .func (Fn.func 89) #[] #[], .nilFunc, .nilFunc, .nilFunc, .func (Fn.func 90) #[] #[], .nilFunc, .nilFunc, .nilFunc, .nilFunc, .nilFunc, .func (Fn.func 91) #[] #[], .func (Fn.func 93) #[] #[], .func (Fn.func 94) #[] #[], .func (Fn.func 95) #[] #[], .func (Fn.func 96) #[] #[], .func (Fn.func 97) #[] #[], .func (Fn.func 98) #[] #[], .func (Fn.func 99) #[] #[], .func (Fn.func 100) #[] #[]]) ∧ Qw p.v w') := Lib.hid fun p => evBinary p.v
        have D1 : Hid (∀ p : Kept w1, Calls Tryz.prog 98 #[.int .i64 A, .int .i64 D] p.v fun e w' => e = .returned (.tuple #[.int .i64 vv, .int .i64 ee]) ∧ p.v = w') := Lib.hid fun p => C.out _
        have kx : ∀ w', (Instr.index 101 (.agg #[.nilFunc, .nilFunc, .nilFunc, .func (Fn.func 85) #[] #[], .func (Fn.func 86) #[] #[], .func (Fn.func 87) #[] #[], .func (Fn.func 88) #[] #[], .func (Fn.func 89) #[] #[], .nilFunc, .nilFunc, .nilFunc, .func (Fn.func 90) #[] #[], .nilFunc, .nilFunc, .nilFunc, .nilFunc, .nilFunc, .func (Fn.func 91) #[] #[], .func (Fn.func 93) #[] #[], .func (Fn.func 94) #[] #[], .func (Fn.func 95) #[] #[], .func (Fn.func 96) #[] #[], .func (Fn.func 97) #[] #[], .func (Fn.func 98) #[] #[], .func (Fn.func 99) #[] #[], .func (Fn.func 100) #[] #[]]) (.int .i64 23)).run Tryz.prog w' = .ok (.func (Fn.func 98) #[] #[]) w' := fun w' => by kernel_rfl
        replace q0 := Lib.hid (Qw.trans q0.out q1)
        refine region_kept (by kernel_rfl) (by kernel_rfl) ?_
        repeat (go_big_quiet_step (first | (go_at_call 58; with_reducible exact Kept.call (D0.out _)) | (go_at_call 98; with_reducible exact Kept.same (D1.out _))))
        refine wpQuiet_nil ?_
        intro w2 q
        go_wp2_with fail
        go_ret2
        exact ⟨ret_iib E.out.1.symm E.out.2.symm, q0.out.trans q⟩
      · have x0 : wr.cell? ⟨w.heap.size, 0, none⟩ = some (.int .i64 24) := X.out.cell' 0 _ rfl
        have E : Hid (rv = (Ev.flg ((A != 0) || (D != 0))).1 ∧ re = (Ev.flg ((A != 0) || (D != 0))).2) := Lib.hid (Prod.mk.inj eV)
        clear eV
        have C := Lib.hid (fun (w1 : World) => evC8 A D w1)
        generalize (Ev.flg ((A != 0) || (D != 0))).1 = vv at *
        generalize (Ev.flg ((A != 0) || (D != 0))).2 = ee at *
        go_wp2_with fail
        refine region_deep (by kernel_rfl) (by as_aux_lemma => kernel_rfl) ?_
        repeat (go_big_quiet_step (fail))
        refine wpQuiet_nil ?_
        intro _ hw'
        obtain ⟨nq, hw''⟩ := hw'
        subst hw''
        go_wp2_with fail
        refine code_of (fun z => Qw wr z) (by repeat (first | exact Qw.refl _ | refine Qw.dn ?_ _)) ?_
        intro w1 q1
        have k0 : ∀ p : Kept w1, p.v.cell? ⟨w.heap.size, 0, none⟩ = some (.int .i64 24) := fun p => ((X.out.kept q1).kept p.h).cell' 0 _ rfl
        have D0 : Hid (∀ p : Kept w1, Calls Tryz.prog 58 #[] p.v fun e w' => e = .returned (.agg #[.nilFunc, .nilFunc, .nilFunc, .func (Fn.func 85) #[] #[], .func (Fn.func 86) #[] #[], .func (Fn.func 87) #[] #[], .func (Fn.func 88) #[] #[], .func (Fn.func 89) #[] #[], .nilFunc, .nilFunc, .nilFunc, .func (Fn.func 90) #[] #[], .nilFunc, .nilFunc, .nilFunc, .nilFunc, .nilFunc, .func (Fn.func 91) #[] #[], .func (Fn.func 93) #[] #[], .func (Fn.func 94) #[] #[], .func (Fn.func 95) #[] #[], .func (Fn.func 96) #[] #[], .func (Fn.func 97) #[] #[], .func (Fn.func 98) #[] #[], .func (Fn.func 99) #[] #[], .func (Fn.func 100) #[] #[]]) ∧ Qw p.v w') := Lib.hid fun p => evBinary p.v
        have D1 : Hid (∀ p : Kept w1, Calls Tryz.prog 99 #[.int .i64 A, .int .i64 D] p.v fun e w' => e = .returned (.tuple #[.int .i64 vv, .int .i64 ee]) ∧ p.v = w') := Lib.hid fun p => C.out _
        have kx : ∀ w', (Instr.index 101 (.agg #[.nilFunc, .nilFunc, .nilFunc, .func (Fn.func 85) #[] #[], .func (Fn.func 86) #[] #[], .func (Fn.func 87) #[] #[], .func (Fn.func 88) #[] #[], .func (Fn.func 89) #[] #[], .nilFunc, .nilFunc, .nilFunc, .func (Fn.func 90) #[] #[], .nilFunc, .nilFunc, .nilFunc, .nilFunc, .nilFunc, .func (Fn.func 91) #[] #[], .func (Fn.func 93) #[] #[], .func (Fn.func 94) #[] #[], .func (Fn.func 95) #[] #[], .func (Fn.func 96) #[] #[], .func (Fn.func 97) #[] #[], .func (Fn.func 98) #[] #[], .func (Fn.func 99) #[] #[], .func (Fn.func 100) #[] #[]]) (.int .i64 24)).run Tryz.prog w' = .ok (.func (Fn.func 99) #[] #[]) w' := fun w' => by kernel_rfl
        replace q0 := Lib.hid (Qw.trans q0.out q1)
        refine region_kept (by kernel_rfl) (by kernel_rfl) ?_
        repeat (go_big_quiet_step (first | (go_at_call 58; with_reducible exact Kept.call (D0.out _)) | (go_at_call 99; with_reducible exact Kept.same (D1.out _))))
        refine wpQuiet_nil ?_
        intro w2 q
        go_wp2_with fail
        go_ret2
        exact ⟨ret_iib E.out.1.symm E.out.2.symm, q0.out.trans q⟩
      · have x0 : wr.cell? ⟨w.heap.size, 0, none⟩ = some (.int .i64 25) := X.out.cell' 0 _ rfl
        have E : Hid (rv = (Ev.flg ((A != 0) != (D != 0))).1 ∧ re = (Ev.flg ((A != 0) != (D != 0))).2) := Lib.hid (Prod.mk.inj eV)
        clear eV
        have C := Lib.hid (fun (w1 : World) => evC9 A D w1)
        generalize (Ev.flg ((A != 0) != (D != 0))).1 = vv at *
        generalize (Ev.flg ((A != 0) != (D != 0))).2 = ee at *
        go_wp2_with fail
        refine region_deep (by kernel_rfl) (by as_aux_lemma => kernel_rfl) ?_
        repeat (go_big_quiet_step (fail))
        refine wpQuiet_nil ?_
        intro _ hw'
        obtain ⟨nq, hw''⟩ := hw'
        subst hw''
        go_wp2_with fail
        refine code_of (fun z => Qw wr z) (by repeat (first | exact Qw.refl _ | refine Qw.dn ?_ _)) ?_
        intro w1 q1
        have k0 : ∀ p : Kept w1, p.v.cell? ⟨w.heap.size, 0, none⟩ = some (.int .i64 25) := fun p => ((X.out.kept q1).kept p.h).cell' 0 _ rfl
        have D0 : Hid (∀ p : Kept w1, Calls Tryz.prog 58 #[] p.v fun e w' => e = .returned (.agg #[.nilFunc, .nilFunc, .nilFunc, .func (Fn.func 85) #[] #[], .func (Fn.func 86) #[] #[], .func (Fn.func 87) #[] #[], .func (Fn.func 88) #[] #[], .func (Fn.func 89) #[] #[], .nilFunc, .nilFunc, .nilFunc, .func (Fn.func 90) #[] #[], .nilFunc, .nilFunc, .nilFunc, .nilFunc, .nilFunc, .func (Fn.func 91) #[] #[], .func (Fn.func 93) #[] #[], .func (Fn.func 94) #[] #[], .func (Fn.func 95) #[] #[], .func (Fn.func 96) #[] #[], .func (Fn.func 97) #[] #[], .func (Fn.func 98) #[] #[], .func (Fn.func 99) #[] #[], .func (Fn.func 100) #[] #[]]) ∧ Qw p.v w') := Lib.hid fun p => evBinary p.v
        have D1 : Hid (∀ p : Kept w1, Calls Tryz.prog 100 #[.int .i64 A, .int .i64 D] p.v fun e w' => e = .returned (.tuple #[.int .i64 vv, .int .i64 ee]) ∧ p.v = w') := Lib.hid fun p => C.out _
        have kx : ∀ w', (Instr.index 101 (.agg #[.nilFunc, .nilFunc, .nilFunc, .func (Fn.func 85) #[] #[], .func (Fn.func 86) #[] #[], .func (Fn.func 87) #[] #[], .func (Fn.func 88) #[] #[], .func (Fn.func 89) #[] #[], .nilFunc, .nilFunc, .nilFunc, .func (Fn.func 90) #[] #[], .nilFunc, .nilFunc, .nilFunc, .nilFunc, .nilFunc, .func (Fn.func 91) #[] #[], .func (Fn.func 93) #[] #[], .func (Fn.func 94) #[] #[], .func (Fn.func 95) #[] #[], .func (Fn.func 96) #[] #[], .func (Fn.func 97) #[] #[], .func (Fn.func 98) #[] #[], .func (Fn.func 99) #[] #[], .func (Fn.func 100) #[] #[]]) (.int .i64 25)).run Tryz.prog w' = .ok (.func (Fn.func 100) #[] #[]) w' := fun w' => by kernel_rfl
        replace q0 := Lib.hid (Qw.trans q0.out q1)
        refine region_kept (by kernel_rfl) (by kernel_rfl) ?_
        repeat (go_big_quiet_step (first | (go_at_call 58; with_reducible exact Kept.call (D0.out _)) | (go_at_call 100; with_reducible exact Kept.same (D1.out _))))
        refine wpQuiet_nil ?_
        intro w2 q
        go_wp2_with fail
        go_ret2
        exact ⟨ret_iib E.out.1.symm E.out.2.symm, q0.out.trans q⟩
end Go.Proofs.YtciglhecjkeogaaGreatDoor

