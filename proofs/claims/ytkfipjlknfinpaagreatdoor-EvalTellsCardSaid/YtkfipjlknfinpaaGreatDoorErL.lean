
/- light of the laws of layer 8. -/
import Derived.Test.YtkfipjlknfinpaaGreatDoorSrA
set_option linter.unusedVariables false
set_option linter.unusedSimpArgs false
namespace Go.Proofs.YtkfipjlknfinpaaGreatDoor
open Go.RowKit

set_option maxRecDepth 100000 in
set_option maxHeartbeats 4000000 in
theorem ex_light (k : Nat) : ∀ (op n : Int) (ks : List Sy.Ex) (a : Option Addr) (cap : Nat) (S : Nat → Prop) (w : World), k ≤ 17 → KidsB w S a cap ks →
    Calls Tryz.prog 5 #[.agg #[.int .i64 op, .int .i64 n, .slice a ks.length cap], .int .i64 (k : Int)] w fun e w' => e = .returned (.bool (Sy.lgt k (.mk op n ks))) ∧ Qw w w' := by
  induction k with
  | zero =>
    intro op n ks a cap S w _ hk
    obtain ⟨l1, l2⟩ := hk.cap
    have e : Sy.lgt 0 (.mk op n ks) = decide (ks.length = 0) := rfl
    rw [e]
    by_cases h0 : ks.length = 0
    · have d0 : ((ks.length : Int) == 0) = true := beq_iff_eq.2 (by omega)
      have d3 : ¬ (3 : Int) < (ks.length : Int) := by omega
      rw [decide_eq_true h0]
      clear h0 hk e
      go_enter Tryz.func5, Tryz.ntmps5
      go_wp2_with fail
      go_ret
      exact ⟨rfl, (by unfold Qw; repeat (first | exact Below.refl _ _ | refine Below.setCell ?_ (by first | (simp; done) | (simp; omega)) _ | refine Below.alloc ?_ (by first | (simp; done) | (simp; omega)) _ | refine bel_drewN ?_ _ | refine Below.drew ?_))⟩
    · have d0 : ((ks.length : Int) == 0) = false := beq_eq_false_iff_ne.2 (by omega)
      rw [decide_eq_false h0]
      clear h0 hk e
      by_cases h3 : (3 : Int) < (ks.length : Int)
      · go_enter Tryz.func5, Tryz.ntmps5
        go_wp2_with fail
        go_ret
        exact ⟨rfl, (by unfold Qw; repeat (first | exact Below.refl _ _ | refine Below.setCell ?_ (by first | (simp; done) | (simp; omega)) _ | refine Below.alloc ?_ (by first | (simp; done) | (simp; omega)) _ | refine bel_drewN ?_ _ | refine Below.drew ?_))⟩
      · go_enter Tryz.func5, Tryz.ntmps5
        go_wp2_with fail
        go_ret
        exact ⟨rfl, (by unfold Qw; repeat (first | exact Below.refl _ _ | refine Below.setCell ?_ (by first | (simp; done) | (simp; omega)) _ | refine Below.alloc ?_ (by first | (simp; done) | (simp; omega)) _ | refine bel_drewN ?_ _ | refine Below.drew ?_))⟩
  | succ k ih =>
    intro op n ks a cap S w hk17 hk
    obtain ⟨l1, l2⟩ := hk.cap
    have k1 : ((k + 1 : Nat) : Int) = (k : Int) + 1 := by omega
    rw [k1]
    by_cases h3 : (3 : Int) < (ks.length : Int)
    · have e : Sy.lgt (k + 1) (.mk op n ks) = false := if_pos (by show 3 < ks.length; omega)
      rw [e]
      have d0 : ((ks.length : Int) == 0) = false := beq_eq_false_iff_ne.2 (by omega)
      clear e hk ih k1
      go_enter Tryz.func5, Tryz.ntmps5
      go_wp2_with fail
      go_ret
      exact ⟨rfl, (by unfold Qw; repeat (first | exact Below.refl _ _ | refine Below.setCell ?_ (by first | (simp; done) | (simp; omega)) _ | refine Below.alloc ?_ (by first | (simp; done) | (simp; omega)) _ | refine bel_drewN ?_ _ | refine Below.drew ?_))⟩
    · have e : Sy.lgt (k + 1) (.mk op n ks) = ks.all (Sy.lgt k) := if_neg (by show ¬ 3 < ks.length; omega)
      rw [e]
      have kz : ((k : Int) + 1 == 0) = false := beq_eq_false_iff_ne.2 (by omega)
      have HK := Lib.hid hk
      have IH := Lib.hid ih
      clear hk ih k1 e
      go_enter Tryz.func5, Tryz.ntmps5
      go_wp2_with fail
      have QS : Hid (Qw w (w.alloc (.cells #[.int .i64 op, .int .i64 n, .slice a ks.length cap] 24))) := Lib.hid (by repeat (first | exact q0.out | exact Qw.refl _ | refine Qw.al ?_ _ | refine Qw.dr ?_ | refine Qw.dn ?_ _ | refine Qw.sc ?_ (by first | (simp; done) | omega | (have := q0.out.size; first | omega | (simp; omega))) _))
      have B0 := Lib.hid (Bx.new w #[.int .i64 op, .int .i64 n, .slice a ks.length cap] 24)
      go_loopg [5] ks.length (fun g iv wr => ∃ i : Nat, i ≤ ks.length ∧ g = ks.length - i ∧ iv = .int .i64 (i : Int) ∧ Hid ((ks.take i).all (Sy.lgt k) = true) ∧ Hid (Bx wr w.heap.size #[.int .i64 op, .int .i64 n, .slice a ks.length cap] 24) ∧ Qw w wr)
      case atStart => exact ⟨0, Nat.zero_le _, rfl, rfl, Lib.hid rfl, B0, QS.out⟩
      case round =>
        obtain ⟨i, hi, rfl, rfl, HT, B, hQ⟩ := hrel
        have x2 : wr.cell? ⟨w.heap.size, 2, none⟩ = some (.slice a ks.length cap) := B.out.cell' 2 _ rfl
        have q0 := Lib.hid hQ
        by_cases hlt : i < ks.length
        · have hKr := HK.out.kept hQ
          clear hQ QS B0
          cases hKr with
          | nl => simp at hlt
          | mk b off cap ks ad cc hS h1 h2 hc hkk =>
            obtain ⟨z0, z1, z2⟩ := hc i hlt
            have KK := Lib.hid (hkk i hlt)
            have hi2 : (i : Int) < (ks.length : Int) := by omega
            have ek : IntKind.i64.wrap ((k : Int) + 1 - 1) = k := (IntWalk.i64_in _ (by omega)).trans (by omega)
            have cr := fun w1 (h : KidsB w1 S (ad i) (cc i) ks[i].ks) => IH.out ks[i].op ks[i].n ks[i].ks (ad i) (cc i) S w1 (by omega) h
            have eX : Sy.lgt k (.mk ks[i].op ks[i].n ks[i].ks) = Sy.lgt k ks[i] := by cases ks[i]; rfl
            rw [eX] at cr
            have eA := all_takeL ks (Sy.lgt k) hlt
            have bl := cell_lt z0
            have hne : b ≠ wr.heap.size := by omega
            cases hv : Sy.lgt k ks[i] with
            | false =>
              rw [hv] at cr eA
              have CR := Lib.hid cr
              have EA := Lib.hid eA.1
              clear cr eX hc hkk eA hv
              go_wp2_with (go_at_call 5; ((with_reducible refine (CR.out _ (KidsB.kept KK.out (by repeat (first | exact q0.out | exact Qw.refl _ | refine Qw.al ?_ _ | refine Qw.dr ?_ | refine Qw.dn ?_ _ | refine Qw.sc ?_ (by first | (simp; done) | omega | (have := q0.out.size; first | omega | (simp; omega))) _)))).mono ?_); rintro e w' ⟨rfl, q⟩; replace B := Lib.hid (B.out.kept q); replace q0 : Hid (Qw w w') := Lib.hid (Qw.trans (by repeat (first | exact q0.out | exact Qw.refl _ | refine Qw.al ?_ _ | refine Qw.dr ?_ | refine Qw.dn ?_ _ | refine Qw.sc ?_ (by first | (simp; done) | omega | (have := q0.out.size; first | omega | (simp; omega))) _)) q); clear q))
              go_ret
              exact ⟨ret_bool5 (EA.out (by trivial)).symm, q0.out⟩
            | true =>
              rw [hv] at cr eA
              have CR := Lib.hid cr
              have EA := Lib.hid (eA.2 HT.out rfl)
              clear cr eX hc hkk eA hv
              go_wp2_with (go_at_call 5; ((with_reducible refine (CR.out _ (KidsB.kept KK.out (by repeat (first | exact q0.out | exact Qw.refl _ | refine Qw.al ?_ _ | refine Qw.dr ?_ | refine Qw.dn ?_ _ | refine Qw.sc ?_ (by first | (simp; done) | omega | (have := q0.out.size; first | omega | (simp; omega))) _)))).mono ?_); rintro e w' ⟨rfl, q⟩; replace B := Lib.hid (B.out.kept q); replace q0 : Hid (Qw w w') := Lib.hid (Qw.trans (by repeat (first | exact q0.out | exact Qw.refl _ | refine Qw.al ?_ _ | refine Qw.dr ?_ | refine Qw.dn ?_ _ | refine Qw.sc ?_ (by first | (simp; done) | omega | (have := q0.out.size; first | omega | (simp; omega))) _)) q); clear q))
              go_roundg (ks.length - (i + 1))
              case measure => omega
              case rel => exact ⟨i + 1, by omega, rfl, by go_num, EA, B, q0.out⟩
        · obtain rfl : i = ks.length := by omega
          clear hQ QS B0
          have hb : ¬ (ks.length : Int) < (ks.length : Int) := by omega
          go_wp2_with fail
          go_ret
          exact ⟨ret_bool5 (by have := HT.out; rw [List.take_length] at this; exact this.symm), q0.out⟩
end Go.Proofs.YtkfipjlknfinpaaGreatDoor
