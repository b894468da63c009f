import Derived.Test.YtbcbnkapipimmaaGreatDoorZRg5
import Derived.Test.YtbcbnkapipimmaaGreatDoorZRg6
import Derived.Defers
import Derived.Recover
set_option linter.unusedVariables false
set_option linter.unusedSimpArgs false
namespace Go.Proofs.YtbcbnkapipimmaaGreatDoor
open Go.RowKit
theorem sv_right (op n : Int) (ks : List Sy.Ex) (a : Option Addr) (cap : Nat) (S : Nat → Prop) (w : World) (hO : Ow w) (hk : KidsB w S a cap ks) :
    Calls Tryz.prog 46 #[.agg #[.int .i64 op, .int .i64 n, .slice a ks.length cap]] w fun e w' => e = .returned (.bool (Sy.rgt (.mk op n ks))) ∧ Qw w w' := by
  have c1 : ∀ w, Ow w → KidsB w S a cap ks → Calls Tryz.prog 83 #[.agg #[.int .i64 op, .int .i64 n, .slice a ks.length cap], .int .i64 16] w fun e w' => e = .returned (.bool (Sy.rgt (.mk op n ks))) ∧ Qw w w' := fun w h1 h2 => by
    rw [← Sy.rgt_eq]; exact sv_rightWithin 16 op n ks a cap S w (Nat.le_refl _) h1 h2
  have C1 := Lib.hid c1
  have HO := Lib.hid hO
  have HK := Lib.hid hk
  clear c1 hO hk
  have q0 : Hid (Qw w w) := Lib.hid (Qw.refl w)
  go_enter Tryz.func46, Tryz.ntmps46
  go_wp2_with (go_at_call 83; ((with_reducible refine (C1.out _ (Ow.kept HO.out Qz) (KidsB.kept HK.out Qz)).mono ?_); rintro e w' ⟨rfl, q⟩; replace q0 : Hid (Qw w w') := Lib.hid (Qw.trans Qz q); clear q))
  go_ret
  exact ⟨rfl, q0.out⟩
theorem sv_blank (op n : Int) (l : Nat) (a : Option Addr) (cap : Nat) (l1 : l ≤ cap) (l2 : cap ≤ 9223372036854775807) (w : World) :
    Calls Tryz.prog 51 #[.agg #[.int .i64 op, .int .i64 n, .slice a l cap]] w fun e w' => e = .returned (.bool (decide (op = 0) && decide (n = 0) && decide (l = 0))) ∧ Qw w w' := by
  by_cases c1 : op = 0
  · subst c1
    by_cases c2 : n = 0
    · subst c2
      by_cases c3 : l = 0
      · subst c3
        go_enter Tryz.func51, Tryz.ntmps51
        go_wp2
        go_ret
        exact ⟨rfl, Qz⟩
      · have h3 : ((l : Int) == 0) = false := beq_eq_false_iff_ne.2 (by omega)
        rw [decide_eq_false c3]
        clear c3
        go_enter Tryz.func51, Tryz.ntmps51
        go_wp2
        go_ret
        exact ⟨rfl, Qz⟩
    · have h3 : (n == 0) = false := beq_eq_false_iff_ne.2 c2
      rw [decide_eq_false c2]
      clear c2
      go_enter Tryz.func51, Tryz.ntmps51
      go_wp2
      go_ret
      exact ⟨rfl, Qz⟩
  · have h3 : (op == 0) = false := beq_eq_false_iff_ne.2 c1
    rw [decide_eq_false c1]
    clear c1
    go_enter Tryz.func51, Tryz.ntmps51
    go_wp2
    go_ret
    exact ⟨rfl, Qz⟩
def wdsB (ws : List (Int × Sy.Ex)) : Bool := ws.all (fun w => Sy.isw w.1 && Sy.rgt w.2)
set_option maxRecDepth 100000 in
set_option maxHeartbeats 4000000 in
theorem sv_rightWords (ws : List (Int × Sy.Ex)) (a : Option Addr) (cap : Nat) (S : Nat → Prop) (w : World) (hO : Ow w) (hk : WordsB w S a cap ws) :
    Calls Tryz.prog 50 #[.slice a ws.length cap] w fun e w' => e = .returned (.bool (decide (ws.length ≤ 24) && wdsB ws)) ∧ Qw w w' := by
  obtain ⟨l1, l2, _⟩ := id hk
  have HO := Lib.hid hO
  have HK := Lib.hid hk
  have ol := hO.1
  clear hO hk
  by_cases c1 : ws.length ≤ 24
  · rw [decide_eq_true c1, Bool.true_and]
    have c1' : ¬ (24 : Int) < (ws.length : Int) := by omega
    go_enter Tryz.func50, Tryz.ntmps50
    go_wp2_with fail
    go_loopg [10] ws.length (fun g iv wr => ∃ i : Nat, i ≤ ws.length ∧ g = ws.length - i ∧ iv = .int .i64 (i : Int) ∧ Hid (wdsB (ws.take i) = true) ∧ Qw w wr)
    case atStart => exact ⟨0, Nat.zero_le _, rfl, rfl, Lib.hid (by simp [wdsB]), Qw.refl w⟩
    case round =>
      obtain ⟨i, hi, rfl, rfl, hT, hQ⟩ := hrel
      have q0 := Lib.hid hQ
      by_cases hlt : i < ws.length
      · have hKr := HK.out.go (w' := wr) (T := S) (fun b hS hb => ⟨hQ.block b hb, hS⟩)
        have HOr := Lib.hid (HO.out.kept hQ)
        clear hQ
        obtain ⟨_, _, h0 | ⟨b, off, ad, cc, rfl, hS, hc⟩⟩ := hKr
        · rw [h0] at hlt; simp at hlt
        · obtain ⟨z0, z1, z2, z3, z4⟩ := hc i hlt
          have KK := Lib.hid z4
          have hi2 : (i : Int) < (ws.length : Int) := by omega
          have bl := cell_lt z0
          have hne : b ≠ wr.heap.size := by omega
          have fw := fun w => syIsWord ws[i].1 w
          have cr := fun w1 (h : KidsB w1 S (ad i) (cc i) ws[i].2.ks) (hO : Ow w1) => sv_right ws[i].2.op ws[i].2.n ws[i].2.ks (ad i) (cc i) S w1 hO h
          have eX : Sy.rgt (.mk ws[i].2.op ws[i].2.n ws[i].2.ks) = Sy.rgt ws[i].2 := by cases ws[i].2; rfl
          rw [eX] at cr
          have step : wdsB (ws.take (i + 1)) = (Sy.isw ws[i].1 && Sy.rgt ws[i].2) := by
            have h := hT.out
            unfold wdsB at h ⊢
            rw [List.take_succ_eq_append_getElem hlt, List.all_append, h]; simp
          have bad : (Sy.isw ws[i].1 && Sy.rgt ws[i].2) = false → wdsB ws = false := fun h => by
            unfold wdsB; rw [List.all_eq_false]; exact ⟨ws[i], List.getElem_mem hlt, by rw [h]; decide⟩
          cases eW : Sy.isw ws[i].1 with
          | false =>
            have eA : Hid (wdsB ws = false) := Lib.hid (bad (by rw [eW]; rfl))
            rw [eW] at fw
            have FW := Lib.hid fw
            clear fw cr eX step bad eW hc z4
            go_wp2_with (go_at_call 85; ((with_reducible refine (FW.out _).mono ?_); rintro e w' ⟨rfl, rfl⟩))
            go_ret
            exact ⟨ret_bool5 eA.out.symm, Qz⟩
          | true =>
            rw [eW] at fw
            have FW := Lib.hid fw
            cases eR : Sy.rgt ws[i].2 with
            | false =>
              have eA : Hid (wdsB ws = false) := Lib.hid (bad (by rw [eW, eR]; rfl))
              rw [eR] at cr
              have CR := Lib.hid cr
              clear fw cr eX step bad eW eR hc z4
              go_wp2_with (first | (go_at_call 85; ((with_reducible refine (FW.out _).mono ?_); rintro e w' ⟨rfl, rfl⟩)) | (go_at_call 46; ((with_reducible refine (CR.out _ (KidsB.kept KK.out Qz) (Ow.kept HOr.out Qz)).mono ?_); rintro e w' ⟨rfl, q⟩; replace q0 : Hid (Qw w w') := Lib.hid (Qw.trans Qz q); clear q)))
              go_ret
              exact ⟨ret_bool5 eA.out.symm, q0.out⟩
            | true =>
              have hT' : Hid (wdsB (ws.take (i + 1)) = true) := Lib.hid (by rw [step, eW, eR]; rfl)
              rw [eR] at cr
              have CR := Lib.hid cr
              clear fw cr eX step bad eW eR hc z4 hT
              go_wp2_with (first | (go_at_call 85; ((with_reducible refine (FW.out _).mono ?_); rintro e w' ⟨rfl, rfl⟩)) | (go_at_call 46; ((with_reducible refine (CR.out _ (KidsB.kept KK.out Qz) (Ow.kept HOr.out Qz)).mono ?_); rintro e w' ⟨rfl, q⟩; replace q0 : Hid (Qw w w') := Lib.hid (Qw.trans Qz q); clear q)))
              go_roundg (ws.length - (i + 1))
              case measure => omega
              case rel => exact ⟨i + 1, by omega, rfl, by go_num, hT', q0.out⟩
      · obtain rfl : i = ws.length := by omega
        clear hQ
        have hb : ¬ (ws.length : Int) < (ws.length : Int) := by omega
        go_wp2_with fail
        go_ret
        exact ⟨ret_bool5 (by have := hT.out; rw [List.take_length] at this; exact this.symm), q0.out⟩
  · rw [decide_eq_false c1, Bool.false_and]
    have c1' : (24 : Int) < (ws.length : Int) := by omega
    go_enter Tryz.func50, Tryz.ntmps50
    go_wp2_with fail
    go_ret
    exact ⟨rfl, Qz⟩
end Go.Proofs.YtbcbnkapipimmaaGreatDoor
set_option linter.unusedVariables false
set_option linter.unusedSimpArgs false
namespace Go.Proofs.YtbcbnkapipimmaaGreatDoor
open Go.RowKit
namespace Sy
def dw (k : Nat) (ks : List Ex) (i : Nat) : Nat := 1 + dmx ((ks.take i).map (fun x => min (dpt x) k))
theorem dmx_app (l : List Nat) (d : Nat) : dmx (l ++ [d]) = max (dmx l) d := by
  induction l with
  | nil => simp [dmx]
  | cons e l ih => rw [List.cons_append, dmx, dmx, ih]; omega
theorem dmx_min (l : List Ex) (k : Nat) : dmx (l.map (fun x => min (dpt x) k)) = min (dmx (l.map dpt)) k := by
  induction l with
  | nil => simp [dmx]
  | cons e l ih => simp only [List.map_cons, dmx, ih]; omega
theorem dmx_take (l : List Nat) (i : Nat) : dmx (l.take i) ≤ dmx l :=
  dmx_le.2 fun d hd => dmx_le.1 (Nat.le_refl _) d (List.mem_of_mem_take hd)
theorem dw_zero (k : Nat) (ks : List Ex) : dw k ks 0 = 1 := by simp [dw, dmx]
theorem dw_pos (k : Nat) (ks : List Ex) (i : Nat) : 1 ≤ dw k ks i := by unfold dw; omega
theorem dw_le (k : Nat) (ks : List Ex) (i : Nat) : dw k ks i ≤ k + 1 := by unfold dw; rw [dmx_min]; omega
theorem dw_succ (k : Nat) (ks : List Ex) {i : Nat} (h : i < ks.length) : dw k ks (i + 1) = max (dw k ks i) (1 + min (dpt ks[i]) k) := by
  unfold dw
  rw [List.take_succ_eq_append_getElem h, List.map_append, List.map_cons, List.map_nil, dmx_app]; omega
theorem dw_full (k : Nat) (op n : Int) (ks : List Ex) : dw k ks ks.length = min (dpt (.mk op n ks)) (k + 1) := by
  unfold dw; rw [List.take_length, dmx_min, dpt_mk]; omega
theorem dw_stop (k : Nat) (op n : Int) (ks : List Ex) {i : Nat} (h : k + 1 ≤ dw k ks i) : dw k ks i = min (dpt (.mk op n ks)) (k + 1) := by
  have h1 := dw_le k ks i
  unfold dw at *
  rw [dmx_min] at *
  have h2 : dmx ((ks.take i).map dpt) ≤ dmx (ks.map dpt) := by rw [List.map_take]; exact dmx_take _ _
  rw [dpt_mk]; omega
end Sy
set_option maxRecDepth 100000 in
set_option maxHeartbeats 4000000 in
theorem sv_depthWithin (k : Nat) : ∀ (op n : Int) (ks : List Sy.Ex) (a : Option Addr) (cap : Nat) (S : Nat → Prop) (w : World), 1 ≤ k → k ≤ 17 → KidsB w S a cap ks →
    Calls Tryz.prog 81 #[.agg #[.int .i64 op, .int .i64 n, .slice a ks.length cap], .int .i64 (k : Int)] w fun e w' => e = .returned (.int .i64 ((min (Sy.dpt (.mk op n ks)) k : Nat) : Int)) ∧ Qw w w' := by
  induction k with
  | zero => intro op n ks a cap S w h; omega
  | succ k ih =>
    intro op n ks a cap S w _ hk17 hk
    obtain ⟨l1, l2⟩ := hk.cap
    have k1 : ((k + 1 : Nat) : Int) = (k : Int) + 1 := by omega
    rw [k1]
    have HK := Lib.hid hk
    have IH := Lib.hid ih
    clear hk ih k1
    go_enter Tryz.func81, Tryz.ntmps81
    go_wp2_with fail
    have QS : Hid (Qw w (w.alloc (.cells #[.int .i64 op, .int .i64 n, .slice a ks.length cap] 27))) := Lib.hid Qz
    have B0 := Lib.hid (Bx.new w #[.int .i64 op, .int .i64 n, .slice a ks.length cap] 27)
    go_loopg [5, 6] ks.length (fun g dv iv wr => ∃ i : Nat, i ≤ ks.length ∧ g = ks.length - i ∧ dv = .int .i64 (Sy.dw k ks i : Int) ∧ iv = .int .i64 (i : Int) ∧ Hid (Bx wr w.heap.size #[.int .i64 op, .int .i64 n, .slice a ks.length cap] 27) ∧ Qw w wr)
    case atStart => exact ⟨0, Nat.zero_le _, rfl, by rw [Sy.dw_zero]; rfl, rfl, B0, QS.out⟩
    case round =>
      obtain ⟨i, hi, rfl, rfl, rfl, B, hQ⟩ := hrel
      have x2 : wr.cell? ⟨w.heap.size, 2, none⟩ = some (.slice a ks.length cap) := B.out.cell' 2 _ rfl
      have q0 := Lib.hid hQ
      have dp := Sy.dw_pos k ks i
      have dl := Sy.dw_le k ks i
      by_cases hlt : i < ks.length
      · by_cases hd : Sy.dw k ks i < k + 1
        · have hKr := HK.out.kept hQ
          clear hQ QS B0
          cases hKr with
          | nl => simp at hlt
          | mk b off cap ks ad cc hS h1 h2 hc hkk =>
            obtain ⟨z0, z1, z2⟩ := hc i hlt
            have KK := Lib.hid (hkk i hlt)
            have hi2 : (i : Int) < (ks.length : Int) := by omega
            have hd2 : (Sy.dw k ks i : Int) < (k : Int) + 1 := by omega
            have cr := fun w1 (h : KidsB w1 S (ad i) (cc i) ks[i].ks) => IH.out ks[i].op ks[i].n ks[i].ks (ad i) (cc i) S w1 (by omega) (by omega) h
            have eX : Sy.dpt (.mk ks[i].op ks[i].n ks[i].ks) = Sy.dpt ks[i] := by cases ks[i]; rfl
            rw [eX] at cr
            have eS := Sy.dw_succ k ks hlt
            have bl := cell_lt z0
            have hne : b ≠ wr.heap.size := by omega
            have hm : min (Sy.dpt ks[i]) k ≤ 17 := by omega
            generalize min (Sy.dpt ks[i]) k = m at cr eS hm
            have CR := Lib.hid cr
            clear cr eX hc hkk
            go_wp2_with (go_at_call 81; ((with_reducible refine (CR.out _ (KidsB.kept KK.out Qz)).mono ?_); rintro e w' ⟨rfl, q⟩; replace B := Lib.hid (B.out.kept q); replace q0 : Hid (Qw w w') := Lib.hid (Qw.trans Qz q); clear q))
            go_roundg (ks.length - (i + 1))
            case measure => omega
            case rel => exact ⟨i + 1, by omega, rfl, by rw [eS]; go_num, by go_num, B, q0.out⟩
        · have hi2 : (i : Int) < (ks.length : Int) := by omega
          have hd2 : ¬ (Sy.dw k ks i : Int) < (k : Int) + 1 := by omega
          have eF := Sy.dw_stop k op n ks (i := i) (by omega)
          clear hQ QS B0
          go_wp2_with fail
          go_ret
          exact ⟨by rw [← eF]; rfl, q0.out⟩
      · obtain rfl : i = ks.length := by omega
        clear hQ QS B0
        have hb : ¬ (ks.length : Int) < (ks.length : Int) := by omega
        have eF := Sy.dw_full k op n ks
        go_wp2_with fail
        go_ret
        exact ⟨by rw [← eF]; rfl, q0.out⟩
theorem sv_depth (op n : Int) (ks : List Sy.Ex) (a : Option Addr) (cap : Nat) (S : Nat → Prop) (w : World) (hk : KidsB w S a cap ks) :
    Calls Tryz.prog 44 #[.agg #[.int .i64 op, .int .i64 n, .slice a ks.length cap]] w fun e w' => e = .returned (.int .i64 ((min (Sy.dpt (.mk op n ks)) 17 : Nat) : Int)) ∧ Qw w w' := by
  have c1 : ∀ w, KidsB w S a cap ks → Calls Tryz.prog 81 #[.agg #[.int .i64 op, .int .i64 n, .slice a ks.length cap], .int .i64 17] w fun e w' => e = .returned (.int .i64 ((min (Sy.dpt (.mk op n ks)) 17 : Nat) : Int)) ∧ Qw w w' := fun w h1 =>
    sv_depthWithin 17 op n ks a cap S w (by decide) (Nat.le_refl _) h1
  have C1 := Lib.hid c1
  have HK := Lib.hid hk
  clear c1 hk
  have q0 : Hid (Qw w w) := Lib.hid (Qw.refl w)
  go_enter Tryz.func44, Tryz.ntmps44
  go_wp2_with (go_at_call 81; ((with_reducible refine (C1.out _ (KidsB.kept HK.out Qz)).mono ?_); rintro e w' ⟨rfl, q⟩; replace q0 : Hid (Qw w w') := Lib.hid (Qw.trans Qz q); clear q))
  go_ret
  exact ⟨rfl, q0.out⟩
end Go.Proofs.YtbcbnkapipimmaaGreatDoor
set_option linter.unusedVariables false
set_option linter.unusedSimpArgs false
namespace Go.Proofs.YtbcbnkapipimmaaGreatDoor
open Go.RowKit
theorem ta_nil (w : World) : (Instr.typeAssert Value.nilIface 20 67 true).run Tryz.prog w = .ok (.tuple #[.agg #[.int .i64 0, .int .i64 0], .bool false]) w := by kernel_rfl
theorem ta_fail (p c : Int) (w : World) : (Instr.typeAssert (.iface 67 (.agg #[.int .i64 p, .int .i64 c])) 20 67 true).run Tryz.prog w = .ok (.tuple #[.agg #[.int .i64 p, .int .i64 c], .bool true]) w := by kernel_rfl
set_option maxRecDepth 100000 in
set_option maxHeartbeats 4000000 in
theorem catch_idle (a0 a1 a2 : Addr) (w : World) :
    CallsD Tryz.prog 40 #[.pointer (some a0), .pointer (some a1), .pointer (some a2)] .returning w fun e u' w' => e = .returned (.tuple #[]) ∧ u' = .returning ∧ Qw w w' := by
  refine callsD_of_wpS Tryz.func40 rfl fun c₀ cs hu => ?_
  apply wpS_seq
  apply wpS_region
  simp [wpOpsS, go_sem, recoverD, hu, Tryz.ntmps40, Exit.thenS, ta_nil]
  refine wpS_of_wp ?_
  change Code.wp _ _ _ { tmps := #[.pointer (some a0), .pointer (some a1), .pointer (some a2), .pointer (some ⟨w.heap.size, 0, none⟩), .bool false, .tuple #[.agg #[.int .i64 0, .int .i64 0], .bool false], Value.nilIface, .tuple #[.agg #[.int .i64 0, .int .i64 0], .bool false], .agg #[.int .i64 0, .int .i64 0], .bool false, undef, undef, undef, undef, undef, undef], defers := [] } _
  go_wp2_with fail
  cases c₀
  simp_all [bodyPostS, results, Tryz.results40]
  exact (Below.refl _ _).alloc (Nat.le_refl _) _
end Go.Proofs.YtbcbnkapipimmaaGreatDoor
set_option linter.unusedVariables false
set_option linter.unusedSimpArgs false
namespace Go.Proofs.YtbcbnkapipimmaaGreatDoor
open Go.RowKit
set_option maxRecDepth 100000 in
set_option maxHeartbeats 4000000 in
theorem sy_cell {P : Nat} {a : Option Addr} {cap : Nat} {ts : List Lx.Tok} {len f : Nat} (A : SyAll P a cap ts len f) (i : Nat) (w : World) (h : Par w P a cap ts len i) (hf : 16 * (ts.length - i) + 2 ≤ f + 1) :
    Calls Tryz.prog 145 #[.pointer (some ⟨P, 0, none⟩)] w (PR P a cap ts len w (Sy.pC ts (f + 1) i)) := by
  obtain ⟨hP, hO⟩ := h.lt
  have hle := h.le
  have H := Lib.hid h
  clear h
  have R : Hid (Bx (w.alloc (.cells exZ 27)) w.heap.size exZ 27) := Lib.hid (Bx.new w _ _)
  rw [Sy.pC]
  by_cases hk : Sy.kd ts i = 2
  · rw [if_pos hk]
    have hi := Sy.kd_lt hk (by decide)
    have hl := H.out.hl
    have hv : tokV ts len i = .agg #[.int .i64 2, .int .i64 (Sy.tn ts i), .int .i64 (Sy.tp ts len i : Nat), .string (bs (Sy.tx ts i))] := by unfold tokV; rw [hk]
    replace hv := Lib.hid hv
    have e1 : Hid (((i + 1 : Nat) : Int) = (i : Int) + 1) := Lib.hid (by omega)
    generalize Sy.tn ts i = n at *
    clear hk
    have q0 : Hid (Px P w w) := Lib.hid (Px.refl P w)
    go_enter Tryz.func145, Tryz.ntmps145
    go_wp2_with (go_at_call 109; ((with_reducible refine (syNext (H.out.kept Qz)).mono ?_); rintro e w' ⟨rfl, q⟩; rw [hv.out]; replace R : Hid (Bx w' w.heap.size exZ 27) := Lib.hid (Bx.kept Rz q); have rl := R.out.lt; have r0 := R.out.cell' 0 _ rfl; have r1 := R.out.cell' 1 _ rfl; have r2 := R.out.cell' 2 _ rfl; have s0 := R.out.free 0; have s1 := R.out.free 1; have s2 := R.out.free 2; replace H := Lib.hid (Par.kept H.out (Qw.trans Qz q)); have p1 : w'.cell? ⟨P, 1, none⟩ = some (.int .i64 (i : Int)) := H.out.bx.cell' 1 _ rfl; have p2 := H.out.bx.free 1; have pl := H.out.bx.lt; replace q0 : Hid (Px P w w') := Lib.hid (Px.trans Pz (Px.of q)); clear q))
    have h1 := H.out.set (i + 1) hi
    rw [e1.out] at h1
    exact exRet (x := Sy.num n) Tryz.results145 rfl rfl (exAl _ (exEnd (x := Sy.num n) hP hO rfl rfl rfl (R.out.other (by show w.heap.size ≠ P; omega) _) (KidsB.nl none 0 (by decide)) h1 (q0.out.setP 1 _)))
  · rw [if_neg hk]
    have hv : Hid (tokV ts len i = .agg #[.int .i64 (Sy.kd ts i), .int .i64 (Sy.tn ts i), .int .i64 (Sy.tp ts len i : Nat), .string (bs (Sy.tx ts i))]) := Lib.hid rfl
    have hb : (Sy.kd ts i == 2) = false := by simpa using hk
    clear hk
    by_cases hx : Sy.tx ts i = [35]
    · rw [if_pos hx]
      have hi := Sy.tx_lt hx (by decide)
      have x1 : Hid ((⟨#[35]⟩ : ByteArray) = bs (Sy.tx ts i)) := Lib.hid (by rw [hx]; rfl)
      have x2 : Hid (Sy.tx ts i ≠ []) := Lib.hid (by rw [hx]; decide)
      have c1 : ∀ w, Par w P a cap ts len (i + 1) → Calls Tryz.prog 145 #[.pointer (some ⟨P, 0, none⟩)] w (PR P a cap ts len w (Sy.pC ts f (i + 1))) := fun w h => A.c (i + 1) w h (by omega)
      clear hx
      cases e1 : Sy.pC ts f (i + 1) with
      | bad j =>
        rw [e1] at c1
        have C1 := Lib.hid c1
        clear c1 e1
        have q0 : Hid (Px P w w) := Lib.hid (Px.refl P w)
        go_enter Tryz.func145, Tryz.ntmps145
        go_wp2_with (first | (go_at_call 109; ((with_reducible refine (syNext (H.out.kept Qz)).mono ?_); rintro e w' ⟨rfl, q⟩; rw [hv.out]; replace R : Hid (Bx w' w.heap.size exZ 27) := Lib.hid (Bx.kept Rz q); replace H := Lib.hid (Par.kept H.out (Qw.trans Qz q)); replace q0 : Hid (Px P w w') := Lib.hid (Px.trans Pz (Px.of q)); clear q)) | (go_at_call 76; ((with_reducible refine (syAcceptY (H.out.kept Qz) _ x1.out x2.out).mono ?_); rintro e w' ⟨rfl, hp, q⟩; have pw := (Par.lt hp).1; skip; replace H := Lib.hid hp; clear hp; replace q0 : Hid (Px P w w') := Lib.hid (Px.trans Pz q); clear q)) | (go_at_call 145; ((with_reducible refine (C1.out _ (H.out.kept Qz)).mono ?_); rintro e w' ⟨rfl, q⟩; replace q0 : Hid (Px P w w') := Lib.hid (Px.trans Pz q); clear q)))
        exact ⟨rfl, rfl, q0.out⟩
      | ok x j =>
        rw [e1] at c1
        have C1 := Lib.hid c1
        clear c1 e1
        have q0 : Hid (Px P w w) := Lib.hid (Px.refl P w)
        go_enter Tryz.func145, Tryz.ntmps145
        go_wp2_with (first | (go_at_call 109; ((with_reducible refine (syNext (H.out.kept Qz)).mono ?_); rintro e w' ⟨rfl, q⟩; rw [hv.out]; replace R : Hid (Bx w' w.heap.size exZ 27) := Lib.hid (Bx.kept Rz q); replace H := Lib.hid (Par.kept H.out (Qw.trans Qz q)); replace q0 : Hid (Px P w w') := Lib.hid (Px.trans Pz (Px.of q)); clear q)) | (go_at_call 76; ((with_reducible refine (syAcceptY (H.out.kept Qz) _ x1.out x2.out).mono ?_); rintro e w' ⟨rfl, hp, q⟩; have pw := (Par.lt hp).1; replace R : Hid (Bx w' w.heap.size exZ 27) := Lib.hid (Bx.px Rz q (by omega)); replace H := Lib.hid hp; clear hp; replace q0 : Hid (Px P w w') := Lib.hid (Px.trans Pz q); clear q)) | (go_at_call 145; ((with_reducible refine (C1.out _ (H.out.kept Qz)).mono ?_); rintro e w' ⟨ka, kc, rfl, k, hp, q⟩; have pw := (Par.lt hp).1; have K : Hid (KidsB w' (fun b => w.heap.size < b) ka kc (Sy.Ex.ks x)) := Lib.hid (KidsB.mono k (fun b hb => Nat.lt_of_lt_of_le (Bx.lt Rz) hb)); clear k; replace R : Hid (Bx w' w.heap.size exZ 27) := Lib.hid (Bx.px Rz q (by omega)); replace H := Lib.hid hp; clear hp; replace q0 : Hid (Px P w w') := Lib.hid (Px.trans Pz q); clear q)) | (go_at_call 167; ((with_reducible refine (syNode _ _ _ _ _).mono ?_); rintro e w' ⟨rfl, q⟩; have G := Bx.kept (Bx.new _ _ _) q; have K2 : Hid (KidsB w' (fun b => w.heap.size < b) _ 1 [x]) := Lib.hid (KidsB.one G (Bx.lt Rz) (KidsB.kept (by repeat (first | exact K.out | refine KidsB.alloc ?_ _ | refine KidsB.drew ?_)) q)); clear G; replace R : Hid (Bx w' w.heap.size exZ 27) := Lib.hid (Bx.kept Rz q); have rl := R.out.lt; have r0 := R.out.cell' 0 _ rfl; have r1 := R.out.cell' 1 _ rfl; have r2 := R.out.cell' 2 _ rfl; have s0 := R.out.free 0; have s1 := R.out.free 1; have s2 := R.out.free 2; replace H := Lib.hid (Par.kept H.out (Qw.trans Qz q)); replace q0 : Hid (Px P w w') := Lib.hid (Px.trans Pz (Px.of q)); clear q)))
        exact exRet (x := Sy.un 1 x) Tryz.results145 rfl rfl (exEnd (x := Sy.un 1 x) hP hO rfl rfl rfl R.out K2.out H.out q0.out)
    · rw [if_neg hx]
      have x1 : Hid ((⟨#[35]⟩ : ByteArray) ≠ bs (Sy.tx ts i)) := Lib.hid (fun h => hx (bs_inj.1 (show bs [35] = _ from h)).symm)
      have c1 : ∀ w, Par w P a cap ts len i → Calls Tryz.prog 147 #[.pointer (some ⟨P, 0, none⟩)] w (PR P a cap ts len w (Sy.pB ts f i)) := fun w h => A.b i w h (by omega)
      clear hx
      cases e1 : Sy.pB ts f i with
      | bad j =>
        rw [e1] at c1
        have C1 := Lib.hid c1
        clear c1 e1
        have q0 : Hid (Px P w w) := Lib.hid (Px.refl P w)
        go_enter Tryz.func145, Tryz.ntmps145
        go_wp2_with (first | (go_at_call 109; ((with_reducible refine (syNext (H.out.kept Qz)).mono ?_); rintro e w' ⟨rfl, q⟩; rw [hv.out]; replace R : Hid (Bx w' w.heap.size exZ 27) := Lib.hid (Bx.kept Rz q); replace H := Lib.hid (Par.kept H.out (Qw.trans Qz q)); replace q0 : Hid (Px P w w') := Lib.hid (Px.trans Pz (Px.of q)); clear q)) | (go_at_call 76; ((with_reducible refine (syAcceptN (H.out.kept Qz) _ x1.out).mono ?_); rintro e w' ⟨rfl, q⟩; skip; replace H := Lib.hid (Par.kept H.out (Qw.trans Qz q)); replace q0 : Hid (Px P w w') := Lib.hid (Px.trans Pz (Px.of q)); clear q)) | (go_at_call 147; ((with_reducible refine (C1.out _ (H.out.kept Qz)).mono ?_); rintro e w' ⟨rfl, q⟩; replace q0 : Hid (Px P w w') := Lib.hid (Px.trans Pz q); clear q)))
        exact ⟨rfl, rfl, q0.out⟩
      | ok x j =>
        rw [e1] at c1
        have C1 := Lib.hid c1
        clear c1 e1
        have q0 : Hid (Px P w w) := Lib.hid (Px.refl P w)
        go_enter Tryz.func145, Tryz.ntmps145
        go_wp2_with (first | (go_at_call 109; ((with_reducible refine (syNext (H.out.kept Qz)).mono ?_); rintro e w' ⟨rfl, q⟩; rw [hv.out]; replace R : Hid (Bx w' w.heap.size exZ 27) := Lib.hid (Bx.kept Rz q); replace H := Lib.hid (Par.kept H.out (Qw.trans Qz q)); replace q0 : Hid (Px P w w') := Lib.hid (Px.trans Pz (Px.of q)); clear q)) | (go_at_call 76; ((with_reducible refine (syAcceptN (H.out.kept Qz) _ x1.out).mono ?_); rintro e w' ⟨rfl, q⟩; replace R : Hid (Bx w' w.heap.size exZ 27) := Lib.hid (Bx.kept Rz q); replace H := Lib.hid (Par.kept H.out (Qw.trans Qz q)); replace q0 : Hid (Px P w w') := Lib.hid (Px.trans Pz (Px.of q)); clear q)) | (go_at_call 147; ((with_reducible refine (C1.out _ (H.out.kept Qz)).mono ?_); rintro e w' ⟨ka, kc, rfl, k, hp, q⟩; have pw := (Par.lt hp).1; have K : Hid (KidsB w' (fun b => w.heap.size < b) ka kc (Sy.Ex.ks x)) := Lib.hid (KidsB.mono k (fun b hb => Nat.lt_of_lt_of_le (Bx.lt Rz) hb)); clear k; replace R : Hid (Bx w' w.heap.size exZ 27) := Lib.hid (Bx.px Rz q (by omega)); have rl := R.out.lt; have r0 := R.out.cell' 0 _ rfl; have r1 := R.out.cell' 1 _ rfl; have r2 := R.out.cell' 2 _ rfl; have s0 := R.out.free 0; have s1 := R.out.free 1; have s2 := R.out.free 2; replace H := Lib.hid hp; clear hp; replace q0 : Hid (Px P w w') := Lib.hid (Px.trans Pz q); clear q)))
        exact exRet (x := x) Tryz.results145 rfl rfl (exEnd (x := x) hP hO rfl rfl rfl R.out K.out H.out q0.out)
end Go.Proofs.YtbcbnkapipimmaaGreatDoor
set_option linter.unusedVariables false
set_option linter.unusedSimpArgs false
namespace Go.Proofs.YtbcbnkapipimmaaGreatDoor
open Go.RowKit
set_option maxRecDepth 100000 in
set_option maxHeartbeats 4000000 in
theorem sy_unary {P : Nat} {a : Option Addr} {cap : Nat} {ts : List Lx.Tok} {len f : Nat} (A : SyAll P a cap ts len f) (i : Nat) (w : World) (h : Par w P a cap ts len i) (hf : Sy.need ts.length i 5 ≤ f + 1) :
    Calls Tryz.prog 189 #[.pointer (some ⟨P, 0, none⟩)] w (PR P a cap ts len w (Sy.pE ts (f + 1) 5 i)) := by
  obtain ⟨hP, hO⟩ := h.lt
  have hle := h.le
  have H := Lib.hid h
  clear h
  have R : Hid (Bx (w.alloc (.cells exZ 27)) w.heap.size exZ 27) := Lib.hid (Bx.new w _ _)
  unfold Sy.need at hf
  rw [Sy.pE, if_pos rfl]
  by_cases hx : Sy.tx ts i = [45]
  · rw [if_pos hx]
    have hi := Sy.tx_lt hx (by decide)
    have x1 : Hid ((⟨#[45]⟩ : ByteArray) = bs (Sy.tx ts i)) := Lib.hid (by rw [hx]; rfl)
    have x2 : Hid (Sy.tx ts i ≠ []) := Lib.hid (by rw [hx]; decide)
    have c1 : ∀ w, Par w P a cap ts len (i + 1) → Calls Tryz.prog 189 #[.pointer (some ⟨P, 0, none⟩)] w (PR P a cap ts len w (Sy.pE ts f 5 (i + 1))) := fun w h => A.e 5 (i + 1) w (by omega) h (by unfold Sy.need; omega)
    clear hx
    cases e1 : Sy.pE ts f 5 (i + 1) with
    | bad j =>
      rw [e1] at c1
      have C1 := Lib.hid c1
      clear c1 e1
      have q0 : Hid (Px P w w) := Lib.hid (Px.refl P w)
      go_enter Tryz.func189, Tryz.ntmps189
      go_wp2_with (first | (go_at_call 76; ((with_reducible refine (syAcceptY (H.out.kept Qz) _ x1.out x2.out).mono ?_); rintro e w' ⟨rfl, hp, q⟩; have pw := (Par.lt hp).1; skip; replace H := Lib.hid hp; clear hp; replace q0 : Hid (Px P w w') := Lib.hid (Px.trans Pz q); clear q)) | (go_at_call 189; ((with_reducible refine (C1.out _ (H.out.kept Qz)).mono ?_); rintro e w' ⟨rfl, q⟩; replace q0 : Hid (Px P w w') := Lib.hid (Px.trans Pz q); clear q)))
      exact ⟨rfl, rfl, q0.out⟩
    | ok x j =>
      rw [e1] at c1
      have C1 := Lib.hid c1
      clear c1 e1
      have q0 : Hid (Px P w w) := Lib.hid (Px.refl P w)
      go_enter Tryz.func189, Tryz.ntmps189
      go_wp2_with (first | (go_at_call 76; ((with_reducible refine (syAcceptY (H.out.kept Qz) _ x1.out x2.out).mono ?_); rintro e w' ⟨rfl, hp, q⟩; have pw := (Par.lt hp).1; replace R : Hid (Bx w' w.heap.size exZ 27) := Lib.hid (Bx.px Rz q (by omega)); replace H := Lib.hid hp; clear hp; replace q0 : Hid (Px P w w') := Lib.hid (Px.trans Pz q); clear q)) | (go_at_call 189; ((with_reducible refine (C1.out _ (H.out.kept Qz)).mono ?_); rintro e w' ⟨ka, kc, rfl, k, hp, q⟩; have pw := (Par.lt hp).1; have K : Hid (KidsB w' (fun b => w.heap.size < b) ka kc (Sy.Ex.ks x)) := Lib.hid (KidsB.mono k (fun b hb => Nat.lt_of_lt_of_le (Bx.lt Rz) hb)); clear k; replace R : Hid (Bx w' w.heap.size exZ 27) := Lib.hid (Bx.px Rz q (by omega)); replace H := Lib.hid hp; clear hp; replace q0 : Hid (Px P w w') := Lib.hid (Px.trans Pz q); clear q)) | (go_at_call 167; ((with_reducible refine (syNode _ _ _ _ _).mono ?_); rintro e w' ⟨rfl, q⟩; have G := Bx.kept (Bx.new _ _ _) q; have K2 : Hid (KidsB w' (fun b => w.heap.size < b) _ 1 [x]) := Lib.hid (KidsB.one G (Bx.lt Rz) (KidsB.kept (by repeat (first | exact K.out | refine KidsB.alloc ?_ _ | refine KidsB.drew ?_)) q)); clear G; replace R : Hid (Bx w' w.heap.size exZ 27) := Lib.hid (Bx.kept Rz q); have rl := R.out.lt; have r0 := R.out.cell' 0 _ rfl; have r1 := R.out.cell' 1 _ rfl; have r2 := R.out.cell' 2 _ rfl; have s0 := R.out.free 0; have s1 := R.out.free 1; have s2 := R.out.free 2; replace H := Lib.hid (Par.kept H.out (Qw.trans Qz q)); replace q0 : Hid (Px P w w') := Lib.hid (Px.trans Pz (Px.of q)); clear q)))
      exact exRet (x := Sy.un 2 x) Tryz.results189 rfl rfl (exEnd (x := Sy.un 2 x) hP hO rfl rfl rfl R.out K2.out H.out q0.out)
  · rw [if_neg hx]
    have x1 : Hid ((⟨#[45]⟩ : ByteArray) ≠ bs (Sy.tx ts i)) := Lib.hid (fun h => hx (bs_inj.1 (show bs [45] = _ from h)).symm)
    clear hx
    by_cases hx : Sy.tx ts i = [43]
    · rw [if_pos hx]
      have hi := Sy.tx_lt hx (by decide)
      have y1 : Hid ((⟨#[43]⟩ : ByteArray) = bs (Sy.tx ts i)) := Lib.hid (by rw [hx]; rfl)
      have y2 : Hid (Sy.tx ts i ≠ []) := Lib.hid (by rw [hx]; decide)
      have c1 : ∀ w, Par w P a cap ts len (i + 1) → Calls Tryz.prog 189 #[.pointer (some ⟨P, 0, none⟩)] w (PR P a cap ts len w (Sy.pE ts f 5 (i + 1))) := fun w h => A.e 5 (i + 1) w (by omega) h (by unfold Sy.need; omega)
      clear hx
      cases e1 : Sy.pE ts f 5 (i + 1) with
      | bad j =>
        rw [e1] at c1
        have C1 := Lib.hid c1
        clear c1 e1
        have q0 : Hid (Px P w w) := Lib.hid (Px.refl P w)
        go_enter Tryz.func189, Tryz.ntmps189
        go_wp2_with (first | (go_at_call 76; ((with_reducible refine (syAcceptN (H.out.kept Qz) _ x1.out).mono ?_); rintro e w' ⟨rfl, q⟩; skip; replace H := Lib.hid (Par.kept H.out (Qw.trans Qz q)); replace q0 : Hid (Px P w w') := Lib.hid (Px.trans Pz (Px.of q)); clear q)) | (go_at_call 76; ((with_reducible refine (syAcceptY (H.out.kept Qz) _ y1.out y2.out).mono ?_); rintro e w' ⟨rfl, hp, q⟩; have pw := (Par.lt hp).1; skip; replace H := Lib.hid hp; clear hp; replace q0 : Hid (Px P w w') := Lib.hid (Px.trans Pz q); clear q)) | (go_at_call 189; ((with_reducible refine (C1.out _ (H.out.kept Qz)).mono ?_); rintro e w' ⟨rfl, q⟩; replace q0 : Hid (Px P w w') := Lib.hid (Px.trans Pz q); clear q)))
        exact ⟨rfl, rfl, q0.out⟩
      | ok x j =>
        rw [e1] at c1
        have C1 := Lib.hid c1
        clear c1 e1
        have q0 : Hid (Px P w w) := Lib.hid (Px.refl P w)
        go_enter Tryz.func189, Tryz.ntmps189
        go_wp2_with (first | (go_at_call 76; ((with_reducible refine (syAcceptN (H.out.kept Qz) _ x1.out).mono ?_); rintro e w' ⟨rfl, q⟩; replace R : Hid (Bx w' w.heap.size exZ 27) := Lib.hid (Bx.kept Rz q); replace H := Lib.hid (Par.kept H.out (Qw.trans Qz q)); replace q0 : Hid (Px P w w') := Lib.hid (Px.trans Pz (Px.of q)); clear q)) | (go_at_call 76; ((with_reducible refine (syAcceptY (H.out.kept Qz) _ y1.out y2.out).mono ?_); rintro e w' ⟨rfl, hp, q⟩; have pw := (Par.lt hp).1; replace R : Hid (Bx w' w.heap.size exZ 27) := Lib.hid (Bx.px Rz q (by omega)); replace H := Lib.hid hp; clear hp; replace q0 : Hid (Px P w w') := Lib.hid (Px.trans Pz q); clear q)) | (go_at_call 189; ((with_reducible refine (C1.out _ (H.out.kept Qz)).mono ?_); rintro e w' ⟨ka, kc, rfl, k, hp, q⟩; have pw := (Par.lt hp).1; have K : Hid (KidsB w' (fun b => w.heap.size < b) ka kc (Sy.Ex.ks x)) := Lib.hid (KidsB.mono k (fun b hb => Nat.lt_of_lt_of_le (Bx.lt Rz) hb)); clear k; replace R : Hid (Bx w' w.heap.size exZ 27) := Lib.hid (Bx.px Rz q (by omega)); have rl := R.out.lt; have r0 := R.out.cell' 0 _ rfl; have r1 := R.out.cell' 1 _ rfl; have r2 := R.out.cell' 2 _ rfl; have s0 := R.out.free 0; have s1 := R.out.free 1; have s2 := R.out.free 2; replace H := Lib.hid hp; clear hp; replace q0 : Hid (Px P w w') := Lib.hid (Px.trans Pz q); clear q)))
        exact exRet (x := x) Tryz.results189 rfl rfl (exEnd (x := x) hP hO rfl rfl rfl R.out K.out H.out q0.out)
    · rw [if_neg hx]
      have y1 : Hid ((⟨#[43]⟩ : ByteArray) ≠ bs (Sy.tx ts i)) := Lib.hid (fun h => hx (bs_inj.1 (show bs [43] = _ from h)).symm)
      have c1 : ∀ w, Par w P a cap ts len i → Calls Tryz.prog 190 #[.pointer (some ⟨P, 0, none⟩)] w (PR P a cap ts len w (Sy.pP ts f i)) := fun w h => A.p i w h (by omega)
      clear hx
      cases e1 : Sy.pP ts f i with
      | bad j =>
        rw [e1] at c1
        have C1 := Lib.hid c1
        clear c1 e1
        have q0 : Hid (Px P w w) := Lib.hid (Px.refl P w)
        go_enter Tryz.func189, Tryz.ntmps189
        go_wp2_with (first | (go_at_call 76; ((with_reducible refine (syAcceptN (H.out.kept Qz) _ x1.out).mono ?_); rintro e w' ⟨rfl, q⟩; skip; replace H := Lib.hid (Par.kept H.out (Qw.trans Qz q)); replace q0 : Hid (Px P w w') := Lib.hid (Px.trans Pz (Px.of q)); clear q)) | (go_at_call 76; ((with_reducible refine (syAcceptN (H.out.kept Qz) _ y1.out).mono ?_); rintro e w' ⟨rfl, q⟩; skip; replace H := Lib.hid (Par.kept H.out (Qw.trans Qz q)); replace q0 : Hid (Px P w w') := Lib.hid (Px.trans Pz (Px.of q)); clear q)) | (go_at_call 190; ((with_reducible refine (C1.out _ (H.out.kept Qz)).mono ?_); rintro e w' ⟨rfl, q⟩; replace q0 : Hid (Px P w w') := Lib.hid (Px.trans Pz q); clear q)))
        exact ⟨rfl, rfl, q0.out⟩
      | ok x j =>
        rw [e1] at c1
        have C1 := Lib.hid c1
        clear c1 e1
        have q0 : Hid (Px P w w) := Lib.hid (Px.refl P w)
        go_enter Tryz.func189, Tryz.ntmps189
        go_wp2_with (first | (go_at_call 76; ((with_reducible refine (syAcceptN (H.out.kept Qz) _ x1.out).mono ?_); rintro e w' ⟨rfl, q⟩; replace R : Hid (Bx w' w.heap.size exZ 27) := Lib.hid (Bx.kept Rz q); replace H := Lib.hid (Par.kept H.out (Qw.trans Qz q)); replace q0 : Hid (Px P w w') := Lib.hid (Px.trans Pz (Px.of q)); clear q)) | (go_at_call 76; ((with_reducible refine (syAcceptN (H.out.kept Qz) _ y1.out).mono ?_); rintro e w' ⟨rfl, q⟩; replace R : Hid (Bx w' w.heap.size exZ 27) := Lib.hid (Bx.kept Rz q); replace H := Lib.hid (Par.kept H.out (Qw.trans Qz q)); replace q0 : Hid (Px P w w') := Lib.hid (Px.trans Pz (Px.of q)); clear q)) | (go_at_call 190; ((with_reducible refine (C1.out _ (H.out.kept Qz)).mono ?_); rintro e w' ⟨ka, kc, rfl, k, hp, q⟩; have pw := (Par.lt hp).1; have K : Hid (KidsB w' (fun b => w.heap.size < b) ka kc (Sy.Ex.ks x)) := Lib.hid (KidsB.mono k (fun b hb => Nat.lt_of_lt_of_le (Bx.lt Rz) hb)); clear k; replace R : Hid (Bx w' w.heap.size exZ 27) := Lib.hid (Bx.px Rz q (by omega)); have rl := R.out.lt; have r0 := R.out.cell' 0 _ rfl; have r1 := R.out.cell' 1 _ rfl; have r2 := R.out.cell' 2 _ rfl; have s0 := R.out.free 0; have s1 := R.out.free 1; have s2 := R.out.free 2; replace H := Lib.hid hp; clear hp; replace q0 : Hid (Px P w w') := Lib.hid (Px.trans Pz q); clear q)))
        exact exRet (x := x) Tryz.results189 rfl rfl (exEnd (x := x) hP hO rfl rfl rfl R.out K.out H.out q0.out)
end Go.Proofs.YtbcbnkapipimmaaGreatDoor

