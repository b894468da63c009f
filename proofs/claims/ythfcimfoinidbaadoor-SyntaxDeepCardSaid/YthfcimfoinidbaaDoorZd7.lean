import Derived.Test.YthfcimfoinidbaaDoorZd5
import Derived.Test.YthfcimfoinidbaaDoorZd6
import Derived.Defers
import Derived.Recover
set_option linter.unusedVariables false
set_option linter.unusedSimpArgs false
namespace Go.Proofs.YthfcimfoinidbaaDoor
open Go.RowKit
namespace Sy
def dw (k : Nat) (ks : List Ex) (i : Nat) : Nat := 1 + dmx ((ks.take i).map (fun x => min (dpt x) k))
theorem dmx_app (l : List Nat) (d : Nat) : dmx (l ++ [d]) = max (dmx l) d := by
  induction l with
  | nil => simp [dmx]
  | cons e l ih => rw [List.cons_append, dmx, dmx, ih]; omega
theorem dmx_min (l : List Ex) (k : Nat) : dmx (l.map (fun x => min (dpt x) k)) = min (dmx (l.map dpt)) k := by
  induction l with
  | nil => simp [dmx]
  | cons e l ih => simp only [List.map_cons, dmx, ih]; omega
theorem dmx_take (l : List Nat) (i : Nat) : dmx (l.take i) ≤ dmx l :=
  dmx_le.2 fun d hd => dmx_le.1 (Nat.le_refl _) d (List.mem_of_mem_take hd)
theorem dw_zero (k : Nat) (ks : List Ex) : dw k ks 0 = 1 := by simp [dw, dmx]
theorem dw_pos (k : Nat) (ks : List Ex) (i : Nat) : 1 ≤ dw k ks i := by unfold dw; omega
theorem dw_le (k : Nat) (ks : List Ex) (i : Nat) : dw k ks i ≤ k + 1 := by unfold dw; rw [dmx_min]; omega
theorem dw_succ (k : Nat) (ks : List Ex) {i : Nat} (h : i < ks.length) : dw k ks (i + 1) = max (dw k ks i) (1 + min (dpt ks[i]) k) := by
  unfold dw
  rw [List.take_succ_eq_append_getElem h, List.map_append, List.map_cons, List.map_nil, dmx_app]; omega
theorem dw_full (k : Nat) (op n : Int) (ks : List Ex) : dw k ks ks.length = min (dpt (.mk op n ks)) (k + 1) := by
  unfold dw; rw [List.take_length, dmx_min, dpt_mk]; omega
theorem dw_stop (k : Nat) (op n : Int) (ks : List Ex) {i : Nat} (h : k + 1 ≤ dw k ks i) : dw k ks i = min (dpt (.mk op n ks)) (k + 1) := by
  have h1 := dw_le k ks i
  unfold dw at *
  rw [dmx_min] at *
  have h2 : dmx ((ks.take i).map dpt) ≤ dmx (ks.map dpt) := by rw [List.map_take]; exact dmx_take _ _
  rw [dpt_mk]; omega
end Sy
set_option maxRecDepth 100000 in
set_option maxHeartbeats 4000000 in
theorem sv_depthWithin (k : Nat) : ∀ (op n : Int) (ks : List Sy.Ex) (a : Option Addr) (cap : Nat) (S : Nat → Prop) (w : World), 1 ≤ k → k ≤ 17 → KidsB w S a cap ks →
    Calls Tryd.prog 28 #[.agg #[.int .i64 op, .int .i64 n, .slice a ks.length cap], .int .i64 (k : Int)] w fun e w' => e = .returned (.int .i64 ((min (Sy.dpt (.mk op n ks)) k : Nat) : Int)) ∧ Qw w w' := by
  induction k with
  | zero => intro op n ks a cap S w h; omega
  | succ k ih =>
    intro op n ks a cap S w _ hk17 hk
    obtain ⟨l1, l2⟩ := hk.cap
    have k1 : ((k + 1 : Nat) : Int) = (k : Int) + 1 := by omega
    rw [k1]
    have HK := Lib.hid hk
    have IH := Lib.hid ih
    clear hk ih k1
    go_enter Tryd.func28, Tryd.ntmps28
    go_wp2_with fail
    have QS : Hid (Qw w (w.alloc (.cells #[.int .i64 op, .int .i64 n, .slice a ks.length cap] 32))) := Lib.hid (by repeat (first | exact q0.out | exact Qw.refl _ | refine Qw.al ?_ _ | refine Qw.dr ?_ | refine Qw.dn ?_ _ | refine Qw.sc ?_ (by first | (simp; done) | omega | (have := q0.out.size; first | omega | (simp; omega))) _))
    have B0 := Lib.hid (Bx.new w #[.int .i64 op, .int .i64 n, .slice a ks.length cap] 32)
    go_loopg [5, 6] ks.length (fun g dv iv wr => ∃ i : Nat, i ≤ ks.length ∧ g = ks.length - i ∧ dv = .int .i64 (Sy.dw k ks i : Int) ∧ iv = .int .i64 (i : Int) ∧ Hid (Bx wr w.heap.size #[.int .i64 op, .int .i64 n, .slice a ks.length cap] 32) ∧ Qw w wr)
    case atStart => exact ⟨0, Nat.zero_le _, rfl, by rw [Sy.dw_zero]; rfl, rfl, B0, QS.out⟩
    case round =>
      obtain ⟨i, hi, rfl, rfl, rfl, B, hQ⟩ := hrel
      have x2 : wr.cell? ⟨w.heap.size, 2, none⟩ = some (.slice a ks.length cap) := B.out.cell' 2 _ rfl
      have q0 := Lib.hid hQ
      have dp := Sy.dw_pos k ks i
      have dl := Sy.dw_le k ks i
      by_cases hlt : i < ks.length
      · by_cases hd : Sy.dw k ks i < k + 1
        · have hKr := HK.out.kept hQ
          clear hQ QS B0
          cases hKr with
          | nl => simp at hlt
          | mk b off cap ks ad cc hS h1 h2 hc hkk =>
            obtain ⟨z0, z1, z2⟩ := hc i hlt
            have KK := Lib.hid (hkk i hlt)
            have hi2 : (i : Int) < (ks.length : Int) := by omega
            have hd2 : (Sy.dw k ks i : Int) < (k : Int) + 1 := by omega
            have cr := fun w1 (h : KidsB w1 S (ad i) (cc i) ks[i].ks) => IH.out ks[i].op ks[i].n ks[i].ks (ad i) (cc i) S w1 (by omega) (by omega) h
            have eX : Sy.dpt (.mk ks[i].op ks[i].n ks[i].ks) = Sy.dpt ks[i] := by cases ks[i]; rfl
            rw [eX] at cr
            have eS := Sy.dw_succ k ks hlt
            have bl := cell_lt z0
            have hne : b ≠ wr.heap.size := by omega
            have hm : min (Sy.dpt ks[i]) k ≤ 17 := by omega
            generalize min (Sy.dpt ks[i]) k = m at cr eS hm
            have CR := Lib.hid cr
            clear cr eX hc hkk
            go_wp2_with (go_at_call 28; ((with_reducible refine (CR.out _ (KidsB.kept KK.out (by repeat (first | exact q0.out | exact Qw.refl _ | refine Qw.al ?_ _ | refine Qw.dr ?_ | refine Qw.dn ?_ _ | refine Qw.sc ?_ (by first | (simp; done) | omega | (have := q0.out.size; first | omega | (simp; omega))) _)))).mono ?_); rintro e w' ⟨rfl, q⟩; replace B := Lib.hid (B.out.kept q); replace q0 : Hid (Qw w w') := Lib.hid (Qw.trans (by repeat (first | exact q0.out | exact Qw.refl _ | refine Qw.al ?_ _ | refine Qw.dr ?_ | refine Qw.dn ?_ _ | refine Qw.sc ?_ (by first | (simp; done) | omega | (have := q0.out.size; first | omega | (simp; omega))) _)) q); clear q))
            go_roundg (ks.length - (i + 1))
            case measure => omega
            case rel => exact ⟨i + 1, by omega, rfl, by rw [eS]; go_num, by go_num, B, q0.out⟩
        · have hi2 : (i : Int) < (ks.length : Int) := by omega
          have hd2 : ¬ (Sy.dw k ks i : Int) < (k : Int) + 1 := by omega
          have eF := Sy.dw_stop k op n ks (i := i) (by omega)
          clear hQ QS B0
          go_wp2_with fail
          go_ret
          exact ⟨by rw [← eF]; rfl, q0.out⟩
      · obtain rfl : i = ks.length := by omega
        clear hQ QS B0
        have hb : ¬ (ks.length : Int) < (ks.length : Int) := by omega
        have eF := Sy.dw_full k op n ks
        go_wp2_with fail
        go_ret
        exact ⟨by rw [← eF]; rfl, q0.out⟩
theorem sv_depth (op n : Int) (ks : List Sy.Ex) (a : Option Addr) (cap : Nat) (S : Nat → Prop) (w : World) (hk : KidsB w S a cap ks) :
    Calls Tryd.prog 15 #[.agg #[.int .i64 op, .int .i64 n, .slice a ks.length cap]] w fun e w' => e = .returned (.int .i64 ((min (Sy.dpt (.mk op n ks)) 17 : Nat) : Int)) ∧ Qw w w' := by
  have c1 : ∀ w, KidsB w S a cap ks → Calls Tryd.prog 28 #[.agg #[.int .i64 op, .int .i64 n, .slice a ks.length cap], .int .i64 17] w fun e w' => e = .returned (.int .i64 ((min (Sy.dpt (.mk op n ks)) 17 : Nat) : Int)) ∧ Qw w w' := fun w h1 =>
    sv_depthWithin 17 op n ks a cap S w (by decide) (Nat.le_refl _) h1
  have C1 := Lib.hid c1
  have HK := Lib.hid hk
  clear c1 hk
  have q0 : Hid (Qw w w) := Lib.hid (Qw.refl w)
  go_enter Tryd.func15, Tryd.ntmps15
  go_wp2_with (go_at_call 28; ((with_reducible refine (C1.out _ (KidsB.kept HK.out (by repeat (first | exact q0.out | exact Qw.refl _ | refine Qw.al ?_ _ | refine Qw.dr ?_ | refine Qw.dn ?_ _ | refine Qw.sc ?_ (by first | (simp; done) | omega | (have := q0.out.size; first | omega | (simp; omega))) _)))).mono ?_); rintro e w' ⟨rfl, q⟩; replace q0 : Hid (Qw w w') := Lib.hid (Qw.trans (by repeat (first | exact q0.out | exact Qw.refl _ | refine Qw.al ?_ _ | refine Qw.dr ?_ | refine Qw.dn ?_ _ | refine Qw.sc ?_ (by first | (simp; done) | omega | (have := q0.out.size; first | omega | (simp; omega))) _)) q); clear q))
  go_ret
  exact ⟨rfl, q0.out⟩
end Go.Proofs.YthfcimfoinidbaaDoor
set_option linter.unusedVariables false
set_option linter.unusedSimpArgs false
namespace Go.Proofs.YthfcimfoinidbaaDoor
open Go.RowKit
theorem ta_nil (w : World) : (Instr.typeAssert Value.nilIface 20 52 true).run Tryd.prog w = .ok (.tuple #[.agg #[.int .i64 0, .int .i64 0], .bool false]) w := by kernel_rfl
theorem ta_fail (p c : Int) (w : World) : (Instr.typeAssert (.iface 52 (.agg #[.int .i64 p, .int .i64 c])) 20 52 true).run Tryd.prog w = .ok (.tuple #[.agg #[.int .i64 p, .int .i64 c], .bool true]) w := by kernel_rfl
set_option maxRecDepth 100000 in
set_option maxHeartbeats 4000000 in
theorem catch_idle (a0 a1 a2 : Addr) (w : World) :
    CallsD Tryd.prog 17 #[.pointer (some a0), .pointer (some a1), .pointer (some a2)] .returning w fun e u' w' => e = .returned (.tuple #[]) ∧ u' = .returning ∧ Qw w w' := by
  refine callsD_of_wpS Tryd.func17 rfl fun c₀ cs hu => ?_
  apply wpS_seq
  apply wpS_region
  simp [wpOpsS, go_sem, recoverD, hu, Tryd.ntmps17, Exit.thenS, ta_nil]
  refine wpS_of_wp ?_
  change Code.wp _ _ _ { tmps := #[.pointer (some a0), .pointer (some a1), .pointer (some a2), .pointer (some ⟨w.heap.size, 0, none⟩), .bool false, .tuple #[.agg #[.int .i64 0, .int .i64 0], .bool false], Value.nilIface, .tuple #[.agg #[.int .i64 0, .int .i64 0], .bool false], .agg #[.int .i64 0, .int .i64 0], .bool false, undef, undef, undef, undef, undef, undef], defers := [] } _
  go_wp2_with fail
  cases c₀
  simp_all [bodyPostS, results, Tryd.results17]
  exact (Below.refl _ _).alloc (Nat.le_refl _) _
end Go.Proofs.YthfcimfoinidbaaDoor
set_option linter.unusedVariables false
set_option linter.unusedSimpArgs false
namespace Go.Proofs.YthfcimfoinidbaaDoor
open Go.RowKit
set_option maxRecDepth 100000 in
set_option maxHeartbeats 4000000 in
theorem sy_cell {P : Nat} {a : Option Addr} {cap : Nat} {ts : List Lx.Tok} {len f : Nat} (A : SyAll P a cap ts len f) (i : Nat) (w : World) (h : Par w P a cap ts len i) (hf : 16 * (ts.length - i) + 2 ≤ f + 1) :
    Calls Tryd.prog 69 #[.pointer (some ⟨P, 0, none⟩)] w (PR P a cap ts len w (Sy.pC ts (f + 1) i)) := by
  obtain ⟨hP, hO⟩ := h.lt
  have hle := h.le
  have H := Lib.hid h
  clear h
  have R : Hid (Bx (w.alloc (.cells exZ 32)) w.heap.size exZ 32) := Lib.hid (Bx.new w _ _)
  rw [Sy.pC]
  by_cases hk : Sy.kd ts i = 2
  · rw [if_pos hk]
    have hi := Sy.kd_lt hk (by decide)
    have hl := H.out.hl
    have hv : tokV ts len i = .agg #[.int .i64 2, .int .i64 (Sy.tn ts i), .int .i64 (Sy.tp ts len i : Nat), .string (bs (Sy.tx ts i))] := by unfold tokV; rw [hk]
    replace hv := Lib.hid hv
    have e1 : Hid (((i + 1 : Nat) : Int) = (i : Int) + 1) := Lib.hid (by omega)
    generalize Sy.tn ts i = n at *
    clear hk
    have q0 : Hid (Px P w w) := Lib.hid (Px.refl P w)
    go_enter Tryd.func69, Tryd.ntmps69
    go_wp2_with (go_at_call 51; ((with_reducible refine (syNext (H.out.kept (by repeat (first | exact q0.out | exact Qw.refl _ | refine Qw.al ?_ _ | refine Qw.dr ?_ | refine Qw.dn ?_ _ | refine Qw.sc ?_ (by first | (simp; done) | omega | (have := q0.out.size; first | omega | (simp; omega))) _)))).mono ?_); rintro e w' ⟨rfl, q⟩; rw [hv.out]; replace R : Hid (Bx w' w.heap.size exZ 32) := Lib.hid (Bx.kept (by repeat (first | exact R.out | refine Bx.alloc ?_ _ | refine Bx.drew ?_)) q); have rl := R.out.lt; have r0 := R.out.cell' 0 _ rfl; have r1 := R.out.cell' 1 _ rfl; have r2 := R.out.cell' 2 _ rfl; have s0 := R.out.free 0; have s1 := R.out.free 1; have s2 := R.out.free 2; replace H := Lib.hid (Par.kept H.out (Qw.trans (by repeat (first | exact q0.out | exact Qw.refl _ | refine Qw.al ?_ _ | refine Qw.dr ?_ | refine Qw.dn ?_ _ | refine Qw.sc ?_ (by first | (simp; done) | omega | (have := q0.out.size; first | omega | (simp; omega))) _)) q)); have p1 : w'.cell? ⟨P, 1, none⟩ = some (.int .i64 (i : Int)) := H.out.bx.cell' 1 _ rfl; have p2 := H.out.bx.free 1; have pl := H.out.bx.lt; replace q0 : Hid (Px P w w') := Lib.hid (Px.trans (by repeat (first | exact q0.out | exact Px.of q0.out | exact Px.refl _ _ | refine Px.setP ?_ _ _ | refine Px.alloc ?_ _ | refine Px.drewN ?_ _ | refine Px.drew ?_ | refine Px.setNew ?_ (by first | (simp; done) | omega | (have := q0.out.size; first | omega | (simp; omega))) _)) (Px.of q)); clear q))
    have h1 := H.out.set (i + 1) hi
    rw [e1.out] at h1
    exact exRet (x := Sy.num n) Tryd.results69 rfl rfl (exAl _ (exEnd (x := Sy.num n) hP hO rfl rfl rfl (R.out.other (by show w.heap.size ≠ P; omega) _) (KidsB.nl none 0 (by decide)) h1 (q0.out.setP 1 _)))
  · rw [if_neg hk]
    have hv : Hid (tokV ts len i = .agg #[.int .i64 (Sy.kd ts i), .int .i64 (Sy.tn ts i), .int .i64 (Sy.tp ts len i : Nat), .string (bs (Sy.tx ts i))]) := Lib.hid rfl
    have hb : (Sy.kd ts i == 2) = false := by simpa using hk
    clear hk
    by_cases hx : Sy.tx ts i = [35]
    · rw [if_pos hx]
      have hi := Sy.tx_lt hx (by decide)
      have x1 : Hid ((⟨#[35]⟩ : ByteArray) = bs (Sy.tx ts i)) := Lib.hid (by rw [hx]; rfl)
      have x2 : Hid (Sy.tx ts i ≠ []) := Lib.hid (by rw [hx]; decide)
      have c1 : ∀ w, Par w P a cap ts len (i + 1) → Calls Tryd.prog 69 #[.pointer (some ⟨P, 0, none⟩)] w (PR P a cap ts len w (Sy.pC ts f (i + 1))) := fun w h => A.c (i + 1) w h (by omega)
      clear hx
      cases e1 : Sy.pC ts f (i + 1) with
      | bad j =>
        rw [e1] at c1
        have C1 := Lib.hid c1
        clear c1 e1
        have q0 : Hid (Px P w w) := Lib.hid (Px.refl P w)
        go_enter Tryd.func69, Tryd.ntmps69
        go_wp2_with (first | (go_at_call 51; ((with_reducible refine (syNext (H.out.kept (by repeat (first | exact q0.out | exact Qw.refl _ | refine Qw.al ?_ _ | refine Qw.dr ?_ | refine Qw.dn ?_ _ | refine Qw.sc ?_ (by first | (simp; done) | omega | (have := q0.out.size; first | omega | (simp; omega))) _)))).mono ?_); rintro e w' ⟨rfl, q⟩; rw [hv.out]; replace R : Hid (Bx w' w.heap.size exZ 32) := Lib.hid (Bx.kept (by repeat (first | exact R.out | refine Bx.alloc ?_ _ | refine Bx.drew ?_)) q); replace H := Lib.hid (Par.kept H.out (Qw.trans (by repeat (first | exact q0.out | exact Qw.refl _ | refine Qw.al ?_ _ | refine Qw.dr ?_ | refine Qw.dn ?_ _ | refine Qw.sc ?_ (by first | (simp; done) | omega | (have := q0.out.size; first | omega | (simp; omega))) _)) q)); replace q0 : Hid (Px P w w') := Lib.hid (Px.trans (by repeat (first | exact q0.out | exact Px.of q0.out | exact Px.refl _ _ | refine Px.setP ?_ _ _ | refine Px.alloc ?_ _ | refine Px.drewN ?_ _ | refine Px.drew ?_ | refine Px.setNew ?_ (by first | (simp; done) | omega | (have := q0.out.size; first | omega | (simp; omega))) _)) (Px.of q)); clear q)) | (go_at_call 31; ((with_reducible refine (syAcceptY (H.out.kept (by repeat (first | exact q0.out | exact Qw.refl _ | refine Qw.al ?_ _ | refine Qw.dr ?_ | refine Qw.dn ?_ _ | refine Qw.sc ?_ (by first | (simp; done) | omega | (have := q0.out.size; first | omega | (simp; omega))) _))) _ x1.out x2.out).mono ?_); rintro e w' ⟨rfl, hp, q⟩; have pw := (Par.lt hp).1; skip; replace H := Lib.hid hp; clear hp; replace q0 : Hid (Px P w w') := Lib.hid (Px.trans (by repeat (first | exact q0.out | exact Px.of q0.out | exact Px.refl _ _ | refine Px.setP ?_ _ _ | refine Px.alloc ?_ _ | refine Px.drewN ?_ _ | refine Px.drew ?_ | refine Px.setNew ?_ (by first | (simp; done) | omega | (have := q0.out.size; first | omega | (simp; omega))) _)) q); clear q)) | (go_at_call 69; ((with_reducible refine (C1.out _ (H.out.kept (by repeat (first | exact q0.out | exact Qw.refl _ | refine Qw.al ?_ _ | refine Qw.dr ?_ | refine Qw.dn ?_ _ | refine Qw.sc ?_ (by first | (simp; done) | omega | (have := q0.out.size; first | omega | (simp; omega))) _)))).mono ?_); rintro e w' ⟨rfl, q⟩; replace q0 : Hid (Px P w w') := Lib.hid (Px.trans (by repeat (first | exact q0.out | exact Px.of q0.out | exact Px.refl _ _ | refine Px.setP ?_ _ _ | refine Px.alloc ?_ _ | refine Px.drewN ?_ _ | refine Px.drew ?_ | refine Px.setNew ?_ (by first | (simp; done) | omega | (have := q0.out.size; first | omega | (simp; omega))) _)) q); clear q)))
        exact ⟨rfl, rfl, q0.out⟩
      | ok x j =>
        rw [e1] at c1
        have C1 := Lib.hid c1
        clear c1 e1
        have q0 : Hid (Px P w w) := Lib.hid (Px.refl P w)
        go_enter Tryd.func69, Tryd.ntmps69
        go_wp2_with (first | (go_at_call 51; ((with_reducible refine (syNext (H.out.kept (by repeat (first | exact q0.out | exact Qw.refl _ | refine Qw.al ?_ _ | refine Qw.dr ?_ | refine Qw.dn ?_ _ | refine Qw.sc ?_ (by first | (simp; done) | omega | (have := q0.out.size; first | omega | (simp; omega))) _)))).mono ?_); rintro e w' ⟨rfl, q⟩; rw [hv.out]; replace R : Hid (Bx w' w.heap.size exZ 32) := Lib.hid (Bx.kept (by repeat (first | exact R.out | refine Bx.alloc ?_ _ | refine Bx.drew ?_)) q); replace H := Lib.hid (Par.kept H.out (Qw.trans (by repeat (first | exact q0.out | exact Qw.refl _ | refine Qw.al ?_ _ | refine Qw.dr ?_ | refine Qw.dn ?_ _ | refine Qw.sc ?_ (by first | (simp; done) | omega | (have := q0.out.size; first | omega | (simp; omega))) _)) q)); replace q0 : Hid (Px P w w') := Lib.hid (Px.trans (by repeat (first | exact q0.out | exact Px.of q0.out | exact Px.refl _ _ | refine Px.setP ?_ _ _ | refine Px.alloc ?_ _ | refine Px.drewN ?_ _ | refine Px.drew ?_ | refine Px.setNew ?_ (by first | (simp; done) | omega | (have := q0.out.size; first | omega | (simp; omega))) _)) (Px.of q)); clear q)) | (go_at_call 31; ((with_reducible refine (syAcceptY (H.out.kept (by repeat (first | exact q0.out | exact Qw.refl _ | refine Qw.al ?_ _ | refine Qw.dr ?_ | refine Qw.dn ?_ _ | refine Qw.sc ?_ (by first | (simp; done) | omega | (have := q0.out.size; first | omega | (simp; omega))) _))) _ x1.out x2.out).mono ?_); rintro e w' ⟨rfl, hp, q⟩; have pw := (Par.lt hp).1; replace R : Hid (Bx w' w.heap.size exZ 32) := Lib.hid (Bx.px (by repeat (first | exact R.out | refine Bx.alloc ?_ _ | refine Bx.drew ?_)) q (by omega)); replace H := Lib.hid hp; clear hp; replace q0 : Hid (Px P w w') := Lib.hid (Px.trans (by repeat (first | exact q0.out | exact Px.of q0.out | exact Px.refl _ _ | refine Px.setP ?_ _ _ | refine Px.alloc ?_ _ | refine Px.drewN ?_ _ | refine Px.drew ?_ | refine Px.setNew ?_ (by first | (simp; done) | omega | (have := q0.out.size; first | omega | (simp; omega))) _)) q); clear q)) | (go_at_call 69; ((with_reducible refine (C1.out _ (H.out.kept (by repeat (first | exact q0.out | exact Qw.refl _ | refine Qw.al ?_ _ | refine Qw.dr ?_ | refine Qw.dn ?_ _ | refine Qw.sc ?_ (by first | (simp; done) | omega | (have := q0.out.size; first | omega | (simp; omega))) _)))).mono ?_); rintro e w' ⟨ka, kc, rfl, k, hp, q⟩; have pw := (Par.lt hp).1; have K : Hid (KidsB w' (fun b => w.heap.size < b) ka kc (Sy.Ex.ks x)) := Lib.hid (KidsB.mono k (fun b hb => Nat.lt_of_lt_of_le (Bx.lt (by repeat (first | exact R.out | refine Bx.alloc ?_ _ | refine Bx.drew ?_))) hb)); clear k; replace R : Hid (Bx w' w.heap.size exZ 32) := Lib.hid (Bx.px (by repeat (first | exact R.out | refine Bx.alloc ?_ _ | refine Bx.drew ?_)) q (by omega)); replace H := Lib.hid hp; clear hp; replace q0 : Hid (Px P w w') := Lib.hid (Px.trans (by repeat (first | exact q0.out | exact Px.of q0.out | exact Px.refl _ _ | refine Px.setP ?_ _ _ | refine Px.alloc ?_ _ | refine Px.drewN ?_ _ | refine Px.drew ?_ | refine Px.setNew ?_ (by first | (simp; done) | omega | (have := q0.out.size; first | omega | (simp; omega))) _)) q); clear q)) | (go_at_call 85; ((with_reducible refine (syNode _ _ _ _ _).mono ?_); rintro e w' ⟨rfl, q⟩; have G := Bx.kept (Bx.new _ _ _) q; have K2 : Hid (KidsB w' (fun b => w.heap.size < b) _ 1 [x]) := Lib.hid (KidsB.one G (Bx.lt (by repeat (first | exact R.out | refine Bx.alloc ?_ _ | refine Bx.drew ?_))) (KidsB.kept (by repeat (first | exact K.out | refine KidsB.alloc ?_ _ | refine KidsB.drew ?_)) q)); clear G; replace R : Hid (Bx w' w.heap.size exZ 32) := Lib.hid (Bx.kept (by repeat (first | exact R.out | refine Bx.alloc ?_ _ | refine Bx.drew ?_)) q); have rl := R.out.lt; have r0 := R.out.cell' 0 _ rfl; have r1 := R.out.cell' 1 _ rfl; have r2 := R.out.cell' 2 _ rfl; have s0 := R.out.free 0; have s1 := R.out.free 1; have s2 := R.out.free 2; replace H := Lib.hid (Par.kept H.out (Qw.trans (by repeat (first | exact q0.out | exact Qw.refl _ | refine Qw.al ?_ _ | refine Qw.dr ?_ | refine Qw.dn ?_ _ | refine Qw.sc ?_ (by first | (simp; done) | omega | (have := q0.out.size; first | omega | (simp; omega))) _)) q)); replace q0 : Hid (Px P w w') := Lib.hid (Px.trans (by repeat (first | exact q0.out | exact Px.of q0.out | exact Px.refl _ _ | refine Px.setP ?_ _ _ | refine Px.alloc ?_ _ | refine Px.drewN ?_ _ | refine Px.drew ?_ | refine Px.setNew ?_ (by first | (simp; done) | omega | (have := q0.out.size; first | omega | (simp; omega))) _)) (Px.of q)); clear q)))
        exact exRet (x := Sy.un 1 x) Tryd.results69 rfl rfl (exEnd (x := Sy.un 1 x) hP hO rfl rfl rfl R.out K2.out H.out q0.out)
    · rw [if_neg hx]
      have x1 : Hid ((⟨#[35]⟩ : ByteArray) ≠ bs (Sy.tx ts i)) := Lib.hid (fun h => hx (bs_inj.1 (show bs [35] = _ from h)).symm)
      have c1 : ∀ w, Par w P a cap ts len i → Calls Tryd.prog 71 #[.pointer (some ⟨P, 0, none⟩)] w (PR P a cap ts len w (Sy.pB ts f i)) := fun w h => A.b i w h (by omega)
      clear hx
      cases e1 : Sy.pB ts f i with
      | bad j =>
        rw [e1] at c1
        have C1 := Lib.hid c1
        clear c1 e1
        have q0 : Hid (Px P w w) := Lib.hid (Px.refl P w)
        go_enter Tryd.func69, Tryd.ntmps69
        go_wp2_with (first | (go_at_call 51; ((with_reducible refine (syNext (H.out.kept (by repeat (first | exact q0.out | exact Qw.refl _ | refine Qw.al ?_ _ | refine Qw.dr ?_ | refine Qw.dn ?_ _ | refine Qw.sc ?_ (by first | (simp; done) | omega | (have := q0.out.size; first | omega | (simp; omega))) _)))).mono ?_); rintro e w' ⟨rfl, q⟩; rw [hv.out]; replace R : Hid (Bx w' w.heap.size exZ 32) := Lib.hid (Bx.kept (by repeat (first | exact R.out | refine Bx.alloc ?_ _ | refine Bx.drew ?_)) q); replace H := Lib.hid (Par.kept H.out (Qw.trans (by repeat (first | exact q0.out | exact Qw.refl _ | refine Qw.al ?_ _ | refine Qw.dr ?_ | refine Qw.dn ?_ _ | refine Qw.sc ?_ (by first | (simp; done) | omega | (have := q0.out.size; first | omega | (simp; omega))) _)) q)); replace q0 : Hid (Px P w w') := Lib.hid (Px.trans (by repeat (first | exact q0.out | exact Px.of q0.out | exact Px.refl _ _ | refine Px.setP ?_ _ _ | refine Px.alloc ?_ _ | refine Px.drewN ?_ _ | refine Px.drew ?_ | refine Px.setNew ?_ (by first | (simp; done) | omega | (have := q0.out.size; first | omega | (simp; omega))) _)) (Px.of q)); clear q)) | (go_at_call 31; ((with_reducible refine (syAcceptN (H.out.kept (by repeat (first | exact q0.out | exact Qw.refl _ | refine Qw.al ?_ _ | refine Qw.dr ?_ | refine Qw.dn ?_ _ | refine Qw.sc ?_ (by first | (simp; done) | omega | (have := q0.out.size; first | omega | (simp; omega))) _))) _ x1.out).mono ?_); rintro e w' ⟨rfl, q⟩; skip; replace H := Lib.hid (Par.kept H.out (Qw.trans (by repeat (first | exact q0.out | exact Qw.refl _ | refine Qw.al ?_ _ | refine Qw.dr ?_ | refine Qw.dn ?_ _ | refine Qw.sc ?_ (by first | (simp; done) | omega | (have := q0.out.size; first | omega | (simp; omega))) _)) q)); replace q0 : Hid (Px P w w') := Lib.hid (Px.trans (by repeat (first | exact q0.out | exact Px.of q0.out | exact Px.refl _ _ | refine Px.setP ?_ _ _ | refine Px.alloc ?_ _ | refine Px.drewN ?_ _ | refine Px.drew ?_ | refine Px.setNew ?_ (by first | (simp; done) | omega | (have := q0.out.size; first | omega | (simp; omega))) _)) (Px.of q)); clear q)) | (go_at_call 71; ((with_reducible refine (C1.out _ (H.out.kept (by repeat (first | exact q0.out | exact Qw.refl _ | refine Qw.al ?_ _ | refine Qw.dr ?_ | refine Qw.dn ?_ _ | refine Qw.sc ?_ (by first | (simp; done) | omega | (have := q0.out.size; first | omega | (simp; omega))) _)))).mono ?_); rintro e w' ⟨rfl, q⟩; replace q0 : Hid (Px P w w') := Lib.hid (Px.trans (by repeat (first | exact q0.out | exact Px.of q0.out | exact Px.refl _ _ | refine Px.setP ?_ _ _ | refine Px.alloc ?_ _ | refine Px.drewN ?_ _ | refine Px.drew ?_ | refine Px.setNew ?_ (by first | (simp; done) | omega | (have := q0.out.size; first | omega | (simp; omega))) _)) q); clear q)))
        exact ⟨rfl, rfl, q0.out⟩
      | ok x j =>
        rw [e1] at c1
        have C1 := Lib.hid c1
        clear c1 e1
        have q0 : Hid (Px P w w) := Lib.hid (Px.refl P w)
        go_enter Tryd.func69, Tryd.ntmps69
        go_wp2_with (first | (go_at_call 51; ((with_reducible refine (syNext (H.out.kept (by repeat (first | exact q0.out | exact Qw.refl _ | refine Qw.al ?_ _ | refine Qw.dr ?_ | refine Qw.dn ?_ _ | refine Qw.sc ?_ (by first | (simp; done) | omega | (have := q0.out.size; first | omega | (simp; omega))) _)))).mono ?_); rintro e w' ⟨rfl, q⟩; rw [hv.out]; replace R : Hid (Bx w' w.heap.size exZ 32) := Lib.hid (Bx.kept (by repeat (first | exact R.out | refine Bx.alloc ?_ _ | refine Bx.drew ?_)) q); replace H := Lib.hid (Par.kept H.out (Qw.trans (by repeat (first | exact q0.out | exact Qw.refl _ | refine Qw.al ?_ _ | refine Qw.dr ?_ | refine Qw.dn ?_ _ | refine Qw.sc ?_ (by first | (simp; done) | omega | (have := q0.out.size; first | omega | (simp; omega))) _)) q)); replace q0 : Hid (Px P w w') := Lib.hid (Px.trans (by repeat (first | exact q0.out | exact Px.of q0.out | exact Px.refl _ _ | refine Px.setP ?_ _ _ | refine Px.alloc ?_ _ | refine Px.drewN ?_ _ | refine Px.drew ?_ | refine Px.setNew ?_ (by first | (simp; done) | omega | (have := q0.out.size; first | omega | (simp; omega))) _)) (Px.of q)); clear q)) | (go_at_call 31; ((with_reducible refine (syAcceptN (H.out.kept (by repeat (first | exact q0.out | exact Qw.refl _ | refine Qw.al ?_ _ | refine Qw.dr ?_ | refine Qw.dn ?_ _ | refine Qw.sc ?_ (by first | (simp; done) | omega | (have := q0.out.size; first | omega | (simp; omega))) _))) _ x1.out).mono ?_); rintro e w' ⟨rfl, q⟩; replace R : Hid (Bx w' w.heap.size exZ 32) := Lib.hid (Bx.kept (by repeat (first | exact R.out | refine Bx.alloc ?_ _ | refine Bx.drew ?_)) q); replace H := Lib.hid (Par.kept H.out (Qw.trans (by repeat (first | exact q0.out | exact Qw.refl _ | refine Qw.al ?_ _ | refine Qw.dr ?_ | refine Qw.dn ?_ _ | refine Qw.sc ?_ (by first | (simp; done) | omega | (have := q0.out.size; first | omega | (simp; omega))) _)) q)); replace q0 : Hid (Px P w w') := Lib.hid (Px.trans (by repeat (first | exact q0.out | exact Px.of q0.out | exact Px.refl _ _ | refine Px.setP ?_ _ _ | refine Px.alloc ?_ _ | refine Px.drewN ?_ _ | refine Px.drew ?_ | refine Px.setNew ?_ (by first | (simp; done) | omega | (have := q0.out.size; first | omega | (simp; omega))) _)) (Px.of q)); clear q)) | (go_at_call 71; ((with_reducible refine (C1.out _ (H.out.kept (by repeat (first | exact q0.out | exact Qw.refl _ | refine Qw.al ?_ _ | refine Qw.dr ?_ | refine Qw.dn ?_ _ | refine Qw.sc ?_ (by first | (simp; done) | omega | (have := q0.out.size; first | omega | (simp; omega))) _)))).mono ?_); rintro e w' ⟨ka, kc, rfl, k, hp, q⟩; have pw := (Par.lt hp).1; have K : Hid (KidsB w' (fun b => w.heap.size < b) ka kc (Sy.Ex.ks x)) := Lib.hid (KidsB.mono k (fun b hb => Nat.lt_of_lt_of_le (Bx.lt (by repeat (first | exact R.out | refine Bx.alloc ?_ _ | refine Bx.drew ?_))) hb)); clear k; replace R : Hid (Bx w' w.heap.size exZ 32) := Lib.hid (Bx.px (by repeat (first | exact R.out | refine Bx.alloc ?_ _ | refine Bx.drew ?_)) q (by omega)); have rl := R.out.lt; have r0 := R.out.cell' 0 _ rfl; have r1 := R.out.cell' 1 _ rfl; have r2 := R.out.cell' 2 _ rfl; have s0 := R.out.free 0; have s1 := R.out.free 1; have s2 := R.out.free 2; replace H := Lib.hid hp; clear hp; replace q0 : Hid (Px P w w') := Lib.hid (Px.trans (by repeat (first | exact q0.out | exact Px.of q0.out | exact Px.refl _ _ | refine Px.setP ?_ _ _ | refine Px.alloc ?_ _ | refine Px.drewN ?_ _ | refine Px.drew ?_ | refine Px.setNew ?_ (by first | (simp; done) | omega | (have := q0.out.size; first | omega | (simp; omega))) _)) q); clear q)))
        exact exRet (x := x) Tryd.results69 rfl rfl (exEnd (x := x) hP hO rfl rfl rfl R.out K.out H.out q0.out)
end Go.Proofs.YthfcimfoinidbaaDoor
set_option linter.unusedVariables false
set_option linter.unusedSimpArgs false
namespace Go.Proofs.YthfcimfoinidbaaDoor
open Go.RowKit
set_option maxRecDepth 100000 in
set_option maxHeartbeats 4000000 in
theorem sy_unary {P : Nat} {a : Option Addr} {cap : Nat} {ts : List Lx.Tok} {len f : Nat} (A : SyAll P a cap ts len f) (i : Nat) (w : World) (h : Par w P a cap ts len i) (hf : Sy.need ts.length i 5 ≤ f + 1) :
    Calls Tryd.prog 101 #[.pointer (some ⟨P, 0, none⟩)] w (PR P a cap ts len w (Sy.pE ts (f + 1) 5 i)) := by
  obtain ⟨hP, hO⟩ := h.lt
  have hle := h.le
  have H := Lib.hid h
  clear h
  have R : Hid (Bx (w.alloc (.cells exZ 32)) w.heap.size exZ 32) := Lib.hid (Bx.new w _ _)
  unfold Sy.need at hf
  rw [Sy.pE, if_pos rfl]
  by_cases hx : Sy.tx ts i = [45]
  · rw [if_pos hx]
    have hi := Sy.tx_lt hx (by decide)
    have x1 : Hid ((⟨#[45]⟩ : ByteArray) = bs (Sy.tx ts i)) := Lib.hid (by rw [hx]; rfl)
    have x2 : Hid (Sy.tx ts i ≠ []) := Lib.hid (by rw [hx]; decide)
    have c1 : ∀ w, Par w P a cap ts len (i + 1) → Calls Tryd.prog 101 #[.pointer (some ⟨P, 0, none⟩)] w (PR P a cap ts len w (Sy.pE ts f 5 (i + 1))) := fun w h => A.e 5 (i + 1) w (by omega) h (by unfold Sy.need; omega)
    clear hx
    cases e1 : Sy.pE ts f 5 (i + 1) with
    | bad j =>
      rw [e1] at c1
      have C1 := Lib.hid c1
      clear c1 e1
      have q0 : Hid (Px P w w) := Lib.hid (Px.refl P w)
      go_enter Tryd.func101, Tryd.ntmps101
      go_wp2_with (first | (go_at_call 31; ((with_reducible refine (syAcceptY (H.out.kept (by repeat (first | exact q0.out | exact Qw.refl _ | refine Qw.al ?_ _ | refine Qw.dr ?_ | refine Qw.dn ?_ _ | refine Qw.sc ?_ (by first | (simp; done) | omega | (have := q0.out.size; first | omega | (simp; omega))) _))) _ x1.out x2.out).mono ?_); rintro e w' ⟨rfl, hp, q⟩; have pw := (Par.lt hp).1; skip; replace H := Lib.hid hp; clear hp; replace q0 : Hid (Px P w w') := Lib.hid (Px.trans (by repeat (first | exact q0.out | exact Px.of q0.out | exact Px.refl _ _ | refine Px.setP ?_ _ _ | refine Px.alloc ?_ _ | refine Px.drewN ?_ _ | refine Px.drew ?_ | refine Px.setNew ?_ (by first | (simp; done) | omega | (have := q0.out.size; first | omega | (simp; omega))) _)) q); clear q)) | (go_at_call 101; ((with_reducible refine (C1.out _ (H.out.kept (by repeat (first | exact q0.out | exact Qw.refl _ | refine Qw.al ?_ _ | refine Qw.dr ?_ | refine Qw.dn ?_ _ | refine Qw.sc ?_ (by first | (simp; done) | omega | (have := q0.out.size; first | omega | (simp; omega))) _)))).mono ?_); rintro e w' ⟨rfl, q⟩; replace q0 : Hid (Px P w w') := Lib.hid (Px.trans (by repeat (first | exact q0.out | exact Px.of q0.out | exact Px.refl _ _ | refine Px.setP ?_ _ _ | refine Px.alloc ?_ _ | refine Px.drewN ?_ _ | refine Px.drew ?_ | refine Px.setNew ?_ (by first | (simp; done) | omega | (have := q0.out.size; first | omega | (simp; omega))) _)) q); clear q)))
      exact ⟨rfl, rfl, q0.out⟩
    | ok x j =>
      rw [e1] at c1
      have C1 := Lib.hid c1
      clear c1 e1
      have q0 : Hid (Px P w w) := Lib.hid (Px.refl P w)
      go_enter Tryd.func101, Tryd.ntmps101
      go_wp2_with (first | (go_at_call 31; ((with_reducible refine (syAcceptY (H.out.kept (by repeat (first | exact q0.out | exact Qw.refl _ | refine Qw.al ?_ _ | refine Qw.dr ?_ | refine Qw.dn ?_ _ | refine Qw.sc ?_ (by first | (simp; done) | omega | (have := q0.out.size; first | omega | (simp; omega))) _))) _ x1.out x2.out).mono ?_); rintro e w' ⟨rfl, hp, q⟩; have pw := (Par.lt hp).1; replace R : Hid (Bx w' w.heap.size exZ 32) := Lib.hid (Bx.px (by repeat (first | exact R.out | refine Bx.alloc ?_ _ | refine Bx.drew ?_)) q (by omega)); replace H := Lib.hid hp; clear hp; replace q0 : Hid (Px P w w') := Lib.hid (Px.trans (by repeat (first | exact q0.out | exact Px.of q0.out | exact Px.refl _ _ | refine Px.setP ?_ _ _ | refine Px.alloc ?_ _ | refine Px.drewN ?_ _ | refine Px.drew ?_ | refine Px.setNew ?_ (by first | (simp; done) | omega | (have := q0.out.size; first | omega | (simp; omega))) _)) q); clear q)) | (go_at_call 101; ((with_reducible refine (C1.out _ (H.out.kept (by repeat (first | exact q0.out | exact Qw.refl _ | refine Qw.al ?_ _ | refine Qw.dr ?_ | refine Qw.dn ?_ _ | refine Qw.sc ?_ (by first | (simp; done) | omega | (have := q0.out.size; first | omega | (simp; omega))) _)))).mono ?_); rintro e w' ⟨ka, kc, rfl, k, hp, q⟩; have pw := (Par.lt hp).1; have K : Hid (KidsB w' (fun b => w.heap.size < b) ka kc (Sy.Ex.ks x)) := Lib.hid (KidsB.mono k (fun b hb => Nat.lt_of_lt_of_le (Bx.lt (by repeat (first | exact R.out | refine Bx.alloc ?_ _ | refine Bx.drew ?_))) hb)); clear k; replace R : Hid (Bx w' w.heap.size exZ 32) := Lib.hid (Bx.px (by repeat (first | exact R.out | refine Bx.alloc ?_ _ | refine Bx.drew ?_)) q (by omega)); replace H := Lib.hid hp; clear hp; replace q0 : Hid (Px P w w') := Lib.hid (Px.trans (by repeat (first | exact q0.out | exact Px.of q0.out | exact Px.refl _ _ | refine Px.setP ?_ _ _ | refine Px.alloc ?_ _ | refine Px.drewN ?_ _ | refine Px.drew ?_ | refine Px.setNew ?_ (by first | (simp; done) | omega | (have := q0.out.size; first | omega | (simp; omega))) _)) q); clear q)) | (go_at_call 85; ((with_reducible refine (syNode _ _ _ _ _).mono ?_); rintro e w' ⟨rfl, q⟩; have G := Bx.kept (Bx.new _ _ _) q; have K2 : Hid (KidsB w' (fun b => w.heap.size < b) _ 1 [x]) := Lib.hid (KidsB.one G (Bx.lt (by repeat (first | exact R.out | refine Bx.alloc ?_ _ | refine Bx.drew ?_))) (KidsB.kept (by repeat (first | exact K.out | refine KidsB.alloc ?_ _ | refine KidsB.drew ?_)) q)); clear G; replace R : Hid (Bx w' w.heap.size exZ 32) := Lib.hid (Bx.kept (by repeat (first | exact R.out | refine Bx.alloc ?_ _ | refine Bx.drew ?_)) q); have rl := R.out.lt; have r0 := R.out.cell' 0 _ rfl; have r1 := R.out.cell' 1 _ rfl; have r2 := R.out.cell' 2 _ rfl; have s0 := R.out.free 0; have s1 := R.out.free 1; have s2 := R.out.free 2; replace H := Lib.hid (Par.kept H.out (Qw.trans (by repeat (first | exact q0.out | exact Qw.refl _ | refine Qw.al ?_ _ | refine Qw.dr ?_ | refine Qw.dn ?_ _ | refine Qw.sc ?_ (by first | (simp; done) | omega | (have := q0.out.size; first | omega | (simp; omega))) _)) q)); replace q0 : Hid (Px P w w') := Lib.hid (Px.trans (by repeat (first | exact q0.out | exact Px.of q0.out | exact Px.refl _ _ | refine Px.setP ?_ _ _ | refine Px.alloc ?_ _ | refine Px.drewN ?_ _ | refine Px.drew ?_ | refine Px.setNew ?_ (by first | (simp; done) | omega | (have := q0.out.size; first | omega | (simp; omega))) _)) (Px.of q)); clear q)))
      exact exRet (x := Sy.un 2 x) Tryd.results101 rfl rfl (exEnd (x := Sy.un 2 x) hP hO rfl rfl rfl R.out K2.out H.out q0.out)
  · rw [if_neg hx]
    have x1 : Hid ((⟨#[45]⟩ : ByteArray) ≠ bs (Sy.tx ts i)) := Lib.hid (fun h => hx (bs_inj.1 (show bs [45] = _ from h)).symm)
    clear hx
    by_cases hx : Sy.tx ts i = [43]
    · rw [if_pos hx]
      have hi := Sy.tx_lt hx (by decide)
      have y1 : Hid ((⟨#[43]⟩ : ByteArray) = bs (Sy.tx ts i)) := Lib.hid (by rw [hx]; rfl)
      have y2 : Hid (Sy.tx ts i ≠ []) := Lib.hid (by rw [hx]; decide)
      have c1 : ∀ w, Par w P a cap ts len (i + 1) → Calls Tryd.prog 101 #[.pointer (some ⟨P, 0, none⟩)] w (PR P a cap ts len w (Sy.pE ts f 5 (i + 1))) := fun w h => A.e 5 (i + 1) w (by omega) h (by unfold Sy.need; omega)
      clear hx
      cases e1 : Sy.pE ts f 5 (i + 1) with
      | bad j =>
        rw [e1] at c1
        have C1 := Lib.hid c1
        clear c1 e1
        have q0 : Hid (Px P w w) := Lib.hid (Px.refl P w)
        go_enter Tryd.func101, Tryd.ntmps101
        go_wp2_with (first | (go_at_call 31; ((with_reducible refine (syAcceptN (H.out.kept (by repeat (first | exact q0.out | exact Qw.refl _ | refine Qw.al ?_ _ | refine Qw.dr ?_ | refine Qw.dn ?_ _ | refine Qw.sc ?_ (by first | (simp; done) | omega | (have := q0.out.size; first | omega | (simp; omega))) _))) _ x1.out).mono ?_); rintro e w' ⟨rfl, q⟩; skip; replace H := Lib.hid (Par.kept H.out (Qw.trans (by repeat (first | exact q0.out | exact Qw.refl _ | refine Qw.al ?_ _ | refine Qw.dr ?_ | refine Qw.dn ?_ _ | refine Qw.sc ?_ (by first | (simp; done) | omega | (have := q0.out.size; first | omega | (simp; omega))) _)) q)); replace q0 : Hid (Px P w w') := Lib.hid (Px.trans (by repeat (first | exact q0.out | exact Px.of q0.out | exact Px.refl _ _ | refine Px.setP ?_ _ _ | refine Px.alloc ?_ _ | refine Px.drewN ?_ _ | refine Px.drew ?_ | refine Px.setNew ?_ (by first | (simp; done) | omega | (have := q0.out.size; first | omega | (simp; omega))) _)) (Px.of q)); clear q)) | (go_at_call 31; ((with_reducible refine (syAcceptY (H.out.kept (by repeat (first | exact q0.out | exact Qw.refl _ | refine Qw.al ?_ _ | refine Qw.dr ?_ | refine Qw.dn ?_ _ | refine Qw.sc ?_ (by first | (simp; done) | omega | (have := q0.out.size; first | omega | (simp; omega))) _))) _ y1.out y2.out).mono ?_); rintro e w' ⟨rfl, hp, q⟩; have pw := (Par.lt hp).1; skip; replace H := Lib.hid hp; clear hp; replace q0 : Hid (Px P w w') := Lib.hid (Px.trans (by repeat (first | exact q0.out | exact Px.of q0.out | exact Px.refl _ _ | refine Px.setP ?_ _ _ | refine Px.alloc ?_ _ | refine Px.drewN ?_ _ | refine Px.drew ?_ | refine Px.setNew ?_ (by first | (simp; done) | omega | (have := q0.out.size; first | omega | (simp; omega))) _)) q); clear q)) | (go_at_call 101; ((with_reducible refine (C1.out _ (H.out.kept (by repeat (first | exact q0.out | exact Qw.refl _ | refine Qw.al ?_ _ | refine Qw.dr ?_ | refine Qw.dn ?_ _ | refine Qw.sc ?_ (by first | (simp; done) | omega | (have := q0.out.size; first | omega | (simp; omega))) _)))).mono ?_); rintro e w' ⟨rfl, q⟩; replace q0 : Hid (Px P w w') := Lib.hid (Px.trans (by repeat (first | exact q0.out | exact Px.of q0.out | exact Px.refl _ _ | refine Px.setP ?_ _ _ | refine Px.alloc ?_ _ | refine Px.drewN ?_ _ | refine Px.drew ?_ | refine Px.setNew ?_ (by first | (simp; done) | omega | (have := q0.out.size; first | omega | (simp; omega))) _)) q); clear q)))
        exact ⟨rfl, rfl, q0.out⟩
      | ok x j =>
        rw [e1] at c1
        have C1 := Lib.hid c1
        clear c1 e1
        have q0 : Hid (Px P w w) := Lib.hid (Px.refl P w)
        go_enter Tryd.func101, Tryd.ntmps101
        go_wp2_with (first | (go_at_call 31; ((with_reducible refine (syAcceptN (H.out.kept (by repeat (first | exact q0.out | exact Qw.refl _ | refine Qw.al ?_ _ | refine Qw.dr ?_ | refine Qw.dn ?_ _ | refine Qw.sc ?_ (by first | (simp; done) | omega | (have := q0.out.size; first | omega | (simp; omega))) _))) _ x1.out).mono ?_); rintro e w' ⟨rfl, q⟩; replace R : Hid (Bx w' w.heap.size exZ 32) := Lib.hid (Bx.kept (by repeat (first | exact R.out | refine Bx.alloc ?_ _ | refine Bx.drew ?_)) q); replace H := Lib.hid (Par.kept H.out (Qw.trans (by repeat (first | exact q0.out | exact Qw.refl _ | refine Qw.al ?_ _ | refine Qw.dr ?_ | refine Qw.dn ?_ _ | refine Qw.sc ?_ (by first | (simp; done) | omega | (have := q0.out.size; first | omega | (simp; omega))) _)) q)); replace q0 : Hid (Px P w w') := Lib.hid (Px.trans (by repeat (first | exact q0.out | exact Px.of q0.out | exact Px.refl _ _ | refine Px.setP ?_ _ _ | refine Px.alloc ?_ _ | refine Px.drewN ?_ _ | refine Px.drew ?_ | refine Px.setNew ?_ (by first | (simp; done) | omega | (have := q0.out.size; first | omega | (simp; omega))) _)) (Px.of q)); clear q)) | (go_at_call 31; ((with_reducible refine (syAcceptY (H.out.kept (by repeat (first | exact q0.out | exact Qw.refl _ | refine Qw.al ?_ _ | refine Qw.dr ?_ | refine Qw.dn ?_ _ | refine Qw.sc ?_ (by first | (simp; done) | omega | (have := q0.out.size; first | omega | (simp; omega))) _))) _ y1.out y2.out).mono ?_); rintro e w' ⟨rfl, hp, q⟩; have pw := (Par.lt hp).1; replace R : Hid (Bx w' w.heap.size exZ 32) := Lib.hid (Bx.px (by repeat (first | exact R.out | refine Bx.alloc ?_ _ | refine Bx.drew ?_)) q (by omega)); replace H := Lib.hid hp; clear hp; replace q0 : Hid (Px P w w') := Lib.hid (Px.trans (by repeat (first | exact q0.out | exact Px.of q0.out | exact Px.refl _ _ | refine Px.setP ?_ _ _ | refine Px.alloc ?_ _ | refine Px.drewN ?_ _ | refine Px.drew ?_ | refine Px.setNew ?_ (by first | (simp; done) | omega | (have := q0.out.size; first | omega | (simp; omega))) _)) q); clear q)) | (go_at_call 101; ((with_reducible refine (C1.out _ (H.out.kept (by repeat (first | exact q0.out | exact Qw.refl _ | refine Qw.al ?_ _ | refine Qw.dr ?_ | refine Qw.dn ?_ _ | refine Qw.sc ?_ (by first | (simp; done) | omega | (have := q0.out.size; first | omega | (simp; omega))) _)))).mono ?_); rintro e w' ⟨ka, kc, rfl, k, hp, q⟩; have pw := (Par.lt hp).1; have K : Hid (KidsB w' (fun b => w.heap.size < b) ka kc (Sy.Ex.ks x)) := Lib.hid (KidsB.mono k (fun b hb => Nat.lt_of_lt_of_le (Bx.lt (by repeat (first | exact R.out | refine Bx.alloc ?_ _ | refine Bx.drew ?_))) hb)); clear k; replace R : Hid (Bx w' w.heap.size exZ 32) := Lib.hid (Bx.px (by repeat (first | exact R.out | refine Bx.alloc ?_ _ | refine Bx.drew ?_)) q (by omega)); have rl := R.out.lt; have r0 := R.out.cell' 0 _ rfl; have r1 := R.out.cell' 1 _ rfl; have r2 := R.out.cell' 2 _ rfl; have s0 := R.out.free 0; have s1 := R.out.free 1; have s2 := R.out.free 2; replace H := Lib.hid hp; clear hp; replace q0 : Hid (Px P w w') := Lib.hid (Px.trans (by repeat (first | exact q0.out | exact Px.of q0.out | exact Px.refl _ _ | refine Px.setP ?_ _ _ | refine Px.alloc ?_ _ | refine Px.drewN ?_ _ | refine Px.drew ?_ | refine Px.setNew ?_ (by first | (simp; done) | omega | (have := q0.out.size; first | omega | (simp; omega))) _)) q); clear q)))
        exact exRet (x := x) Tryd.results101 rfl rfl (exEnd (x := x) hP hO rfl rfl rfl R.out K.out H.out q0.out)
    · rw [if_neg hx]
      have y1 : Hid ((⟨#[43]⟩ : ByteArray) ≠ bs (Sy.tx ts i)) := Lib.hid (fun h => hx (bs_inj.1 (show bs [43] = _ from h)).symm)
      have c1 : ∀ w, Par w P a cap ts len i → Calls Tryd.prog 102 #[.pointer (some ⟨P, 0, none⟩)] w (PR P a cap ts len w (Sy.pP ts f i)) := fun w h => A.p i w h (by omega)
      clear hx
      cases e1 : Sy.pP ts f i with
      | bad j =>
        rw [e1] at c1
        have C1 := Lib.hid c1
        clear c1 e1
        have q0 : Hid (Px P w w) := Lib.hid (Px.refl P w)
        go_enter Tryd.func101, Tryd.ntmps101
        go_wp2_with (first | (go_at_call 31; ((with_reducible refine (syAcceptN (H.out.kept (by repeat (first | exact q0.out | exact Qw.refl _ | refine Qw.al ?_ _ | refine Qw.dr ?_ | refine Qw.dn ?_ _ | refine Qw.sc ?_ (by first | (simp; done) | omega | (have := q0.out.size; first | omega | (simp; omega))) _))) _ x1.out).mono ?_); rintro e w' ⟨rfl, q⟩; skip; replace H := Lib.hid (Par.kept H.out (Qw.trans (by repeat (first | exact q0.out | exact Qw.refl _ | refine Qw.al ?_ _ | refine Qw.dr ?_ | refine Qw.dn ?_ _ | refine Qw.sc ?_ (by first | (simp; done) | omega | (have := q0.out.size; first | omega | (simp; omega))) _)) q)); replace q0 : Hid (Px P w w') := Lib.hid (Px.trans (by repeat (first | exact q0.out | exact Px.of q0.out | exact Px.refl _ _ | refine Px.setP ?_ _ _ | refine Px.alloc ?_ _ | refine Px.drewN ?_ _ | refine Px.drew ?_ | refine Px.setNew ?_ (by first | (simp; done) | omega | (have := q0.out.size; first | omega | (simp; omega))) _)) (Px.of q)); clear q)) | (go_at_call 31; ((with_reducible refine (syAcceptN (H.out.kept (by repeat (first | exact q0.out | exact Qw.refl _ | refine Qw.al ?_ _ | refine Qw.dr ?_ | refine Qw.dn ?_ _ | refine Qw.sc ?_ (by first | (simp; done) | omega | (have := q0.out.size; first | omega | (simp; omega))) _))) _ y1.out).mono ?_); rintro e w' ⟨rfl, q⟩; skip; replace H := Lib.hid (Par.kept H.out (Qw.trans (by repeat (first | exact q0.out | exact Qw.refl _ | refine Qw.al ?_ _ | refine Qw.dr ?_ | refine Qw.dn ?_ _ | refine Qw.sc ?_ (by first | (simp; done) | omega | (have := q0.out.size; first | omega | (simp; omega))) _)) q)); replace q0 : Hid (Px P w w') := Lib.hid (Px.trans (by repeat (first | exact q0.out | exact Px.of q0.out | exact Px.refl _ _ | refine Px.setP ?_ _ _ | refine Px.alloc ?_ _ | refine Px.drewN ?_ _ | refine Px.drew ?_ | refine Px.setNew ?_ (by first | (simp; done) | omega | (have := q0.out.size; first | omega | (simp; omega))) _)) (Px.of q)); clear q)) | (go_at_call 102; ((with_reducible refine (C1.out _ (H.out.kept (by repeat (first | exact q0.out | exact Qw.refl _ | refine Qw.al ?_ _ | refine Qw.dr ?_ | refine Qw.dn ?_ _ | refine Qw.sc ?_ (by first | (simp; done) | omega | (have := q0.out.size; first | omega | (simp; omega))) _)))).mono ?_); rintro e w' ⟨rfl, q⟩; replace q0 : Hid (Px P w w') := Lib.hid (Px.trans (by repeat (first | exact q0.out | exact Px.of q0.out | exact Px.refl _ _ | refine Px.setP ?_ _ _ | refine Px.alloc ?_ _ | refine Px.drewN ?_ _ | refine Px.drew ?_ | refine Px.setNew ?_ (by first | (simp; done) | omega | (have := q0.out.size; first | omega | (simp; omega))) _)) q); clear q)))
        exact ⟨rfl, rfl, q0.out⟩
      | ok x j =>
        rw [e1] at c1
        have C1 := Lib.hid c1
        clear c1 e1
        have q0 : Hid (Px P w w) := Lib.hid (Px.refl P w)
        go_enter Tryd.func101, Tryd.ntmps101
        go_wp2_with (first | (go_at_call 31; ((with_reducible refine (syAcceptN (H.out.kept (by repeat (first | exact q0.out | exact Qw.refl _ | refine Qw.al ?_ _ | refine Qw.dr ?_ | refine Qw.dn ?_ _ | refine Qw.sc ?_ (by first | (simp; done) | omega | (have := q0.out.size; first | omega | (simp; omega))) _))) _ x1.out).mono ?_); rintro e w' ⟨rfl, q⟩; replace R : Hid (Bx w' w.heap.size exZ 32) := Lib.hid (Bx.kept (by repeat (first | exact R.out | refine Bx.alloc ?_ _ | refine Bx.drew ?_)) q); replace H := Lib.hid (Par.kept H.out (Qw.trans (by repeat (first | exact q0.out | exact Qw.refl _ | refine Qw.al ?_ _ | refine Qw.dr ?_ | refine Qw.dn ?_ _ | refine Qw.sc ?_ (by first | (simp; done) | omega | (have := q0.out.size; first | omega | (simp; omega))) _)) q)); replace q0 : Hid (Px P w w') := Lib.hid (Px.trans (by repeat (first | exact q0.out | exact Px.of q0.out | exact Px.refl _ _ | refine Px.setP ?_ _ _ | refine Px.alloc ?_ _ | refine Px.drewN ?_ _ | refine Px.drew ?_ | refine Px.setNew ?_ (by first | (simp; done) | omega | (have := q0.out.size; first | omega | (simp; omega))) _)) (Px.of q)); clear q)) | (go_at_call 31; ((with_reducible refine (syAcceptN (H.out.kept (by repeat (first | exact q0.out | exact Qw.refl _ | refine Qw.al ?_ _ | refine Qw.dr ?_ | refine Qw.dn ?_ _ | refine Qw.sc ?_ (by first | (simp; done) | omega | (have := q0.out.size; first | omega | (simp; omega))) _))) _ y1.out).mono ?_); rintro e w' ⟨rfl, q⟩; replace R : Hid (Bx w' w.heap.size exZ 32) := Lib.hid (Bx.kept (by repeat (first | exact R.out | refine Bx.alloc ?_ _ | refine Bx.drew ?_)) q); replace H := Lib.hid (Par.kept H.out (Qw.trans (by repeat (first | exact q0.out | exact Qw.refl _ | refine Qw.al ?_ _ | refine Qw.dr ?_ | refine Qw.dn ?_ _ | refine Qw.sc ?_ (by first | (simp; done) | omega | (have := q0.out.size; first | omega | (simp; omega))) _)) q)); replace q0 : Hid (Px P w w') := Lib.hid (Px.trans (by repeat (first | exact q0.out | exact Px.of q0.out | exact Px.refl _ _ | refine Px.setP ?_ _ _ | refine Px.alloc ?_ _ | refine Px.drewN ?_ _ | refine Px.drew ?_ | refine Px.setNew ?_ (by first | (simp; done) | omega | (have := q0.out.size; first | omega | (simp; omega))) _)) (Px.of q)); clear q)) | (go_at_call 102; ((with_reducible refine (C1.out _ (H.out.kept (by repeat (first | exact q0.out | exact Qw.refl _ | refine Qw.al ?_ _ | refine Qw.dr ?_ | refine Qw.dn ?_ _ | refine Qw.sc ?_ (by first | (simp; done) | omega | (have := q0.out.size; first | omega | (simp; omega))) _)))).mono ?_); rintro e w' ⟨ka, kc, rfl, k, hp, q⟩; have pw := (Par.lt hp).1; have K : Hid (KidsB w' (fun b => w.heap.size < b) ka kc (Sy.Ex.ks x)) := Lib.hid (KidsB.mono k (fun b hb => Nat.lt_of_lt_of_le (Bx.lt (by repeat (first | exact R.out | refine Bx.alloc ?_ _ | refine Bx.drew ?_))) hb)); clear k; replace R : Hid (Bx w' w.heap.size exZ 32) := Lib.hid (Bx.px (by repeat (first | exact R.out | refine Bx.alloc ?_ _ | refine Bx.drew ?_)) q (by omega)); have rl := R.out.lt; have r0 := R.out.cell' 0 _ rfl; have r1 := R.out.cell' 1 _ rfl; have r2 := R.out.cell' 2 _ rfl; have s0 := R.out.free 0; have s1 := R.out.free 1; have s2 := R.out.free 2; replace H := Lib.hid hp; clear hp; replace q0 : Hid (Px P w w') := Lib.hid (Px.trans (by repeat (first | exact q0.out | exact Px.of q0.out | exact Px.refl _ _ | refine Px.setP ?_ _ _ | refine Px.alloc ?_ _ | refine Px.drewN ?_ _ | refine Px.drew ?_ | refine Px.setNew ?_ (by first | (simp; done) | omega | (have := q0.out.size; first | omega | (simp; omega))) _)) q); clear q)))
        exact exRet (x := x) Tryd.results101 rfl rfl (exEnd (x := x) hP hO rfl rfl rfl R.out K.out H.out q0.out)
end Go.Proofs.YthfcimfoinidbaaDoor

