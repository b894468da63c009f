import Derived.Test.YtciglhecjkeogaaGreatDoorZTX26
import Derived.Deep.Cut
set_option linter.unusedVariables false
set_option linter.unusedSimpArgs false
namespace Go.Proofs.YtciglhecjkeogaaGreatDoor
open Go.RowKit
theorem sw_variable {op n : Int} {ks : List Sy.Ex} (l1 : (Sy.bcl (.mk op n ks)).length ≤ 1000000000000) (l2 : (Sy.bpr (.mk op n ks)).length ≤ 1000000000000) (h : WrC 49 (Sy.bcl (.mk op n ks)) op n ks) (h2 : WrC 76 (Sy.binb (.mk op n ks)) op n ks) : WrC 75 (35 :: Sy.bce (.mk op n ks)) op n ks := by
  intro a cap S w hO hT hk
  obtain ⟨m1, m2⟩ := hk.cap
  have cs := fun w1 => sw_simple op n ks.length a cap m1 m2 w1
  have c1 := fun w1 (h1 : Ow w1) (h2 : Tb w1) (h3 : KidsB w1 S a cap ks) => h a cap S w1 h1 h2 h3
  have c2 := fun w1 (h1 : Ow w1) (h3 : Tb w1) (h4 : KidsB w1 S a cap ks) => h2 a cap S w1 h1 h3 h4
  have lb : (Sy.binb (.mk op n ks)).length ≤ 1000000000002 := by unfold Sy.binb; simp only [List.length_cons, List.length_append, List.length_nil]; omega
  have eS : Sy.smp (.mk op n ks) = (decide (op = 0) || decide (op = 1)) := rfl
  cases hs : (decide (op = 0) || decide (op = 1)) with
  | true =>
    have eB : bs [35] ++ bs (Sy.bcl (.mk op n ks)) = bs (35 :: Sy.bce (.mk op n ks)) := by rw [bs_app]; unfold Sy.bce; rw [eS, hs]; rfl
    have hz1 : ¬ 9223372036854775807 < 1 + (bs (Sy.bcl (.mk op n ks))).size := by rw [bs_size]; omega
    rw [hs] at cs
    clear eS hs lb l1 l2 c2 h2 h
    generalize Sy.bcl (.mk op n ks) = r at c1 eB hz1
    generalize 35 :: Sy.bce (.mk op n ks) = r2 at eB ⊢
    have EB := Lib.hid eB
    have CS := Lib.hid cs
    have C1 := Lib.hid c1
    have HO := Lib.hid hO
    have HT := Lib.hid hT
    have HK := Lib.hid hk
    clear cs c1 hO hT hk eB
    have q0 : Hid (Qw w w) := Lib.hid (Qw.refl w)
    go_enter Tryz.func75, Tryz.ntmps75
    go_wp2_with (first
      | (go_at_call 112; ((with_reducible refine (CS.out _).mono ?_); rintro e w' ⟨rfl, q⟩; have B : Bx w' w.heap.size #[.int .i64 op, .int .i64 n, .slice a ks.length cap] 31 := Bx.kept (by repeat (first | exact Bx.new _ _ _ | refine Bx.alloc ?_ _ | refine Bx.drew ?_)) q; have x0 := B.cell' 0 _ rfl; have x1 := B.cell' 1 _ rfl; have x2 := B.cell' 2 _ rfl; clear B; replace q0 : Hid (Qw w w') := Lib.hid (Qw.trans Qz q); clear q))
      | (go_at_call 49; ((with_reducible refine (C1.out _ (Ow.kept HO.out Qz) (Tb.kept HT.out Qz) (KidsB.kept HK.out Qz)).mono ?_); rintro e w' ⟨rfl, q⟩; replace q0 : Hid (Qw w w') := Lib.hid (Qw.trans Qz q); clear q)))
    go_ret
    exact ⟨by rw [← EB.out]; rfl, q0.out⟩
  | false =>
    have eB : bs [35] ++ bs (Sy.binb (.mk op n ks)) = bs (35 :: Sy.bce (.mk op n ks)) := by rw [bs_app]; unfold Sy.bce; rw [eS, hs]; rfl
    have hz1 : ¬ 9223372036854775807 < 1 + (bs (Sy.binb (.mk op n ks))).size := by rw [bs_size]; omega
    rw [hs] at cs
    clear eS hs lb l1 l2 c1 h2 h
    generalize Sy.binb (.mk op n ks) = r at c2 eB hz1
    generalize 35 :: Sy.bce (.mk op n ks) = r2 at eB ⊢
    have EB := Lib.hid eB
    have CS := Lib.hid cs
    have C2 := Lib.hid c2
    have HO := Lib.hid hO
    have HT := Lib.hid hT
    have HK := Lib.hid hk
    clear cs c2 hO hT hk eB
    have q0 : Hid (Qw w w) := Lib.hid (Qw.refl w)
    go_enter Tryz.func75, Tryz.ntmps75
    go_wp2_with (first
      | (go_at_call 112; ((with_reducible refine (CS.out _).mono ?_); rintro e w' ⟨rfl, q⟩; have B : Bx w' w.heap.size #[.int .i64 op, .int .i64 n, .slice a ks.length cap] 31 := Bx.kept (by repeat (first | exact Bx.new _ _ _ | refine Bx.alloc ?_ _ | refine Bx.drew ?_)) q; have x0 := B.cell' 0 _ rfl; have x1 := B.cell' 1 _ rfl; have x2 := B.cell' 2 _ rfl; clear B; replace q0 : Hid (Qw w w') := Lib.hid (Qw.trans Qz q); clear q))
      | (go_at_call 76; ((with_reducible refine (C2.out _ (Ow.kept HO.out Qz) (Tb.kept HT.out Qz) (KidsB.kept HK.out Qz)).mono ?_); rintro e w' ⟨rfl, q⟩; replace q0 : Hid (Qw w w') := Lib.hid (Qw.trans Qz q); clear q)))
    go_ret
    exact ⟨by rw [← EB.out]; rfl, q0.out⟩
end Go.Proofs.YtciglhecjkeogaaGreatDoor
set_option linter.unusedVariables false
set_option linter.unusedSimpArgs false
namespace Go.Proofs.YtciglhecjkeogaaGreatDoor
open Go.RowKit
theorem sw_closed_num {n : Int} (h0 : 0 ≤ n) (h1 : n < 1000000000000000) : WrC 49 (Sy.bcl (.mk 0 n [])) 0 n [] := by
  intro a cap S w hO hT hk
  obtain ⟨m1, m2⟩ := hk.cap
  have e2 : Sy.bcl (.mk 0 n []) = fmtp n := by simp [Sy.bcl, Sy.bpc]
  have eF : fmtl n = fmtp n := by unfold fmtl; rw [if_pos (by unfold vld; simp; omega), if_neg (by omega)]
  have c1 := fun w1 (h2 : Tb w1) => fxFormat n w1 h2
  rw [e2, ← eF]
  have C1 := Lib.hid c1
  have HT := Lib.hid hT
  clear c1 hO hT hk e2 eF m1
  have q0 : Hid (Qw w w) := Lib.hid (Qw.refl w)
  show Calls Tryz.prog 49 #[.agg #[.int .i64 0, .int .i64 n, .slice a 0 cap]] w _
  go_enter Tryz.func49, Tryz.ntmps49
  go_wp2_with (go_at_call 74; ((with_reducible refine (C1.out _ (Tb.kept HT.out Qz)).mono ?_); rintro e w' ⟨rfl, q⟩; replace q0 : Hid (Qw w w') := Lib.hid (Qw.trans Qz q); clear q))
  go_ret
  exact ⟨rfl, q0.out⟩
theorem sw_closed_var {op n : Int} {ks : List Sy.Ex} (h : WrC 75 (35 :: Sy.bce (.mk op n ks)) op n ks) : WrC 49 (35 :: Sy.bce (.mk op n ks)) 1 0 [.mk op n ks] := by
  intro a cap S w hO hT hk
  cases hk with
  | mk b off cap ks' ad cc hS h1 h2 hc hkk =>
    obtain ⟨z0, z1, z2⟩ := hc 0 (by simp)
    have KK := hkk 0 (by simp)
    have c1 := fun w1 (h1 : Ow w1) (h2 : Tb w1) (h3 : KidsB w1 S (ad 0) (cc 0) ks) => h (ad 0) (cc 0) S w1 h1 h2 h3
    generalize 35 :: Sy.bce (.mk op n ks) = r at c1 ⊢
    have y0 : w.cell? ⟨b, off, none⟩ = some (.int .i64 op) := by simpa [Sy.Ex.op] using z0
    have y1 : w.cell? ⟨b, off + 1, none⟩ = some (.int .i64 n) := by simpa [Sy.Ex.n] using z1
    have y2 : w.cell? ⟨b, off + 2, none⟩ = some (.slice (ad 0) ks.length (cc 0)) := by simpa [Sy.Ex.ks] using z2
    have bl := cell_lt z0
    have hne : b ≠ w.heap.size := by omega
    have C1 := Lib.hid c1
    have HO := Lib.hid hO
    have HT := Lib.hid hT
    have HK : Hid (KidsB w S (ad 0) (cc 0) ks) := Lib.hid KK
    clear c1 hO hT hc hkk KK z0 z1 z2 h
    have q0 : Hid (Qw w w) := Lib.hid (Qw.refl w)
    show Calls Tryz.prog 49 #[.agg #[.int .i64 1, .int .i64 0, .slice (some ⟨b, off, none⟩) 1 cap]] w _
    go_enter Tryz.func49, Tryz.ntmps49
    go_wp2_with (go_at_call 75; ((with_reducible refine (C1.out _ (Ow.kept HO.out Qz) (Tb.kept HT.out Qz) (KidsB.kept HK.out Qz)).mono ?_); rintro e w' ⟨rfl, q⟩; replace q0 : Hid (Qw w w') := Lib.hid (Qw.trans Qz q); clear q))
    go_ret
    exact ⟨rfl, q0.out⟩
end Go.Proofs.YtciglhecjkeogaaGreatDoor
set_option linter.unusedVariables false
set_option linter.unusedSimpArgs false
namespace Go.Proofs.YtciglhecjkeogaaGreatDoor
open Go.RowKit
theorem sw_closed_in {o : Nat} {ks : List Sy.Ex} {r : List UInt8} (ho : o = 2 ∨ (ks.length = 2 ∧ 2 < o ∧ o ≠ 11)) (h : WrC 76 r (o : Int) 0 ks) : WrC 49 r (o : Int) 0 ks := by
  intro a cap S w hO hT hk
  obtain ⟨m1, m2⟩ := hk.cap
  have c1 := fun w1 (h1 : Ow w1) (h2 : Tb w1) (h3 : KidsB w1 S a cap ks) => h a cap S w1 h1 h2 h3
  have C1 := Lib.hid c1
  have HO := Lib.hid hO
  have HT := Lib.hid hT
  have HK := Lib.hid hk
  clear c1 hO hT hk h
  rcases ho with rfl | ⟨hl, h2, h11⟩
  · show Calls Tryz.prog 49 #[.agg #[.int .i64 2, .int .i64 0, .slice a ks.length cap]] w _
    have C2 : Hid (∀ w1, Ow w1 → Tb w1 → KidsB w1 S a cap ks → Calls Tryz.prog 76 #[.agg #[.int .i64 2, .int .i64 0, .slice a ks.length cap]] w1 fun e w' => e = .returned (.string (bs r)) ∧ Qw w1 w') := C1
    clear C1
    have q0 : Hid (Qw w w) := Lib.hid (Qw.refl w)
    go_enter Tryz.func49, Tryz.ntmps49
    go_wp2_with (go_at_call 76; ((with_reducible refine (C2.out _ (Ow.kept HO.out Qz) (Tb.kept HT.out Qz) (KidsB.kept HK.out Qz)).mono ?_); rintro e w' ⟨rfl, q⟩; replace q0 : Hid (Qw w w') := Lib.hid (Qw.trans Qz q); clear q))
    go_ret
    exact ⟨rfl, q0.out⟩
  · have d0 : ((o : Int) == 0) = false := beq_eq_false_iff_ne.2 (by omega)
    have d1 : ((o : Int) == 1) = false := beq_eq_false_iff_ne.2 (by omega)
    have d2 : ((o : Int) == 2) = false := beq_eq_false_iff_ne.2 (by omega)
    have d3 : ((o : Int) == 11) = false := beq_eq_false_iff_ne.2 (by omega)
    have d4 : ((ks.length : Int) == 1) = false := beq_eq_false_iff_ne.2 (by omega)
    clear h2 h11 hl
    have q0 : Hid (Qw w w) := Lib.hid (Qw.refl w)
    go_enter Tryz.func49, Tryz.ntmps49
    go_wp2_with (go_at_call 76; ((with_reducible refine (C1.out _ (Ow.kept HO.out Qz) (Tb.kept HT.out Qz) (KidsB.kept HK.out Qz)).mono ?_); rintro e w' ⟨rfl, q⟩; replace q0 : Hid (Qw w w') := Lib.hid (Qw.trans Qz q); clear q))
    go_ret
    exact ⟨rfl, q0.out⟩
theorem sw_printed_cl {o : Nat} {n : Int} {ks : List Sy.Ex} {r : List UInt8} (ho : o = 0 ∨ o = 1 ∨ o = 11 ∨ (ks.length = 1 ∧ 2 < o ∧ o ≠ 11)) (h : WrC 49 r (o : Int) n ks) : WrC 27 r (o : Int) n ks := by
  intro a cap S w hO hT hk
  obtain ⟨m1, m2⟩ := hk.cap
  have c1 := fun w1 (h1 : Ow w1) (h2 : Tb w1) (h3 : KidsB w1 S a cap ks) => h a cap S w1 h1 h2 h3
  have C1 := Lib.hid c1
  have HO := Lib.hid hO
  have HT := Lib.hid hT
  have HK := Lib.hid hk
  clear c1 hO hT hk h
  have fin : ∀ (oi : Int), oi = (o : Int) → Hid (∀ w1, Ow w1 → Tb w1 → KidsB w1 S a cap ks → Calls Tryz.prog 49 #[.agg #[.int .i64 oi, .int .i64 n, .slice a ks.length cap]] w1 fun e w' => e = .returned (.string (bs r)) ∧ Qw w1 w') := by
    rintro _ rfl; exact C1
  rcases ho with rfl | rfl | rfl | ⟨hl, h2, h11⟩
  · have C2 := fin 0 rfl
    clear C1 fin
    show Calls Tryz.prog 27 #[.agg #[.int .i64 0, .int .i64 n, .slice a ks.length cap]] w _
    have q0 : Hid (Qw w w) := Lib.hid (Qw.refl w)
    go_enter Tryz.func27, Tryz.ntmps27
    go_wp2_with (go_at_call 49; ((with_reducible refine (C2.out _ (Ow.kept HO.out Qz) (Tb.kept HT.out Qz) (KidsB.kept HK.out Qz)).mono ?_); rintro e w' ⟨rfl, q⟩; replace q0 : Hid (Qw w w') := Lib.hid (Qw.trans Qz q); clear q))
    go_ret
    exact ⟨rfl, q0.out⟩
  · have C2 := fin 1 rfl
    clear C1 fin
    show Calls Tryz.prog 27 #[.agg #[.int .i64 1, .int .i64 n, .slice a ks.length cap]] w _
    have q0 : Hid (Qw w w) := Lib.hid (Qw.refl w)
    go_enter Tryz.func27, Tryz.ntmps27
    go_wp2_with (go_at_call 49; ((with_reducible refine (C2.out _ (Ow.kept HO.out Qz) (Tb.kept HT.out Qz) (KidsB.kept HK.out Qz)).mono ?_); rintro e w' ⟨rfl, q⟩; replace q0 : Hid (Qw w w') := Lib.hid (Qw.trans Qz q); clear q))
    go_ret
    exact ⟨rfl, q0.out⟩
  · have C2 := fin 11 rfl
    clear C1 fin
    show Calls Tryz.prog 27 #[.agg #[.int .i64 11, .int .i64 n, .slice a ks.length cap]] w _
    have q0 : Hid (Qw w w) := Lib.hid (Qw.refl w)
    go_enter Tryz.func27, Tryz.ntmps27
    go_wp2_with (go_at_call 49; ((with_reducible refine (C2.out _ (Ow.kept HO.out Qz) (Tb.kept HT.out Qz) (KidsB.kept HK.out Qz)).mono ?_); rintro e w' ⟨rfl, q⟩; replace q0 : Hid (Qw w w') := Lib.hid (Qw.trans Qz q); clear q))
    go_ret
    exact ⟨rfl, q0.out⟩
  · have d0 : ((o : Int) == 0) = false := beq_eq_false_iff_ne.2 (by omega)
    have d1 : ((o : Int) == 1) = false := beq_eq_false_iff_ne.2 (by omega)
    have d2 : ((o : Int) == 2) = false := beq_eq_false_iff_ne.2 (by omega)
    have d3 : ((o : Int) == 11) = false := beq_eq_false_iff_ne.2 (by omega)
    have d4 : ((ks.length : Int) == 1) = true := by rw [hl]; rfl
    clear h2 h11 hl fin
    have q0 : Hid (Qw w w) := Lib.hid (Qw.refl w)
    go_enter Tryz.func27, Tryz.ntmps27
    go_wp2_with (go_at_call 49; ((with_reducible refine (C1.out _ (Ow.kept HO.out Qz) (Tb.kept HT.out Qz) (KidsB.kept HK.out Qz)).mono ?_); rintro e w' ⟨rfl, q⟩; replace q0 : Hid (Qw w w') := Lib.hid (Qw.trans Qz q); clear q))
    go_ret
    exact ⟨rfl, q0.out⟩
end Go.Proofs.YtciglhecjkeogaaGreatDoor
set_option linter.unusedVariables false
set_option linter.unusedSimpArgs false
namespace Go.Proofs.YtciglhecjkeogaaGreatDoor
open Go.RowKit
theorem sw_printed_neg {op n : Int} {ks : List Sy.Ex} (l1 : (Sy.bcl (.mk op n ks)).length ≤ 1000000000000) (h : WrC 49 (Sy.bcl (.mk op n ks)) op n ks) : WrC 27 (45 :: Sy.bcl (.mk op n ks)) 2 0 [.mk op n ks] := by
  intro a cap S w hO hT hk
  cases hk with
  | mk b off cap ks' ad cc hS h1 h2 hc hkk =>
    obtain ⟨z0, z1, z2⟩ := hc 0 (by simp)
    have KK := hkk 0 (by simp)
    have c1 := fun w1 (h1 : Ow w1) (h2 : Tb w1) (h3 : KidsB w1 S (ad 0) (cc 0) ks) => h (ad 0) (cc 0) S w1 h1 h2 h3
    have eB : bs [45] ++ bs (Sy.bcl (.mk op n ks)) = bs (45 :: Sy.bcl (.mk op n ks)) := by rw [bs_app]; rfl
    have hz1 : ¬ 9223372036854775807 < 1 + (bs (Sy.bcl (.mk op n ks))).size := by rw [bs_size]; omega
    generalize 45 :: Sy.bcl (.mk op n ks) = r2 at eB ⊢
    clear l1 h
    generalize Sy.bcl (.mk op n ks) = r at c1 eB hz1
    have y0 : w.cell? ⟨b, off, none⟩ = some (.int .i64 op) := by simpa [Sy.Ex.op] using z0
    have y1 : w.cell? ⟨b, off + 1, none⟩ = some (.int .i64 n) := by simpa [Sy.Ex.n] using z1
    have y2 : w.cell? ⟨b, off + 2, none⟩ = some (.slice (ad 0) ks.length (cc 0)) := by simpa [Sy.Ex.ks] using z2
    have bl := cell_lt z0
    have hne : b ≠ w.heap.size := by omega
    have EB := Lib.hid eB
    have C1 := Lib.hid c1
    have HO := Lib.hid hO
    have HT := Lib.hid hT
    have HK : Hid (KidsB w S (ad 0) (cc 0) ks) := Lib.hid KK
    clear c1 hO hT hc hkk KK z0 z1 z2 eB
    have q0 : Hid (Qw w w) := Lib.hid (Qw.refl w)
    show Calls Tryz.prog 27 #[.agg #[.int .i64 2, .int .i64 0, .slice (some ⟨b, off, none⟩) 1 cap]] w _
    go_enter Tryz.func27, Tryz.ntmps27
    go_wp2_with (go_at_call 49; ((with_reducible refine (C1.out _ (Ow.kept HO.out Qz) (Tb.kept HT.out Qz) (KidsB.kept HK.out Qz)).mono ?_); rintro e w' ⟨rfl, q⟩; replace q0 : Hid (Qw w w') := Lib.hid (Qw.trans Qz q); clear q))
    go_ret
    exact ⟨by rw [← EB.out]; rfl, q0.out⟩
end Go.Proofs.YtciglhecjkeogaaGreatDoor
set_option linter.unusedVariables false
set_option linter.unusedSimpArgs false
namespace Go.Proofs.YtciglhecjkeogaaGreatDoor
open Go.RowKit
set_option maxRecDepth 100000 in
set_option maxHeartbeats 4000000 in
theorem sx_closed_fun {o : Nat} (ho : 2 < o) (h11 : o ≠ 11) (h26 : o < 26) {op n : Int} {ks : List Sy.Ex} (l1 : (Sy.binb (.mk op n ks)).length ≤ 1000000000000) (h : WrC 76 (Sy.binb (.mk op n ks)) op n ks) : WrC 49 (Sy.onm o ++ Sy.binb (.mk op n ks)) (o : Int) 0 [.mk op n ks] := by
  intro a cap S w hO hT hk
  cases hk with
  | mk b off cap ks' ad cc hS h1 h2 hc hkk =>
    obtain ⟨z0, z1, z2⟩ := hc 0 (by simp)
    have KK := hkk 0 (by simp)
    have c1 : ∀ w1, Qw w w1 → Calls Tryz.prog 76 #[.agg #[.int .i64 op, .int .i64 n, .slice (ad 0) ks.length (cc 0)]] w1 fun e w' => e = .returned (.string (bs (Sy.binb (.mk op n ks)))) ∧ Qw w1 w' := fun w1 q => h (ad 0) (cc 0) S w1 (hO.kept q) (hT.kept q) (KidsB.kept (ks := ks) KK q)
    have g0 := (hO.2 o h26).1
    have hO1 := hO.1
    have eB : bs (Sy.onm o) ++ bs (Sy.binb (.mk op n ks)) = bs (Sy.onm o ++ Sy.binb (.mk op n ks)) := bs_app _ _
    have lo := Sy.onm_len o h26
    have hz1 : ¬ 9223372036854775807 < (bs (Sy.onm o)).size + (bs (Sy.binb (.mk op n ks))).size := by rw [bs_size, bs_size]; omega
    generalize Sy.onm o ++ Sy.binb (.mk op n ks) = r2 at eB ⊢
    clear l1 h lo
    generalize Sy.binb (.mk op n ks) = r at c1 eB hz1
    generalize Sy.onm o = u at eB hz1 g0
    have y0 : w.cell? ⟨b, off, none⟩ = some (.int .i64 op) := by simpa [Sy.Ex.op] using z0
    have y1 : w.cell? ⟨b, off + 1, none⟩ = some (.int .i64 n) := by simpa [Sy.Ex.n] using z1
    have y2 : w.cell? ⟨b, off + 2, none⟩ = some (.slice (ad 0) ks.length (cc 0)) := by simpa [Sy.Ex.ks] using z2
    have bl := cell_lt z0
    have gl := cell_lt g0
    have hne : b ≠ w.heap.size := by omega
    have hgne : 0 ≠ w.heap.size := by omega
    have EB := Lib.hid eB
    have C1 := Lib.hid c1
    have d0 : ((o : Int) == 0) = false := beq_eq_false_iff_ne.2 (by omega)
    have d1 : ((o : Int) == 1) = false := beq_eq_false_iff_ne.2 (by omega)
    have d2 : ((o : Int) == 2) = false := beq_eq_false_iff_ne.2 (by omega)
    have d3 : ((o : Int) == 11) = false := beq_eq_false_iff_ne.2 (by omega)
    have o26 : (o : Int) < 26 := by omega
    clear c1 hO hT hc hkk KK z0 z1 z2 eB
    have q0 : Hid (Qw w w) := Lib.hid (Qw.refl w)
    show Calls Tryz.prog 49 #[.agg #[.int .i64 (o : Int), .int .i64 0, .slice (some ⟨b, off, none⟩) 1 cap]] w _
    go_enter Tryz.func49, Tryz.ntmps49
    go_upto_region 11 with fail
    refine code_of (fun w' => Qw w w' ∧ Bx w' w.heap.size #[.int .i64 (o : Int), .int .i64 0, .slice (some ⟨b, off, none⟩) 1 cap] 31) ⟨Qz, by repeat (first | exact Bx.new _ _ _ | refine Bx.alloc ?_ _ | refine Bx.drew ?_)⟩ ?_
    rintro w1 ⟨q1, B⟩
    have x0 := B.kcell 0 _ rfl
    have x2 := B.kcell 2 _ rfl
    have k0 : ∀ p : Kept w1, p.v.cell? ⟨b, off, none⟩ = some (.int .i64 op) := fun p => (World.cell?_of_block (w := w) ((q1.trans p.h).block _ bl)).trans y0
    have k1 : ∀ p : Kept w1, p.v.cell? ⟨b, off + 1, none⟩ = some (.int .i64 n) := fun p => (World.cell?_of_block (w := w) ((q1.trans p.h).block _ bl)).trans y1
    have k2 : ∀ p : Kept w1, p.v.cell? ⟨b, off + 2, none⟩ = some (.slice (ad 0) ks.length (cc 0)) := fun p => (World.cell?_of_block (w := w) ((q1.trans p.h).block _ bl)).trans y2
    have kg : ∀ p : Kept w1, p.v.cell? ⟨0, o * 2, none⟩ = some (.string (bs u)) := fun p => (World.cell?_of_block (w := w) ((q1.trans p.h).block _ gl)).trans g0
    have D1 : Hid (∀ p : Kept w1, Calls Tryz.prog 76 #[.agg #[.int .i64 op, .int .i64 n, .slice (ad 0) ks.length (cc 0)]] p.v fun e w' => e = .returned (.string (bs r)) ∧ Qw p.v w') := Lib.hid fun p => C1.out _ (q1.trans p.h)
    clear C1 y0 y1 y2 g0 q0
    refine region_kept (by kernel_rfl) (by kernel_rfl) ?_
    repeat (go_big_quiet_step (first | (go_at_call 76; with_reducible exact Kept.call (D1.out _))))
    refine wpQuiet_nil ?_
    intro w2 q
    go_wp2_with fail
    go_ret
    exact ⟨by rw [← EB.out]; rfl, q1.trans q⟩
set_option maxRecDepth 100000 in
set_option maxHeartbeats 4000000 in
theorem sx_closed_atan {op0 n0 op1 n1 : Int} {ks0 ks1 : List Sy.Ex} (l0 : (Sy.binb (.mk op0 n0 ks0)).length ≤ 1000000000000) (l1 : (Sy.binb (.mk op1 n1 ks1)).length ≤ 1000000000000)
    (h0 : WrC 76 (Sy.binb (.mk op0 n0 ks0)) op0 n0 ks0) (h1 : WrC 76 (Sy.binb (.mk op1 n1 ks1)) op1 n1 ks1) : WrC 49 (Sy.onm 11 ++ (Sy.binb (.mk op0 n0 ks0) ++ ([47] ++ Sy.binb (.mk op1 n1 ks1)))) 11 0 [.mk op0 n0 ks0, .mk op1 n1 ks1] := by
  intro a cap S w hO hT hk
  cases hk with
  | mk b off cap ks' ad cc hS hh1 hh2 hc hkk =>
    obtain ⟨z0, z1, z2⟩ := hc 0 (by simp)
    obtain ⟨z3, z4, z5⟩ := hc 1 (by simp)
    have KK := hkk 0 (by simp)
    have KL := hkk 1 (by simp)
    have c1 : ∀ w1, Qw w w1 → Calls Tryz.prog 76 #[.agg #[.int .i64 op0, .int .i64 n0, .slice (ad 0) ks0.length (cc 0)]] w1 fun e w' => e = .returned (.string (bs (Sy.binb (.mk op0 n0 ks0)))) ∧ Qw w1 w' := fun w1 q => h0 (ad 0) (cc 0) S w1 (hO.kept q) (hT.kept q) (KidsB.kept (ks := ks0) KK q)
    have c2 : ∀ w1, Qw w w1 → Calls Tryz.prog 76 #[.agg #[.int .i64 op1, .int .i64 n1, .slice (ad 1) ks1.length (cc 1)]] w1 fun e w' => e = .returned (.string (bs (Sy.binb (.mk op1 n1 ks1)))) ∧ Qw w1 w' := fun w1 q => h1 (ad 1) (cc 1) S w1 (hO.kept q) (hT.kept q) (KidsB.kept (ks := ks1) KL q)
    have eB : bs [65, 84, 65, 78] ++ bs (Sy.binb (.mk op0 n0 ks0)) ++ bs [47] ++ bs (Sy.binb (.mk op1 n1 ks1)) = bs (Sy.onm 11 ++ (Sy.binb (.mk op0 n0 ks0) ++ ([47] ++ Sy.binb (.mk op1 n1 ks1)))) := by simp only [bs_app, List.append_assoc]; rfl
    have hz1 : ¬ 9223372036854775807 < 4 + (bs (Sy.binb (.mk op0 n0 ks0))).size := by simp only [bs_size]; omega
    have hz2 : ¬ 9223372036854775807 < 4 + (bs (Sy.binb (.mk op0 n0 ks0))).size + 1 := by simp only [bs_size]; omega
    have hz3 : ¬ 9223372036854775807 < 4 + (bs (Sy.binb (.mk op0 n0 ks0))).size + 1 + (bs (Sy.binb (.mk op1 n1 ks1))).size := by simp only [bs_size]; omega
    clear l0 l1 h0 h1
    generalize Sy.binb (.mk op0 n0 ks0) = r at eB hz1 hz2 hz3 c1 ⊢
    generalize Sy.binb (.mk op1 n1 ks1) = s at eB hz3 c2 ⊢
    generalize Sy.onm 11 ++ (r ++ ([47] ++ s)) = r2 at eB ⊢
    have y0 : w.cell? ⟨b, off, none⟩ = some (.int .i64 op0) := by simpa [Sy.Ex.op] using z0
    have y1 : w.cell? ⟨b, off + 1, none⟩ = some (.int .i64 n0) := by simpa [Sy.Ex.n] using z1
    have y2 : w.cell? ⟨b, off + 2, none⟩ = some (.slice (ad 0) ks0.length (cc 0)) := by simpa [Sy.Ex.ks] using z2
    have y3 : w.cell? ⟨b, off + 3, none⟩ = some (.int .i64 op1) := by simpa [Sy.Ex.op] using z3
    have y4 : w.cell? ⟨b, off + 3 + 1, none⟩ = some (.int .i64 n1) := by simpa [Sy.Ex.n] using z4
    have y5 : w.cell? ⟨b, off + 3 + 2, none⟩ = some (.slice (ad 1) ks1.length (cc 1)) := by simpa [Sy.Ex.ks] using z5
    have bl := cell_lt z0
    have hne : b ≠ w.heap.size := by omega
    have C1 := Lib.hid c1
    have C2 := Lib.hid c2
    have EB := Lib.hid eB
    clear c1 c2 hO hT hc hkk KK KL z0 z1 z2 z3 z4 z5 eB
    have q0 : Hid (Qw w w) := Lib.hid (Qw.refl w)
    show Calls Tryz.prog 49 #[.agg #[.int .i64 11, .int .i64 0, .slice (some ⟨b, off, none⟩) 2 cap]] w _
    go_enter Tryz.func49, Tryz.ntmps49
    go_upto_region 7 with fail
    refine code_of (fun w' => Qw w w' ∧ Bx w' w.heap.size #[.int .i64 11, .int .i64 0, .slice (some ⟨b, off, none⟩) 2 cap] 31) ⟨Qz, by repeat (first | exact Bx.new _ _ _ | refine Bx.alloc ?_ _ | refine Bx.drew ?_)⟩ ?_
    rintro w1 ⟨q1, B⟩
    have x0 := B.kcell 0 _ rfl
    have x2 := B.kcell 2 _ rfl
    have k0 : ∀ p : Kept w1, p.v.cell? ⟨b, off, none⟩ = some (.int .i64 op0) := fun p => (World.cell?_of_block (w := w) ((q1.trans p.h).block _ bl)).trans y0
    have k1 : ∀ p : Kept w1, p.v.cell? ⟨b, off + 1, none⟩ = some (.int .i64 n0) := fun p => (World.cell?_of_block (w := w) ((q1.trans p.h).block _ bl)).trans y1
    have k2 : ∀ p : Kept w1, p.v.cell? ⟨b, off + 2, none⟩ = some (.slice (ad 0) ks0.length (cc 0)) := fun p => (World.cell?_of_block (w := w) ((q1.trans p.h).block _ bl)).trans y2
    have k3 : ∀ p : Kept w1, p.v.cell? ⟨b, off + 3, none⟩ = some (.int .i64 op1) := fun p => (World.cell?_of_block (w := w) ((q1.trans p.h).block _ bl)).trans y3
    have k4 : ∀ p : Kept w1, p.v.cell? ⟨b, off + 3 + 1, none⟩ = some (.int .i64 n1) := fun p => (World.cell?_of_block (w := w) ((q1.trans p.h).block _ bl)).trans y4
    have k5 : ∀ p : Kept w1, p.v.cell? ⟨b, off + 3 + 2, none⟩ = some (.slice (ad 1) ks1.length (cc 1)) := fun p => (World.cell?_of_block (w := w) ((q1.trans p.h).block _ bl)).trans y5
    have D1 : Hid (∀ p : Kept w1, Calls Tryz.prog 76 #[.agg #[.int .i64 op0, .int .i64 n0, .slice (ad 0) ks0.length (cc 0)]] p.v fun e w' => e = .returned (.string (bs r)) ∧ Qw p.v w') := Lib.hid fun p => C1.out _ (q1.trans p.h)
    have D2 : Hid (∀ p : Kept w1, Calls Tryz.prog 76 #[.agg #[.int .i64 op1, .int .i64 n1, .slice (ad 1) ks1.length (cc 1)]] p.v fun e w' => e = .returned (.string (bs s)) ∧ Qw p.v w') := Lib.hid fun p => C2.out _ (q1.trans p.h)
    clear C1 C2 y0 y1 y2 y3 y4 y5 q0
    refine region_kept (by kernel_rfl) (by kernel_rfl) ?_
    repeat (go_big_quiet_step (first | (go_at_call 76; with_reducible exact Kept.call (D1.out _)) | (go_at_call 76; with_reducible exact Kept.call (D2.out _))))
    refine wpQuiet_nil ?_
    intro w2 q
    go_wp2_with fail
    go_ret
    exact ⟨by rw [← EB.out]; rfl, q1.trans q⟩
set_option maxRecDepth 100000 in
set_option maxHeartbeats 4000000 in
theorem sx_printed_op {o : Nat} (ho : 2 < o) (h11 : o ≠ 11) (h26 : o < 26) {op0 n0 op1 n1 : Int} {ks0 ks1 : List Sy.Ex} (l0 : (Sy.bcl (.mk op0 n0 ks0)).length ≤ 1000000000000) (l1 : (Sy.bcl (.mk op1 n1 ks1)).length ≤ 1000000000000)
    (h0 : WrC 49 (Sy.bcl (.mk op0 n0 ks0)) op0 n0 ks0) (h1 : WrC 49 (Sy.bcl (.mk op1 n1 ks1)) op1 n1 ks1) : WrC 27 (Sy.bcl (.mk op0 n0 ks0) ++ ((32 :: Sy.onm o ++ [32]) ++ Sy.bcl (.mk op1 n1 ks1))) (o : Int) 0 [.mk op0 n0 ks0, .mk op1 n1 ks1] := by
  intro a cap S w hO hT hk
  cases hk with
  | mk b off cap ks' ad cc hS hh1 hh2 hc hkk =>
    obtain ⟨z0, z1, z2⟩ := hc 0 (by simp)
    obtain ⟨z3, z4, z5⟩ := hc 1 (by simp)
    have KK := hkk 0 (by simp)
    have KL := hkk 1 (by simp)
    have c1 : ∀ w1, Qw w w1 → Calls Tryz.prog 49 #[.agg #[.int .i64 op0, .int .i64 n0, .slice (ad 0) ks0.length (cc 0)]] w1 fun e w' => e = .returned (.string (bs (Sy.bcl (.mk op0 n0 ks0)))) ∧ Qw w1 w' := fun w1 q => h0 (ad 0) (cc 0) S w1 (hO.kept q) (hT.kept q) (KidsB.kept (ks := ks0) KK q)
    have c2 : ∀ w1, Qw w w1 → Calls Tryz.prog 49 #[.agg #[.int .i64 op1, .int .i64 n1, .slice (ad 1) ks1.length (cc 1)]] w1 fun e w' => e = .returned (.string (bs (Sy.bcl (.mk op1 n1 ks1)))) ∧ Qw w1 w' := fun w1 q => h1 (ad 1) (cc 1) S w1 (hO.kept q) (hT.kept q) (KidsB.kept (ks := ks1) KL q)
    have g0 := (hO.2 o h26).1
    have eB : bs (Sy.bcl (.mk op0 n0 ks0)) ++ bs [32] ++ bs (Sy.onm o) ++ bs [32] ++ bs (Sy.bcl (.mk op1 n1 ks1)) = bs (Sy.bcl (.mk op0 n0 ks0) ++ ((32 :: Sy.onm o ++ [32]) ++ Sy.bcl (.mk op1 n1 ks1))) := by simp only [bs_app, List.append_assoc]; rfl
    have lo := Sy.onm_len o h26
    have hz1 : ¬ 9223372036854775807 < (bs (Sy.bcl (.mk op0 n0 ks0))).size + 1 := by simp only [bs_size]; omega
    have hz2 : ¬ 9223372036854775807 < (bs (Sy.bcl (.mk op0 n0 ks0))).size + 1 + (bs (Sy.onm o)).size := by simp only [bs_size]; omega
    have hz3 : ¬ 9223372036854775807 < (bs (Sy.bcl (.mk op0 n0 ks0))).size + 1 + (bs (Sy.onm o)).size + 1 := by simp only [bs_size]; omega
    have hz4 : ¬ 9223372036854775807 < (bs (Sy.bcl (.mk op0 n0 ks0))).size + 1 + (bs (Sy.onm o)).size + 1 + (bs (Sy.bcl (.mk op1 n1 ks1))).size := by simp only [bs_size]; omega
    clear lo
    generalize Sy.onm o = u at eB hz2 hz3 hz4 g0 ⊢
    clear l0 l1 h0 h1
    generalize Sy.bcl (.mk op0 n0 ks0) = r at eB hz1 hz2 hz3 hz4 c1 ⊢
    generalize Sy.bcl (.mk op1 n1 ks1) = s at eB hz4 c2 ⊢
    generalize r ++ ((32 :: u ++ [32]) ++ s) = r2 at eB ⊢
    have y0 : w.cell? ⟨b, off, none⟩ = some (.int .i64 op0) := by simpa [Sy.Ex.op] using z0
    have y1 : w.cell? ⟨b, off + 1, none⟩ = some (.int .i64 n0) := by simpa [Sy.Ex.n] using z1
    have y2 : w.cell? ⟨b, off + 2, none⟩ = some (.slice (ad 0) ks0.length (cc 0)) := by simpa [Sy.Ex.ks] using z2
    have y3 : w.cell? ⟨b, off + 3, none⟩ = some (.int .i64 op1) := by simpa [Sy.Ex.op] using z3
    have y4 : w.cell? ⟨b, off + 3 + 1, none⟩ = some (.int .i64 n1) := by simpa [Sy.Ex.n] using z4
    have y5 : w.cell? ⟨b, off + 3 + 2, none⟩ = some (.slice (ad 1) ks1.length (cc 1)) := by simpa [Sy.Ex.ks] using z5
    have bl := cell_lt z0
    have hne : b ≠ w.heap.size := by omega
    have C1 := Lib.hid c1
    have C2 := Lib.hid c2
    have EB := Lib.hid eB
    have gl := cell_lt g0
    have hgne : 0 ≠ w.heap.size := by omega
    have d0 : ((o : Int) == 0) = false := beq_eq_false_iff_ne.2 (by omega)
    have d1 : ((o : Int) == 1) = false := beq_eq_false_iff_ne.2 (by omega)
    have d2 : ((o : Int) == 2) = false := beq_eq_false_iff_ne.2 (by omega)
    have d3 : ((o : Int) == 11) = false := beq_eq_false_iff_ne.2 (by omega)
    have o26 : (o : Int) < 26 := by omega
    clear c1 c2 hO hT hc hkk KK KL z0 z1 z2 z3 z4 z5 eB
    have q0 : Hid (Qw w w) := Lib.hid (Qw.refl w)
    show Calls Tryz.prog 27 #[.agg #[.int .i64 (o : Int), .int .i64 0, .slice (some ⟨b, off, none⟩) 2 cap]] w _
    go_enter Tryz.func27, Tryz.ntmps27
    go_upto_region 10 with fail
    refine code_of (fun w' => Qw w w' ∧ Bx w' w.heap.size #[.int .i64 (o : Int), .int .i64 0, .slice (some ⟨b, off, none⟩) 2 cap] 31) ⟨Qz, by repeat (first | exact Bx.new _ _ _ | refine Bx.alloc ?_ _ | refine Bx.drew ?_)⟩ ?_
    rintro w1 ⟨q1, B⟩
    have x0 := B.kcell 0 _ rfl
    have x2 := B.kcell 2 _ rfl
    have k0 : ∀ p : Kept w1, p.v.cell? ⟨b, off, none⟩ = some (.int .i64 op0) := fun p => (World.cell?_of_block (w := w) ((q1.trans p.h).block _ bl)).trans y0
    have k1 : ∀ p : Kept w1, p.v.cell? ⟨b, off + 1, none⟩ = some (.int .i64 n0) := fun p => (World.cell?_of_block (w := w) ((q1.trans p.h).block _ bl)).trans y1
    have k2 : ∀ p : Kept w1, p.v.cell? ⟨b, off + 2, none⟩ = some (.slice (ad 0) ks0.length (cc 0)) := fun p => (World.cell?_of_block (w := w) ((q1.trans p.h).block _ bl)).trans y2
    have k3 : ∀ p : Kept w1, p.v.cell? ⟨b, off + 3, none⟩ = some (.int .i64 op1) := fun p => (World.cell?_of_block (w := w) ((q1.trans p.h).block _ bl)).trans y3
    have k4 : ∀ p : Kept w1, p.v.cell? ⟨b, off + 3 + 1, none⟩ = some (.int .i64 n1) := fun p => (World.cell?_of_block (w := w) ((q1.trans p.h).block _ bl)).trans y4
    have k5 : ∀ p : Kept w1, p.v.cell? ⟨b, off + 3 + 2, none⟩ = some (.slice (ad 1) ks1.length (cc 1)) := fun p => (World.cell?_of_block (w := w) ((q1.trans p.h).block _ bl)).trans y5
    have D1 : Hid (∀ p : Kept w1, Calls Tryz.prog 49 #[.agg #[.int .i64 op0, .int .i64 n0, .slice (ad 0) ks0.length (cc 0)]] p.v fun e w' => e = .returned (.string (bs r)) ∧ Qw p.v w') := Lib.hid fun p => C1.out _ (q1.trans p.h)
    have D2 : Hid (∀ p : Kept w1, Calls Tryz.prog 49 #[.agg #[.int .i64 op1, .int .i64 n1, .slice (ad 1) ks1.length (cc 1)]] p.v fun e w' => e = .returned (.string (bs s)) ∧ Qw p.v w') := Lib.hid fun p => C2.out _ (q1.trans p.h)
    have kg : ∀ p : Kept w1, p.v.cell? ⟨0, o * 2, none⟩ = some (.string (bs u)) := fun p => (World.cell?_of_block (w := w) ((q1.trans p.h).block _ gl)).trans g0
    clear g0
    clear C1 C2 y0 y1 y2 y3 y4 y5 q0
    refine region_kept (by kernel_rfl) (by kernel_rfl) ?_
    repeat (go_big_quiet_step (first | (go_at_call 49; with_reducible exact Kept.call (D1.out _)) | (go_at_call 49; with_reducible exact Kept.call (D2.out _))))
    refine wpQuiet_nil ?_
    intro w2 q
    go_wp2_with fail
    go_ret
    exact ⟨by rw [← EB.out]; rfl, q1.trans q⟩
end Go.Proofs.YtciglhecjkeogaaGreatDoor

