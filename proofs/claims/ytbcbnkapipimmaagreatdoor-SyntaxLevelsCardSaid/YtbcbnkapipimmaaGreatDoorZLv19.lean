import Derived.Test.YtbcbnkapipimmaaGreatDoorZLv18
import Derived.Deep.Cut
set_option linter.unusedVariables false
set_option linter.unusedSimpArgs false
namespace Go.Proofs.YtbcbnkapipimmaaGreatDoor
open Go.RowKit
theorem sw_printed_neg {op n : Int} {ks : List Sy.Ex} (l1 : (Sy.bcl (.mk op n ks)).length ≤ 1000000000000) (h : WrC 88 (Sy.bcl (.mk op n ks)) op n ks) : WrC 84 (45 :: Sy.bcl (.mk op n ks)) 2 0 [.mk op n ks] := by
  intro a cap S w hO hT hk
  cases hk with
  | mk b off cap ks' ad cc hS h1 h2 hc hkk =>
    obtain ⟨z0, z1, z2⟩ := hc 0 (by simp)
    have KK := hkk 0 (by simp)
    have c1 := fun w1 (h1 : Ow w1) (h2 : Tb w1) (h3 : KidsB w1 S (ad 0) (cc 0) ks) => h (ad 0) (cc 0) S w1 h1 h2 h3
    have eB : bs [45] ++ bs (Sy.bcl (.mk op n ks)) = bs (45 :: Sy.bcl (.mk op n ks)) := by rw [bs_app]; rfl
    have hz1 : ¬ 9223372036854775807 < 1 + (bs (Sy.bcl (.mk op n ks))).size := by rw [bs_size]; omega
    generalize 45 :: Sy.bcl (.mk op n ks) = r2 at eB ⊢
    clear l1 h
    generalize Sy.bcl (.mk op n ks) = r at c1 eB hz1
    have y0 : w.cell? ⟨b, off, none⟩ = some (.int .i64 op) := by simpa [Sy.Ex.op] using z0
    have y1 : w.cell? ⟨b, off + 1, none⟩ = some (.int .i64 n) := by simpa [Sy.Ex.n] using z1
    have y2 : w.cell? ⟨b, off + 2, none⟩ = some (.slice (ad 0) ks.length (cc 0)) := by simpa [Sy.Ex.ks] using z2
    have bl := cell_lt z0
    have hne : b ≠ w.heap.size := by omega
    have EB := Lib.hid eB
    have C1 := Lib.hid c1
    have HO := Lib.hid hO
    have HT := Lib.hid hT
    have HK : Hid (KidsB w S (ad 0) (cc 0) ks) := Lib.hid KK
    clear c1 hO hT hc hkk KK z0 z1 z2 eB
    have q0 : Hid (Qw w w) := Lib.hid (Qw.refl w)
    show Calls Tryz.prog 84 #[.agg #[.int .i64 2, .int .i64 0, .slice (some ⟨b, off, none⟩) 1 cap]] w _
    go_enter Tryz.func84, Tryz.ntmps84
    go_wp2_with (go_at_call 88; ((with_reducible refine (C1.out _ (Ow.kept HO.out Qz) (Tb.kept HT.out Qz) (KidsB.kept HK.out Qz)).mono ?_); rintro e w' ⟨rfl, q⟩; replace q0 : Hid (Qw w w') := Lib.hid (Qw.trans Qz q); clear q))
    go_ret
    exact ⟨by rw [← EB.out]; rfl, q0.out⟩
end Go.Proofs.YtbcbnkapipimmaaGreatDoor
set_option linter.unusedVariables false
set_option linter.unusedSimpArgs false
namespace Go.Proofs.YtbcbnkapipimmaaGreatDoor
open Go.RowKit
set_option maxRecDepth 100000 in
set_option maxHeartbeats 4000000 in
theorem sx_closed_fun {o : Nat} (ho : 2 < o) (h11 : o ≠ 11) (h26 : o < 26) {op n : Int} {ks : List Sy.Ex} (l1 : (Sy.binb (.mk op n ks)).length ≤ 1000000000000) (h : WrC 89 (Sy.binb (.mk op n ks)) op n ks) : WrC 88 (Sy.onm o ++ Sy.binb (.mk op n ks)) (o : Int) 0 [.mk op n ks] := by
  intro a cap S w hO hT hk
  cases hk with
  | mk b off cap ks' ad cc hS h1 h2 hc hkk =>
    obtain ⟨z0, z1, z2⟩ := hc 0 (by simp)
    have KK := hkk 0 (by simp)
    have c1 : ∀ w1, Qw w w1 → Calls Tryz.prog 89 #[.agg #[.int .i64 op, .int .i64 n, .slice (ad 0) ks.length (cc 0)]] w1 fun e w' => e = .returned (.string (bs (Sy.binb (.mk op n ks)))) ∧ Qw w1 w' := fun w1 q => h (ad 0) (cc 0) S w1 (hO.kept q) (hT.kept q) (KidsB.kept (ks := ks) KK q)
    have g0 := (hO.2 o h26).1
    have hO1 := hO.1
    have eB : bs (Sy.onm o) ++ bs (Sy.binb (.mk op n ks)) = bs (Sy.onm o ++ Sy.binb (.mk op n ks)) := bs_app _ _
    have lo := Sy.onm_len o h26
    have hz1 : ¬ 9223372036854775807 < (bs (Sy.onm o)).size + (bs (Sy.binb (.mk op n ks))).size := by rw [bs_size, bs_size]; omega
    generalize Sy.onm o ++ Sy.binb (.mk op n ks) = r2 at eB ⊢
    clear l1 h lo
    generalize Sy.binb (.mk op n ks) = r at c1 eB hz1
    generalize Sy.onm o = u at eB hz1 g0
    have y0 : w.cell? ⟨b, off, none⟩ = some (.int .i64 op) := by simpa [Sy.Ex.op] using z0
    have y1 : w.cell? ⟨b, off + 1, none⟩ = some (.int .i64 n) := by simpa [Sy.Ex.n] using z1
    have y2 : w.cell? ⟨b, off + 2, none⟩ = some (.slice (ad 0) ks.length (cc 0)) := by simpa [Sy.Ex.ks] using z2
    have bl := cell_lt z0
    have gl := cell_lt g0
    have hne : b ≠ w.heap.size := by omega
    have hgne : 0 ≠ w.heap.size := by omega
    have EB := Lib.hid eB
    have C1 := Lib.hid c1
    have d0 : ((o : Int) == 0) = false := beq_eq_false_iff_ne.2 (by omega)
    have d1 : ((o : Int) == 1) = false := beq_eq_false_iff_ne.2 (by omega)
    have d2 : ((o : Int) == 2) = false := beq_eq_false_iff_ne.2 (by omega)
    have d3 : ((o : Int) == 11) = false := beq_eq_false_iff_ne.2 (by omega)
    have o26 : (o : Int) < 26 := by omega
    clear c1 hO hT hc hkk KK z0 z1 z2 eB
    have q0 : Hid (Qw w w) := Lib.hid (Qw.refl w)
    show Calls Tryz.prog 88 #[.agg #[.int .i64 (o : Int), .int .i64 0, .slice (some ⟨b, off, none⟩) 1 cap]] w _
    go_enter Tryz.func88, Tryz.ntmps88
    go_upto_region 11 with fail
    refine code_of (fun w' => Qw w w' ∧ Bx w' w.heap.size #[.int .i64 (o : Int), .int .i64 0, .slice (some ⟨b, off, none⟩) 1 cap] 27) ⟨Qz, by repeat (first | exact Bx.new _ _ _ | refine Bx.alloc ?_ _ | refine Bx.drew ?_)⟩ ?_
    rintro w1 ⟨q1, B⟩
    have x0 := B.kcell 0 _ rfl
    have x2 := B.kcell 2 _ rfl
    have k0 : ∀ p : Kept w1, p.v.cell? ⟨b, off, none⟩ = some (.int .i64 op) := fun p => (World.cell?_of_block (w := w) ((q1.trans p.h).block _ bl)).trans y0
    have k1 : ∀ p : Kept w1, p.v.cell? ⟨b, off + 1, none⟩ = some (.int .i64 n) := fun p => (World.cell?_of_block (w := w) ((q1.trans p.h).block _ bl)).trans y1
    have k2 : ∀ p : Kept w1, p.v.cell? ⟨b, off + 2, none⟩ = some (.slice (ad 0) ks.length (cc 0)) := fun p => (World.cell?_of_block (w := w) ((q1.trans p.h).block _ bl)).trans y2
    have kg : ∀ p : Kept w1, p.v.cell? ⟨0, o * 2, none⟩ = some (.string (bs u)) := fun p => (World.cell?_of_block (w := w) ((q1.trans p.h).block _ gl)).trans g0
    have D1 : Hid (∀ p : Kept w1, Calls Tryz.prog 89 #[.agg #[.int .i64 op, .int .i64 n, .slice (ad 0) ks.length (cc 0)]] p.v fun e w' => e = .returned (.string (bs r)) ∧ Qw p.v w') := Lib.hid fun p => C1.out _ (q1.trans p.h)
    clear C1 y0 y1 y2 g0 q0
    refine region_kept (by kernel_rfl) (by kernel_rfl) ?_
    repeat (go_big_quiet_step (first | (go_at_call 89; with_reducible exact Kept.call (D1.out _))))
    refine wpQuiet_nil ?_
    intro w2 q
    go_wp2_with fail
    go_ret
    exact ⟨by rw [← EB.out]; rfl, q1.trans q⟩
set_option maxRecDepth 100000 in
set_option maxHeartbeats 4000000 in
theorem sx_closed_atan {op0 n0 op1 n1 : Int} {ks0 ks1 : List Sy.Ex} (l0 : (Sy.binb (.mk op0 n0 ks0)).length ≤ 1000000000000) (l1 : (Sy.binb (.mk op1 n1 ks1)).length ≤ 1000000000000)
    (h0 : WrC 89 (Sy.binb (.mk op0 n0 ks0)) op0 n0 ks0) (h1 : WrC 89 (Sy.binb (.mk op1 n1 ks1)) op1 n1 ks1) : WrC 88 (Sy.onm 11 ++ (Sy.binb (.mk op0 n0 ks0) ++ ([47] ++ Sy.binb (.mk op1 n1 ks1)))) 11 0 [.mk op0 n0 ks0, .mk op1 n1 ks1] := by
  intro a cap S w hO hT hk
  cases hk with
  | mk b off cap ks' ad cc hS hh1 hh2 hc hkk =>
    obtain ⟨z0, z1, z2⟩ := hc 0 (by simp)
    obtain ⟨z3, z4, z5⟩ := hc 1 (by simp)
    have KK := hkk 0 (by simp)
    have KL := hkk 1 (by simp)
    have c1 : ∀ w1, Qw w w1 → Calls Tryz.prog 89 #[.agg #[.int .i64 op0, .int .i64 n0, .slice (ad 0) ks0.length (cc 0)]] w1 fun e w' => e = .returned (.string (bs (Sy.binb (.mk op0 n0 ks0)))) ∧ Qw w1 w' := fun w1 q => h0 (ad 0) (cc 0) S w1 (hO.kept q) (hT.kept q) (KidsB.kept (ks := ks0) KK q)
    have c2 : ∀ w1, Qw w w1 → Calls Tryz.prog 89 #[.agg #[.int .i64 op1, .int .i64 n1, .slice (ad 1) ks1.length (cc 1)]] w1 fun e w' => e = .returned (.string (bs (Sy.binb (.mk op1 n1 ks1)))) ∧ Qw w1 w' := fun w1 q => h1 (ad 1) (cc 1) S w1 (hO.kept q) (hT.kept q) (KidsB.kept (ks := ks1) KL q)
    have eB : bs [65, 84, 65, 78] ++ bs (Sy.binb (.mk op0 n0 ks0)) ++ bs [47] ++ bs (Sy.binb (.mk op1 n1 ks1)) = bs (Sy.onm 11 ++ (Sy.binb (.mk op0 n0 ks0) ++ ([47] ++ Sy.binb (.mk op1 n1 ks1)))) := by simp only [bs_app, List.append_assoc]; rfl
    have hz1 : ¬ 9223372036854775807 < 4 + (bs (Sy.binb (.mk op0 n0 ks0))).size := by simp only [bs_size]; omega
    have hz2 : ¬ 9223372036854775807 < 4 + (bs (Sy.binb (.mk op0 n0 ks0))).size + 1 := by simp only [bs_size]; omega
    have hz3 : ¬ 9223372036854775807 < 4 + (bs (Sy.binb (.mk op0 n0 ks0))).size + 1 + (bs (Sy.binb (.mk op1 n1 ks1))).size := by simp only [bs_size]; omega
    clear l0 l1 h0 h1
    generalize Sy.binb (.mk op0 n0 ks0) = r at eB hz1 hz2 hz3 c1 ⊢
    generalize Sy.binb (.mk op1 n1 ks1) = s at eB hz3 c2 ⊢
    generalize Sy.onm 11 ++ (r ++ ([47] ++ s)) = r2 at eB ⊢
    have y0 : w.cell? ⟨b, off, none⟩ = some (.int .i64 op0) := by simpa [Sy.Ex.op] using z0
    have y1 : w.cell? ⟨b, off + 1, none⟩ = some (.int .i64 n0) := by simpa [Sy.Ex.n] using z1
    have y2 : w.cell? ⟨b, off + 2, none⟩ = some (.slice (ad 0) ks0.length (cc 0)) := by simpa [Sy.Ex.ks] using z2
    have y3 : w.cell? ⟨b, off + 3, none⟩ = some (.int .i64 op1) := by simpa [Sy.Ex.op] using z3
    have y4 : w.cell? ⟨b, off + 3 + 1, none⟩ = some (.int .i64 n1) := by simpa [Sy.Ex.n] using z4
    have y5 : w.cell? ⟨b, off + 3 + 2, none⟩ = some (.slice (ad 1) ks1.length (cc 1)) := by simpa [Sy.Ex.ks] using z5
    have bl := cell_lt z0
    have hne : b ≠ w.heap.size := by omega
    have C1 := Lib.hid c1
    have C2 := Lib.hid c2
    have EB := Lib.hid eB
    clear c1 c2 hO hT hc hkk KK KL z0 z1 z2 z3 z4 z5 eB
    have q0 : Hid (Qw w w) := Lib.hid (Qw.refl w)
    show Calls Tryz.prog 88 #[.agg #[.int .i64 11, .int .i64 0, .slice (some ⟨b, off, none⟩) 2 cap]] w _
    go_enter Tryz.func88, Tryz.ntmps88
    go_upto_region 7 with fail
    refine code_of (fun w' => Qw w w' ∧ Bx w' w.heap.size #[.int .i64 11, .int .i64 0, .slice (some ⟨b, off, none⟩) 2 cap] 27) ⟨Qz, by repeat (first | exact Bx.new _ _ _ | refine Bx.alloc ?_ _ | refine Bx.drew ?_)⟩ ?_
    rintro w1 ⟨q1, B⟩
    have x0 := B.kcell 0 _ rfl
    have x2 := B.kcell 2 _ rfl
    have k0 : ∀ p : Kept w1, p.v.cell? ⟨b, off, none⟩ = some (.int .i64 op0) := fun p => (World.cell?_of_block (w := w) ((q1.trans p.h).block _ bl)).trans y0
    have k1 : ∀ p : Kept w1, p.v.cell? ⟨b, off + 1, none⟩ = some (.int .i64 n0) := fun p => (World.cell?_of_block (w := w) ((q1.trans p.h).block _ bl)).trans y1
    have k2 : ∀ p : Kept w1, p.v.cell? ⟨b, off + 2, none⟩ = some (.slice (ad 0) ks0.length (cc 0)) := fun p => (World.cell?_of_block (w := w) ((q1.trans p.h).block _ bl)).trans y2
    have k3 : ∀ p : Kept w1, p.v.cell? ⟨b, off + 3, none⟩ = some (.int .i64 op1) := fun p => (World.cell?_of_block (w := w) ((q1.trans p.h).block _ bl)).trans y3
    have k4 : ∀ p : Kept w1, p.v.cell? ⟨b, off + 3 + 1, none⟩ = some (.int .i64 n1) := fun p => (World.cell?_of_block (w := w) ((q1.trans p.h).block _ bl)).trans y4
    have k5 : ∀ p : Kept w1, p.v.cell? ⟨b, off + 3 + 2, none⟩ = some (.slice (ad 1) ks1.length (cc 1)) := fun p => (World.cell?_of_block (w := w) ((q1.trans p.h).block _ bl)).trans y5
    have D1 : Hid (∀ p : Kept w1, Calls Tryz.prog 89 #[.agg #[.int .i64 op0, .int .i64 n0, .slice (ad 0) ks0.length (cc 0)]] p.v fun e w' => e = .returned (.string (bs r)) ∧ Qw p.v w') := Lib.hid fun p => C1.out _ (q1.trans p.h)
    have D2 : Hid (∀ p : Kept w1, Calls Tryz.prog 89 #[.agg #[.int .i64 op1, .int .i64 n1, .slice (ad 1) ks1.length (cc 1)]] p.v fun e w' => e = .returned (.string (bs s)) ∧ Qw p.v w') := Lib.hid fun p => C2.out _ (q1.trans p.h)
    clear C1 C2 y0 y1 y2 y3 y4 y5 q0
    refine region_kept (by kernel_rfl) (by kernel_rfl) ?_
    repeat (go_big_quiet_step (first | (go_at_call 89; with_reducible exact Kept.call (D1.out _)) | (go_at_call 89; with_reducible exact Kept.call (D2.out _))))
    refine wpQuiet_nil ?_
    intro w2 q
    go_wp2_with fail
    go_ret
    exact ⟨by rw [← EB.out]; rfl, q1.trans q⟩
set_option maxRecDepth 100000 in
set_option maxHeartbeats 4000000 in
theorem sx_printed_op {o : Nat} (ho : 2 < o) (h11 : o ≠ 11) (h26 : o < 26) {op0 n0 op1 n1 : Int} {ks0 ks1 : List Sy.Ex} (l0 : (Sy.bcl (.mk op0 n0 ks0)).length ≤ 1000000000000) (l1 : (Sy.bcl (.mk op1 n1 ks1)).length ≤ 1000000000000)
    (h0 : WrC 88 (Sy.bcl (.mk op0 n0 ks0)) op0 n0 ks0) (h1 : WrC 88 (Sy.bcl (.mk op1 n1 ks1)) op1 n1 ks1) : WrC 84 (Sy.bcl (.mk op0 n0 ks0) ++ ((32 :: Sy.onm o ++ [32]) ++ Sy.bcl (.mk op1 n1 ks1))) (o : Int) 0 [.mk op0 n0 ks0, .mk op1 n1 ks1] := by
  intro a cap S w hO hT hk
  cases hk with
  | mk b off cap ks' ad cc hS hh1 hh2 hc hkk =>
    obtain ⟨z0, z1, z2⟩ := hc 0 (by simp)
    obtain ⟨z3, z4, z5⟩ := hc 1 (by simp)
    have KK := hkk 0 (by simp)
    have KL := hkk 1 (by simp)
    have c1 : ∀ w1, Qw w w1 → Calls Tryz.prog 88 #[.agg #[.int .i64 op0, .int .i64 n0, .slice (ad 0) ks0.length (cc 0)]] w1 fun e w' => e = .returned (.string (bs (Sy.bcl (.mk op0 n0 ks0)))) ∧ Qw w1 w' := fun w1 q => h0 (ad 0) (cc 0) S w1 (hO.kept q) (hT.kept q) (KidsB.kept (ks := ks0) KK q)
    have c2 : ∀ w1, Qw w w1 → Calls Tryz.prog 88 #[.agg #[.int .i64 op1, .int .i64 n1, .slice (ad 1) ks1.length (cc 1)]] w1 fun e w' => e = .returned (.string (bs (Sy.bcl (.mk op1 n1 ks1)))) ∧ Qw w1 w' := fun w1 q => h1 (ad 1) (cc 1) S w1 (hO.kept q) (hT.kept q) (KidsB.kept (ks := ks1) KL q)
    have g0 := (hO.2 o h26).1
    have eB : bs (Sy.bcl (.mk op0 n0 ks0)) ++ bs [32] ++ bs (Sy.onm o) ++ bs [32] ++ bs (Sy.bcl (.mk op1 n1 ks1)) = bs (Sy.bcl (.mk op0 n0 ks0) ++ ((32 :: Sy.onm o ++ [32]) ++ Sy.bcl (.mk op1 n1 ks1))) := by simp only [bs_app, List.append_assoc]; rfl
    have lo := Sy.onm_len o h26
    have hz1 : ¬ 9223372036854775807 < (bs (Sy.bcl (.mk op0 n0 ks0))).size + 1 := by simp only [bs_size]; omega
    have hz2 : ¬ 9223372036854775807 < (bs (Sy.bcl (.mk op0 n0 ks0))).size + 1 + (bs (Sy.onm o)).size := by simp only [bs_size]; omega
    have hz3 : ¬ 9223372036854775807 < (bs (Sy.bcl (.mk op0 n0 ks0))).size + 1 + (bs (Sy.onm o)).size + 1 := by simp only [bs_size]; omega
    have hz4 : ¬ 9223372036854775807 < (bs (Sy.bcl (.mk op0 n0 ks0))).size + 1 + (bs (Sy.onm o)).size + 1 + (bs (Sy.bcl (.mk op1 n1 ks1))).size := by simp only [bs_size]; omega
    clear lo
    generalize Sy.onm o = u at eB hz2 hz3 hz4 g0 ⊢
    clear l0 l1 h0 h1
    generalize Sy.bcl (.mk op0 n0 ks0) = r at eB hz1 hz2 hz3 hz4 c1 ⊢
    generalize Sy.bcl (.mk op1 n1 ks1) = s at eB hz4 c2 ⊢
    generalize r ++ ((32 :: u ++ [32]) ++ s) = r2 at eB ⊢
    have y0 : w.cell? ⟨b, off, none⟩ = some (.int .i64 op0) := by simpa [Sy.Ex.op] using z0
    have y1 : w.cell? ⟨b, off + 1, none⟩ = some (.int .i64 n0) := by simpa [Sy.Ex.n] using z1
    have y2 : w.cell? ⟨b, off + 2, none⟩ = some (.slice (ad 0) ks0.length (cc 0)) := by simpa [Sy.Ex.ks] using z2
    have y3 : w.cell? ⟨b, off + 3, none⟩ = some (.int .i64 op1) := by simpa [Sy.Ex.op] using z3
    have y4 : w.cell? ⟨b, off + 3 + 1, none⟩ = some (.int .i64 n1) := by simpa [Sy.Ex.n] using z4
    have y5 : w.cell? ⟨b, off + 3 + 2, none⟩ = some (.slice (ad 1) ks1.length (cc 1)) := by simpa [Sy.Ex.ks] using z5
    have bl := cell_lt z0
    have hne : b ≠ w.heap.size := by omega
    have C1 := Lib.hid c1
    have C2 := Lib.hid c2
    have EB := Lib.hid eB
    have gl := cell_lt g0
    have hgne : 0 ≠ w.heap.size := by omega
    have d0 : ((o : Int) == 0) = false := beq_eq_false_iff_ne.2 (by omega)
    have d1 : ((o : Int) == 1) = false := beq_eq_false_iff_ne.2 (by omega)
    have d2 : ((o : Int) == 2) = false := beq_eq_false_iff_ne.2 (by omega)
    have d3 : ((o : Int) == 11) = false := beq_eq_false_iff_ne.2 (by omega)
    have o26 : (o : Int) < 26 := by omega
    clear c1 c2 hO hT hc hkk KK KL z0 z1 z2 z3 z4 z5 eB
    have q0 : Hid (Qw w w) := Lib.hid (Qw.refl w)
    show Calls Tryz.prog 84 #[.agg #[.int .i64 (o : Int), .int .i64 0, .slice (some ⟨b, off, none⟩) 2 cap]] w _
    go_enter Tryz.func84, Tryz.ntmps84
    go_upto_region 10 with fail
    refine code_of (fun w' => Qw w w' ∧ Bx w' w.heap.size #[.int .i64 (o : Int), .int .i64 0, .slice (some ⟨b, off, none⟩) 2 cap] 27) ⟨Qz, by repeat (first | exact Bx.new _ _ _ | refine Bx.alloc ?_ _ | refine Bx.drew ?_)⟩ ?_
    rintro w1 ⟨q1, B⟩
    have x0 := B.kcell 0 _ rfl
    have x2 := B.kcell 2 _ rfl
    have k0 : ∀ p : Kept w1, p.v.cell? ⟨b, off, none⟩ = some (.int .i64 op0) := fun p => (World.cell?_of_block (w := w) ((q1.trans p.h).block _ bl)).trans y0
    have k1 : ∀ p : Kept w1, p.v.cell? ⟨b, off + 1, none⟩ = some (.int .i64 n0) := fun p => (World.cell?_of_block (w := w) ((q1.trans p.h).block _ bl)).trans y1
    have k2 : ∀ p : Kept w1, p.v.cell? ⟨b, off + 2, none⟩ = some (.slice (ad 0) ks0.length (cc 0)) := fun p => (World.cell?_of_block (w := w) ((q1.trans p.h).block _ bl)).trans y2
    have k3 : ∀ p : Kept w1, p.v.cell? ⟨b, off + 3, none⟩ = some (.int .i64 op1) := fun p => (World.cell?_of_block (w := w) ((q1.trans p.h).block _ bl)).trans y3
    have k4 : ∀ p : Kept w1, p.v.cell? ⟨b, off + 3 + 1, none⟩ = some (.int .i64 n1) := fun p => (World.cell?_of_block (w := w) ((q1.trans p.h).block _ bl)).trans y4
    have k5 : ∀ p : Kept w1, p.v.cell? ⟨b, off + 3 + 2, none⟩ = some (.slice (ad 1) ks1.length (cc 1)) := fun p => (World.cell?_of_block (w := w) ((q1.trans p.h).block _ bl)).trans y5
    have D1 : Hid (∀ p : Kept w1, Calls Tryz.prog 88 #[.agg #[.int .i64 op0, .int .i64 n0, .slice (ad 0) ks0.length (cc 0)]] p.v fun e w' => e = .returned (.string (bs r)) ∧ Qw p.v w') := Lib.hid fun p => C1.out _ (q1.trans p.h)
    have D2 : Hid (∀ p : Kept w1, Calls Tryz.prog 88 #[.agg #[.int .i64 op1, .int .i64 n1, .slice (ad 1) ks1.length (cc 1)]] p.v fun e w' => e = .returned (.string (bs s)) ∧ Qw p.v w') := Lib.hid fun p => C2.out _ (q1.trans p.h)
    have kg : ∀ p : Kept w1, p.v.cell? ⟨0, o * 2, none⟩ = some (.string (bs u)) := fun p => (World.cell?_of_block (w := w) ((q1.trans p.h).block _ gl)).trans g0
    clear g0
    clear C1 C2 y0 y1 y2 y3 y4 y5 q0
    refine region_kept (by kernel_rfl) (by kernel_rfl) ?_
    repeat (go_big_quiet_step (first | (go_at_call 88; with_reducible exact Kept.call (D1.out _)) | (go_at_call 88; with_reducible exact Kept.call (D2.out _))))
    refine wpQuiet_nil ?_
    intro w2 q
    go_wp2_with fail
    go_ret
    exact ⟨by rw [← EB.out]; rfl, q1.trans q⟩
end Go.Proofs.YtbcbnkapipimmaaGreatDoor
set_option linter.unusedVariables false
set_option linter.unusedSimpArgs false
namespace Go.Proofs.YtbcbnkapipimmaaGreatDoor
open Go.RowKit
structure WrA (op n : Int) (ks : List Sy.Ex) : Prop where
  p : WrC 84 (Sy.bpr (.mk op n ks)) op n ks
  c : WrC 88 (Sy.bcl (.mk op n ks)) op n ks
  b : WrC 89 (Sy.binb (.mk op n ks)) op n ks
  v : WrC 90 (35 :: Sy.bce (.mk op n ks)) op n ks
theorem binb_len (x : Sy.Ex) : (Sy.binb x).length = (Sy.bpr x).length + 2 := by simp [Sy.binb]
theorem sx_mk {op n : Int} {ks : List Sy.Ex} (l : (Sy.bpr (.mk op n ks)).length ≤ 2000000 ∧ (Sy.bcl (.mk op n ks)).length ≤ 2000000) (hp : WrC 84 (Sy.bpr (.mk op n ks)) op n ks) (hc : WrC 88 (Sy.bcl (.mk op n ks)) op n ks) : WrA op n ks := by
  have hb := sw_inBrackets (by omega) hp
  exact ⟨hp, hc, hb, sw_variable (by omega) (by omega) hc hb⟩
theorem dpt_kid1 {op n : Int} {x : Sy.Ex} {d : Nat} (h : Sy.dpt (.mk op n [x]) ≤ d) : Sy.dpt x ≤ d := by
  rw [Sy.dpt_mk] at h
  simp [Sy.dmx] at h
  omega
theorem dpt_kid2 {op n : Int} {x y : Sy.Ex} {d : Nat} (h : Sy.dpt (.mk op n [x, y]) ≤ d) : Sy.dpt x ≤ d ∧ Sy.dpt y ≤ d := by
  rw [Sy.dpt_mk] at h
  simp [Sy.dmx] at h
  omega
theorem sx_all (x : Sy.Ex) : Sy.okx x = true → Sy.dpt x ≤ 16 → WrA x.op x.n x.ks := by
  induction x using Sy.Ex.ind with
  | h op n ks ih =>
    intro hok hd
    show WrA op n ks
    have hl := Sy.blen_16 hok hd
    have hF := Sy.form hok
    cases hF with
    | num n h0 h1 =>
      have hc := sw_closed_num h0 h1
      have e1 : Sy.bpr (.mk 0 n []) = Sy.bcl (.mk 0 n []) := by simp [Sy.bpr, Sy.bcl, Sy.bpc]
      refine sx_mk hl ?_ hc
      rw [e1]
      exact sw_printed_cl (o := 0) (.inl rfl) hc
    | un o x hx ho =>
      obtain ⟨op1, n1, ks1⟩ := x
      have hT : ((o : Int)).toNat = o := by omega
      have hd1 := dpt_kid1 hd
      have A := ih (.mk op1 n1 ks1) (by simp) hx hd1
      have hl1 := Sy.blen_16 hx hd1
      by_cases o1 : o = 1
      · subst o1
        have e1 : Sy.bpr (.mk ((1 : Nat) : Int) 0 [.mk op1 n1 ks1]) = 35 :: Sy.bce (.mk op1 n1 ks1) := by
          simp only [Sy.bpr, Sy.bpc, Sy.bce, Sy.smp, Sy.binb, Sy.bcl]; simp [Sy.bpr]
        have e2 : Sy.bcl (.mk ((1 : Nat) : Int) 0 [.mk op1 n1 ks1]) = 35 :: Sy.bce (.mk op1 n1 ks1) := by
          simp only [Sy.bcl, Sy.bpc, Sy.bce, Sy.smp, Sy.binb]; simp [Sy.bpr]
        have hc : WrC 88 (35 :: Sy.bce (.mk op1 n1 ks1)) ((1 : Nat) : Int) 0 [.mk op1 n1 ks1] := sw_closed_var A.v
        refine sx_mk hl ?_ ?_
        · rw [e1]; exact sw_printed_cl (.inr (.inl rfl)) hc
        · rw [e2]; exact hc
      · by_cases o2 : o = 2
        · subst o2
          have e1 : Sy.bpr (.mk ((2 : Nat) : Int) 0 [.mk op1 n1 ks1]) = 45 :: Sy.bcl (.mk op1 n1 ks1) := by simp [Sy.bpr, Sy.bcl, Sy.bpc]
          have e2 : Sy.bcl (.mk ((2 : Nat) : Int) 0 [.mk op1 n1 ks1]) = Sy.binb (.mk ((2 : Nat) : Int) 0 [.mk op1 n1 ks1]) := by unfold Sy.binb; rw [e1]; simp [Sy.bcl, Sy.bpc]
          have hp : WrC 84 (Sy.bpr (.mk ((2 : Nat) : Int) 0 [.mk op1 n1 ks1])) ((2 : Nat) : Int) 0 [.mk op1 n1 ks1] := by
            rw [e1]; exact sw_printed_neg (by omega) A.c
          refine sx_mk hl hp ?_
          rw [e2]
          exact sw_closed_in (.inl rfl) (sw_inBrackets (by omega) hp)
        · have e1 : Sy.bpr (.mk (o : Int) 0 [.mk op1 n1 ks1]) = Sy.onm o ++ Sy.binb (.mk op1 n1 ks1) := by
            unfold Sy.bpr; rw [Sy.bpc, if_neg (by omega), if_neg (by omega), hT]; simp [Sy.binb, Sy.bpr]
          have e2 : Sy.bcl (.mk (o : Int) 0 [.mk op1 n1 ks1]) = Sy.onm o ++ Sy.binb (.mk op1 n1 ks1) := by
            unfold Sy.bcl; rw [Sy.bpc, if_neg (by omega), if_neg (by omega), hT]; simp [Sy.binb, Sy.bpr]
          have b1 := binb_len (.mk op1 n1 ks1)
          have hc : WrC 88 (Sy.onm o ++ Sy.binb (.mk op1 n1 ks1)) (o : Int) 0 [.mk op1 n1 ks1] := sx_closed_fun (by omega) (by omega) (by omega) (by omega) A.b
          refine sx_mk hl ?_ ?_
          · rw [e1]; exact sw_printed_cl (.inr (.inr (.inr ⟨rfl, by omega, by omega⟩))) hc
          · rw [e2]; exact hc
    | bin o x y hx hy ho =>
      obtain ⟨op1, n1, ks1⟩ := x
      obtain ⟨op2, n2, ks2⟩ := y
      have hT : ((o : Int)).toNat = o := by omega
      obtain ⟨hd1, hd2⟩ := dpt_kid2 hd
      have A := ih (.mk op1 n1 ks1) (by simp) hx hd1
      have B := ih (.mk op2 n2 ks2) (by simp) hy hd2
      have hl1 := Sy.blen_16 hx hd1
      have hl2 := Sy.blen_16 hy hd2
      have b1 := binb_len (.mk op1 n1 ks1)
      have b2 := binb_len (.mk op2 n2 ks2)
      by_cases o11 : o = 11
      · subst o11
        have e1 : Sy.bpr (.mk ((11 : Nat) : Int) 0 [.mk op1 n1 ks1, .mk op2 n2 ks2]) = Sy.onm 11 ++ (Sy.binb (.mk op1 n1 ks1) ++ ([47] ++ Sy.binb (.mk op2 n2 ks2))) := by
          unfold Sy.bpr; rw [Sy.bpc, if_pos (show ((11 : Nat) : Int) = 11 from rfl)]; simp [Sy.binb, Sy.bpr]
        have e2 : Sy.bcl (.mk ((11 : Nat) : Int) 0 [.mk op1 n1 ks1, .mk op2 n2 ks2]) = Sy.onm 11 ++ (Sy.binb (.mk op1 n1 ks1) ++ ([47] ++ Sy.binb (.mk op2 n2 ks2))) := by
          unfold Sy.bcl; rw [Sy.bpc, if_pos (show ((11 : Nat) : Int) = 11 from rfl)]; simp [Sy.binb, Sy.bpr]
        have hc : WrC 88 (Sy.onm 11 ++ (Sy.binb (.mk op1 n1 ks1) ++ ([47] ++ Sy.binb (.mk op2 n2 ks2)))) ((11 : Nat) : Int) 0 [.mk op1 n1 ks1, .mk op2 n2 ks2] := sx_closed_atan (by omega) (by omega) A.b B.b
        refine sx_mk hl ?_ ?_
        · rw [e1]; exact sw_printed_cl (.inr (.inr (.inl rfl))) hc
        · rw [e2]; exact hc
      · have e1 : Sy.bpr (.mk (o : Int) 0 [.mk op1 n1 ks1, .mk op2 n2 ks2]) = Sy.bcl (.mk op1 n1 ks1) ++ ((32 :: Sy.onm o ++ [32]) ++ Sy.bcl (.mk op2 n2 ks2)) := by
          unfold Sy.bpr; rw [Sy.bpc, if_neg (by omega), hT]; simp [Sy.bcl]
        have e2 : Sy.bcl (.mk (o : Int) 0 [.mk op1 n1 ks1, .mk op2 n2 ks2]) = Sy.binb (.mk (o : Int) 0 [.mk op1 n1 ks1, .mk op2 n2 ks2]) := by
          unfold Sy.binb; rw [e1]; unfold Sy.bcl; rw [Sy.bpc, if_neg (by omega), hT]; simp [Sy.bcl]
        have hp : WrC 84 (Sy.bpr (.mk (o : Int) 0 [.mk op1 n1 ks1, .mk op2 n2 ks2])) (o : Int) 0 [.mk op1 n1 ks1, .mk op2 n2 ks2] := by
          rw [e1]; exact sx_printed_op (by omega) (by omega) (by omega) (by omega) (by omega) A.c B.c
        refine sx_mk hl hp ?_
        rw [e2]
        exact sw_closed_in (.inr ⟨rfl, by omega, by omega⟩) (sw_inBrackets (by omega) hp)
end Go.Proofs.YtbcbnkapipimmaaGreatDoor
set_option linter.unusedVariables false
set_option linter.unusedSimpArgs false
namespace Go.Proofs.YtbcbnkapipimmaaGreatDoor
open Go.RowKit
theorem sx_valued_simple {op n : Int} {ks : List Sy.Ex} (hs : (decide (op = 0) || decide (op = 1)) = true) (h : WrC 88 (Sy.bcl (.mk op n ks)) op n ks) : WrC 54 (Sy.bcl (.mk op n ks)) op n ks := by
  intro a cap S w hO hT hk
  obtain ⟨m1, m2⟩ := hk.cap
  have cs := fun w1 => sw_simple op n ks.length a cap m1 m2 w1
  have c1 := fun w1 (h1 : Ow w1) (h2 : Tb w1) (h3 : KidsB w1 S a cap ks) => h a cap S w1 h1 h2 h3
  rw [hs] at cs
  generalize Sy.bcl (.mk op n ks) = r at c1
  have CS := Lib.hid cs
  have C1 := Lib.hid c1
  have HO := Lib.hid hO
  have HT := Lib.hid hT
  have HK := Lib.hid hk
  clear cs c1 hO hT hk h hs
  have q0 : Hid (Qw w w) := Lib.hid (Qw.refl w)
  go_enter Tryz.func54, Tryz.ntmps54
  go_wp2_with (first
    | (go_at_call 87; ((with_reducible refine (CS.out _).mono ?_); rintro e w' ⟨rfl, q⟩; have HB : Hid (Bx w' w.heap.size #[.int .i64 op, .int .i64 n, .slice a ks.length cap] 27) := Lib.hid (Bx.kept (by repeat (first | exact Bx.new _ _ _ | exact HB.out | refine Bx.alloc ?_ _ | refine Bx.drew ?_)) q); have x0 := HB.out.cell' 0 _ rfl; have x1 := HB.out.cell' 1 _ rfl; have x2 := HB.out.cell' 2 _ rfl; replace q0 : Hid (Qw w w') := Lib.hid (Qw.trans Qz q); clear q))
    | (go_at_call 88; ((with_reducible refine (C1.out _ (Ow.kept HO.out Qz) (Tb.kept HT.out Qz) (KidsB.kept HK.out Qz)).mono ?_); rintro e w' ⟨rfl, q⟩; replace q0 : Hid (Qw w w') := Lib.hid (Qw.trans Qz q); clear q)))
  go_ret
  exact ⟨rfl, q0.out⟩
theorem sx_valued_other {op n : Int} {ks : List Sy.Ex} (h0 : op ≠ 0) (h1 : op ≠ 1) (h2 : op ≠ 2) (h : WrC 89 (Sy.binb (.mk op n ks)) op n ks) : WrC 54 (Sy.binb (.mk op n ks)) op n ks := by
  intro a cap S w hO hT hk
  obtain ⟨m1, m2⟩ := hk.cap
  have cs := fun w1 => sw_simple op n ks.length a cap m1 m2 w1
  have c1 := fun w1 (h1 : Ow w1) (h2 : Tb w1) (h3 : KidsB w1 S a cap ks) => h a cap S w1 h1 h2 h3
  rw [show (decide (op = 0) || decide (op = 1)) = false by simp [h0, h1]] at cs
  have d2 : (op == 2) = false := beq_eq_false_iff_ne.2 h2
  generalize Sy.binb (.mk op n ks) = r at c1
  have CS := Lib.hid cs
  have C1 := Lib.hid c1
  have HO := Lib.hid hO
  have HT := Lib.hid hT
  have HK := Lib.hid hk
  clear cs c1 hO hT hk h h0 h1 h2
  have q0 : Hid (Qw w w) := Lib.hid (Qw.refl w)
  go_enter Tryz.func54, Tryz.ntmps54
  go_wp2_with (first
    | (go_at_call 87; ((with_reducible refine (CS.out _).mono ?_); rintro e w' ⟨rfl, q⟩; have HB : Hid (Bx w' w.heap.size #[.int .i64 op, .int .i64 n, .slice a ks.length cap] 27) := Lib.hid (Bx.kept (by repeat (first | exact Bx.new _ _ _ | exact HB.out | refine Bx.alloc ?_ _ | refine Bx.drew ?_)) q); have x0 := HB.out.cell' 0 _ rfl; have x1 := HB.out.cell' 1 _ rfl; have x2 := HB.out.cell' 2 _ rfl; replace q0 : Hid (Qw w w') := Lib.hid (Qw.trans Qz q); clear q))
    | (go_at_call 89; ((with_reducible refine (C1.out _ (Ow.kept HO.out Qz) (Tb.kept HT.out Qz) (KidsB.kept HK.out Qz)).mono ?_); rintro e w' ⟨rfl, q⟩; replace q0 : Hid (Qw w w') := Lib.hid (Qw.trans Qz q); clear q)))
  go_ret
  exact ⟨rfl, q0.out⟩
theorem sx_valued_neg {op n : Int} {ks : List Sy.Ex} (hs : (decide (op = 0) || decide (op = 1)) = true) (l1 : (Sy.bcl (.mk op n ks)).length ≤ 1000000000000) (h : WrC 88 (Sy.bcl (.mk op n ks)) op n ks) : WrC 54 (45 :: Sy.bcl (.mk op n ks)) 2 0 [.mk op n ks] := by
  intro a cap S w hO hT hk
  have hk0 := hk
  cases hk with
  | mk b off cap ks' ad cc hS h1 h2 hc hkk =>
    obtain ⟨z0, z1, z2⟩ := hc 0 (by simp)
    have KK := hkk 0 (by simp)
    have KL : KidsB w S (ad 0) (cc 0) ks := KK
    obtain ⟨m1, m2⟩ := KL.cap
    have cs := fun w1 => sw_simple 2 0 1 (some ⟨b, off, none⟩) cap h1 h2 w1
    have ct := fun w1 => sw_simple op n ks.length (ad 0) (cc 0) m1 m2 w1
    rw [show (decide ((2 : Int) = 0) || decide ((2 : Int) = 1)) = false by decide] at cs
    rw [hs] at ct
    have c1 := fun w1 (h1 : Ow w1) (h2 : Tb w1) (h3 : KidsB w1 S (ad 0) (cc 0) ks) => h (ad 0) (cc 0) S w1 h1 h2 h3
    have eB : bs [45] ++ bs (Sy.bcl (.mk op n ks)) = bs (45 :: Sy.bcl (.mk op n ks)) := by rw [bs_app]; rfl
    have hz1 : ¬ 9223372036854775807 < 1 + (bs (Sy.bcl (.mk op n ks))).size := by rw [bs_size]; omega
    generalize 45 :: Sy.bcl (.mk op n ks) = r2 at eB ⊢
    clear l1 h
    generalize Sy.bcl (.mk op n ks) = r at c1 eB hz1
    have EB := Lib.hid eB
    clear eB
    have y0 : w.cell? ⟨b, off, none⟩ = some (.int .i64 op) := by simpa [Sy.Ex.op] using z0
    have y1 : w.cell? ⟨b, off + 1, none⟩ = some (.int .i64 n) := by simpa [Sy.Ex.n] using z1
    have y2 : w.cell? ⟨b, off + 2, none⟩ = some (.slice (ad 0) ks.length (cc 0)) := by simpa [Sy.Ex.ks] using z2
    have bl := cell_lt z0
    have Y0 := Lib.hid y0
    have Y1 := Lib.hid y1
    have Y2 := Lib.hid y2
    have hne : b ≠ w.heap.size := by omega
    have CS := Lib.hid cs
    have CT := Lib.hid ct
    have C1 := Lib.hid c1
    have HO := Lib.hid hO
    have HT := Lib.hid hT
    have HK : Hid (KidsB w S (ad 0) (cc 0) ks) := Lib.hid KK
    clear cs ct c1 hO hT hc hkk KK KL z0 z1 z2 hk0 y0 y1 y2 hs m1 m2
    have q0 : Hid (Qw w w) := Lib.hid (Qw.refl w)
    show Calls Tryz.prog 54 #[.agg #[.int .i64 2, .int .i64 0, .slice (some ⟨b, off, none⟩) 1 cap]] w _
    go_enter Tryz.func54, Tryz.ntmps54
    go_wp2_with (first
      | (go_at_call 87; ((with_reducible refine (CS.out _).mono ?_); rintro e w' ⟨rfl, q⟩; have HB : Hid (Bx w' w.heap.size #[.int .i64 2, .int .i64 0, .slice (some ⟨b, off, none⟩) 1 cap] 27) := Lib.hid (Bx.kept (by repeat (first | exact Bx.new _ _ _ | exact HB.out | refine Bx.alloc ?_ _ | refine Bx.drew ?_)) q); have x0 := HB.out.cell' 0 _ rfl; have x1 := HB.out.cell' 1 _ rfl; have x2 := HB.out.cell' 2 _ rfl; have y0 := (World.cell?_of_block (w := w) ((Qw.trans Qz q).block b bl)).trans Y0.out; have y1 := (World.cell?_of_block (w := w) ((Qw.trans Qz q).block b bl)).trans Y1.out; have y2 := (World.cell?_of_block (w := w) ((Qw.trans Qz q).block b bl)).trans Y2.out; replace q0 : Hid (Qw w w') := Lib.hid (Qw.trans Qz q); clear q))
      | (go_at_call 87; ((with_reducible refine (CT.out _).mono ?_); rintro e w' ⟨rfl, q⟩; have HB : Hid (Bx w' w.heap.size #[.int .i64 2, .int .i64 0, .slice (some ⟨b, off, none⟩) 1 cap] 27) := Lib.hid (Bx.kept (by repeat (first | exact Bx.new _ _ _ | exact HB.out | refine Bx.alloc ?_ _ | refine Bx.drew ?_)) q); have x0 := HB.out.cell' 0 _ rfl; have x1 := HB.out.cell' 1 _ rfl; have x2 := HB.out.cell' 2 _ rfl; have y0 := (World.cell?_of_block (w := w) ((Qw.trans Qz q).block b bl)).trans Y0.out; have y1 := (World.cell?_of_block (w := w) ((Qw.trans Qz q).block b bl)).trans Y1.out; have y2 := (World.cell?_of_block (w := w) ((Qw.trans Qz q).block b bl)).trans Y2.out; replace q0 : Hid (Qw w w') := Lib.hid (Qw.trans Qz q); clear q))
      | (go_at_call 88; ((with_reducible refine (C1.out _ (Ow.kept HO.out Qz) (Tb.kept HT.out Qz) (KidsB.kept HK.out Qz)).mono ?_); rintro e w' ⟨rfl, q⟩; replace q0 : Hid (Qw w w') := Lib.hid (Qw.trans Qz q); clear q)))
    go_ret
    exact ⟨by rw [← EB.out]; rfl, q0.out⟩
theorem sx_valued_neg2 {op n : Int} {ks : List Sy.Ex} (hs : (decide (op = 0) || decide (op = 1)) = false) (h : WrC 89 (Sy.binb (.mk 2 0 [.mk op n ks])) 2 0 [.mk op n ks]) : WrC 54 (Sy.binb (.mk 2 0 [.mk op n ks])) 2 0 [.mk op n ks] := by
  intro a cap S w hO hT hk
  have hk0 := hk
  cases hk with
  | mk b off cap ks' ad cc hS h1 h2 hc hkk =>
    obtain ⟨z0, z1, z2⟩ := hc 0 (by simp)
    have KK := hkk 0 (by simp)
    have KL : KidsB w S (ad 0) (cc 0) ks := KK
    obtain ⟨m1, m2⟩ := KL.cap
    have cs := fun w1 => sw_simple 2 0 1 (some ⟨b, off, none⟩) cap h1 h2 w1
    have ct := fun w1 => sw_simple op n ks.length (ad 0) (cc 0) m1 m2 w1
    rw [show (decide ((2 : Int) = 0) || decide ((2 : Int) = 1)) = false by decide] at cs
    rw [hs] at ct
    have c1 : ∀ w1, Ow w1 → Tb w1 → KidsB w1 S (some ⟨b, off, none⟩) cap [.mk op n ks] → Calls Tryz.prog 89 #[.agg #[.int .i64 2, .int .i64 0, .slice (some ⟨b, off, none⟩) 1 cap]] w1 fun e w' => e = .returned (.string (bs (Sy.binb (.mk 2 0 [.mk op n ks])))) ∧ Qw w1 w' := fun w1 h1 h2 h3 => h (some ⟨b, off, none⟩) cap S w1 h1 h2 h3
    generalize Sy.binb (.mk 2 0 [.mk op n ks]) = r at c1
    clear h
    have y0 : w.cell? ⟨b, off, none⟩ = some (.int .i64 op) := by simpa [Sy.Ex.op] using z0
    have y1 : w.cell? ⟨b, off + 1, none⟩ = some (.int .i64 n) := by simpa [Sy.Ex.n] using z1
    have y2 : w.cell? ⟨b, off + 2, none⟩ = some (.slice (ad 0) ks.length (cc 0)) := by simpa [Sy.Ex.ks] using z2
    have bl := cell_lt z0
    have Y0 := Lib.hid y0
    have Y1 := Lib.hid y1
    have Y2 := Lib.hid y2
    have hne : b ≠ w.heap.size := by omega
    have CS := Lib.hid cs
    have CT := Lib.hid ct
    have C1 := Lib.hid c1
    have HO := Lib.hid hO
    have HT := Lib.hid hT
    have HK := Lib.hid hk0
    clear cs ct c1 hO hT hc hkk KK KL z0 z1 z2 hk0 y0 y1 y2 hs m1 m2
    have q0 : Hid (Qw w w) := Lib.hid (Qw.refl w)
    show Calls Tryz.prog 54 #[.agg #[.int .i64 2, .int .i64 0, .slice (some ⟨b, off, none⟩) 1 cap]] w _
    go_enter Tryz.func54, Tryz.ntmps54
    go_wp2_with (first
      | (go_at_call 87; ((with_reducible refine (CS.out _).mono ?_); rintro e w' ⟨rfl, q⟩; have HB : Hid (Bx w' w.heap.size #[.int .i64 2, .int .i64 0, .slice (some ⟨b, off, none⟩) 1 cap] 27) := Lib.hid (Bx.kept (by repeat (first | exact Bx.new _ _ _ | exact HB.out | refine Bx.alloc ?_ _ | refine Bx.drew ?_)) q); have x0 := HB.out.cell' 0 _ rfl; have x1 := HB.out.cell' 1 _ rfl; have x2 := HB.out.cell' 2 _ rfl; have y0 := (World.cell?_of_block (w := w) ((Qw.trans Qz q).block b bl)).trans Y0.out; have y1 := (World.cell?_of_block (w := w) ((Qw.trans Qz q).block b bl)).trans Y1.out; have y2 := (World.cell?_of_block (w := w) ((Qw.trans Qz q).block b bl)).trans Y2.out; replace q0 : Hid (Qw w w') := Lib.hid (Qw.trans Qz q); clear q))
      | (go_at_call 87; ((with_reducible refine (CT.out _).mono ?_); rintro e w' ⟨rfl, q⟩; have HB : Hid (Bx w' w.heap.size #[.int .i64 2, .int .i64 0, .slice (some ⟨b, off, none⟩) 1 cap] 27) := Lib.hid (Bx.kept (by repeat (first | exact Bx.new _ _ _ | exact HB.out | refine Bx.alloc ?_ _ | refine Bx.drew ?_)) q); have x0 := HB.out.cell' 0 _ rfl; have x1 := HB.out.cell' 1 _ rfl; have x2 := HB.out.cell' 2 _ rfl; have y0 := (World.cell?_of_block (w := w) ((Qw.trans Qz q).block b bl)).trans Y0.out; have y1 := (World.cell?_of_block (w := w) ((Qw.trans Qz q).block b bl)).trans Y1.out; have y2 := (World.cell?_of_block (w := w) ((Qw.trans Qz q).block b bl)).trans Y2.out; replace q0 : Hid (Qw w w') := Lib.hid (Qw.trans Qz q); clear q))
      | (go_at_call 89; ((with_reducible refine (C1.out _ (Ow.kept HO.out Qz) (Tb.kept HT.out Qz) (KidsB.kept HK.out Qz)).mono ?_); rintro e w' ⟨rfl, q⟩; replace q0 : Hid (Qw w w') := Lib.hid (Qw.trans Qz q); clear q)))
    go_ret
    exact ⟨rfl, q0.out⟩
theorem sx_valued (x : Sy.Ex) (hok : Sy.okx x = true) (hd : Sy.dpt x ≤ 16) : WrC 54 (Sy.bva x) x.op x.n x.ks := by
  obtain ⟨op, n, ks⟩ := x
  have A := sx_all (.mk op n ks) hok hd
  show WrC 54 (Sy.bva (.mk op n ks)) op n ks
  have eS : Sy.smp (.mk op n ks) = (decide (op = 0) || decide (op = 1)) := rfl
  cases hs : (decide (op = 0) || decide (op = 1)) with
  | true =>
    unfold Sy.bva; rw [eS, hs, if_pos rfl]
    exact sx_valued_simple hs A.c
  | false =>
    simp at hs
    by_cases h2 : op = 2
    · have hF := Sy.form hok
      obtain ⟨k, hk1, hk2⟩ : ∃ k, Sy.Ex.mk op n ks = .mk 2 0 [k] ∧ Sy.okx k = true := by
        generalize hx : Sy.Ex.mk op n ks = x at hF
        cases hF with
        | num n h0 h1 => cases hx; exact absurd rfl hs.1
        | un o x hx1 ho => cases hx; exact ⟨x, by rw [show ((o : Int)) = 2 from h2]; rfl, hx1⟩
        | bin o x y hx1 hy1 ho => cases hx; omega
      obtain ⟨op1, n1, ks1⟩ := k
      cases hk1
      have hd1 := dpt_kid1 hd
      have B := sx_all (.mk op1 n1 ks1) hk2 hd1
      have hl := Sy.blen_16 hk2 hd1
      have eT : Sy.smp (.mk 2 0 [.mk op1 n1 ks1]) = false := rfl
      unfold Sy.bva
      rw [eT, if_neg (by decide)]
      cases h3 : (decide (op1 = 0) || decide (op1 = 1)) with
      | true =>
        have eS : Sy.smp (.mk op1 n1 ks1) = true := h3
        simp only [eS]
        exact sx_valued_neg h3 (by omega) B.c
      | false =>
        have eS : Sy.smp (.mk op1 n1 ks1) = false := h3
        simp only [eS]
        exact sx_valued_neg2 h3 A.b
    · have e : Sy.bva (.mk op n ks) = Sy.binb (.mk op n ks) := by
        unfold Sy.bva
        rw [eS, if_neg (by simp [hs])]
        split
        · rename_i o k he; cases he; exact absurd rfl h2
        · rfl
      rw [e]
      exact sx_valued_other hs.1 hs.2 h2 A.b
end Go.Proofs.YtbcbnkapipimmaaGreatDoor

