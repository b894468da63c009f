import Derived.Test.YtbcbnkapipimmaaGreatDoorZRg4
import Derived.Test.YtbcbnkapipimmaaGreatDoorZRg19
import Derived.Test.YtbcbnkapipimmaaGreatDoorZRg21
import Derived.Test.YtbcbnkapipimmaaGreatDoorZRg22
import Derived.Test.YtbcbnkapipimmaaGreatDoorZRg23
import Derived.Deep.Cut
import Derived.Deep.Slices
import Derived.Lib.SmallJoins
set_option linter.unusedVariables false
set_option linter.unusedSimpArgs false
namespace Go.Proofs.YtbcbnkapipimmaaGreatDoor
open Go.RowKit
set_option maxRecDepth 100000 in
set_option maxHeartbeats 4000000 in
theorem rw_closed_fun {op0 n0 : Int} {ks0 : List Sy.Ex} {r : List UInt8} {o : Nat} (ho : 8 ≤ o) (ho' : o ≤ 16) (h11 : o ≠ 11) (lr : r.length ≤ 1000000000000) (h0 : WrC 38 r op0 n0 ks0) : WrC 71 (Sy.onm o ++ (91 :: r ++ [93])) (o : Int) 0 [.mk op0 n0 ks0] := by
  intro a cap S w hO hT hk
  cases hk with
  | mk b off cap ks' ad cc hS hh1 hh2 hc hkk =>
    obtain ⟨z0, z1, z2⟩ := hc 0 (by simp)
    have KK := hkk 0 (by simp)
    have c1 : ∀ w1, Qw w w1 → Calls Tryz.prog 38 #[.agg #[.int .i64 op0, .int .i64 n0, .slice (ad 0) ks0.length (cc 0)]] w1 fun e w' => e = .returned (.string (bs r)) ∧ Qw w1 w' := fun w1 q => h0 (ad 0) (cc 0) S w1 (hO.kept q) (hT.kept q) (KidsB.kept (ks := ks0) KK q)
    have eB : bs (Sy.onm o) ++ bs [91] ++ bs r ++ bs [93] = bs (Sy.onm o ++ (91 :: r ++ [93])) := by simp only [bs_app, List.append_assoc, List.cons_append, List.nil_append]; try rfl
    have lo := Sy.onm_len o (by omega)
    have sg : ∀ w1, Qw w w1 → Calls Tryz.prog 73 #[.int .i64 (o : Int)] w1 fun e w' => e = .returned (.string (bs (Sy.onm o))) ∧ Qw w1 w' := fun w1 _ => rw_sign o (by omega) (by omega) w1
    have hz1 : ¬ 9223372036854775807 < (bs (Sy.onm o)).size + 1 := by simp only [bs_size]; omega
    have hz2 : ¬ 9223372036854775807 < (bs (Sy.onm o)).size + 1 + (bs r).size := by simp only [bs_size]; omega
    have hz3 : ¬ 9223372036854775807 < (bs (Sy.onm o)).size + 1 + (bs r).size + 1 := by simp only [bs_size]; omega
    generalize Sy.onm o ++ (91 :: r ++ [93]) = r2 at eB ⊢
    clear lo
    generalize Sy.onm o = u at *
    have e0 : ((o : Int) == 0) = false := beq_eq_false_iff_ne.2 (by omega)
    have e1 : ((o : Int) == 1) = false := beq_eq_false_iff_ne.2 (by omega)
    have e11 : ((o : Int) == 11) = false := beq_eq_false_iff_ne.2 (by omega)
    have g8 : (8 : Int) ≤ (o : Int) := by omega
    have g16 : (o : Int) ≤ 16 := by omega
    clear ho ho' h11
    have y0 : w.cell? ⟨b, off, none⟩ = some (.int .i64 op0) := by simpa [Sy.Ex.op] using z0
    have y1 : w.cell? ⟨b, off + 1, none⟩ = some (.int .i64 n0) := by simpa [Sy.Ex.n] using z1
    have y2 : w.cell? ⟨b, off + 2, none⟩ = some (.slice (ad 0) ks0.length (cc 0)) := by simpa [Sy.Ex.ks] using z2
    have bl := cell_lt z0
    have hne : b ≠ w.heap.size := by omega
    have C1 := Lib.hid c1
    have EB := Lib.hid eB
    have SG := Lib.hid sg
    clear c1 hO hT hc hkk KK z0 z1 z2 eB h0 lr sg
    have q0 : Hid (Qw w w) := Lib.hid (Qw.refl w)
    show Calls Tryz.prog 71 #[.agg #[.int .i64 (o : Int), .int .i64 0, .slice (some ⟨b, off, none⟩) 1 cap]] w _
    go_enter Tryz.func71, Tryz.ntmps71
    go_upto_region 8 with fail
    refine code_of (fun w' => Qw w w' ∧ Bx w' w.heap.size #[.int .i64 (o : Int), .int .i64 0, .slice (some ⟨b, off, none⟩) 1 cap] 27) ⟨Qz, by repeat (first | exact Bx.new _ _ _ | refine Bx.alloc ?_ _ | refine Bx.drew ?_)⟩ ?_
    rintro w1 ⟨q1, B⟩
    have x0 := B.kcell 0 _ rfl
    have x2 := B.kcell 2 _ rfl
    have k0 : ∀ p : Kept w1, p.v.cell? ⟨b, off, none⟩ = some (.int .i64 op0) := fun p => (World.cell?_of_block (w := w) ((q1.trans p.h).block _ bl)).trans y0
    have k1 : ∀ p : Kept w1, p.v.cell? ⟨b, off + 1, none⟩ = some (.int .i64 n0) := fun p => (World.cell?_of_block (w := w) ((q1.trans p.h).block _ bl)).trans y1
    have k2 : ∀ p : Kept w1, p.v.cell? ⟨b, off + 2, none⟩ = some (.slice (ad 0) ks0.length (cc 0)) := fun p => (World.cell?_of_block (w := w) ((q1.trans p.h).block _ bl)).trans y2
    have D1 : Hid (∀ p : Kept w1, Calls Tryz.prog 38 #[.agg #[.int .i64 op0, .int .i64 n0, .slice (ad 0) ks0.length (cc 0)]] p.v fun e w' => e = .returned (.string (bs r)) ∧ Qw p.v w') := Lib.hid fun p => C1.out _ (q1.trans p.h)
    have D3 : Hid (∀ p : Kept w1, Calls Tryz.prog 73 #[.int .i64 (o : Int)] p.v fun e w' => e = .returned (.string (bs u)) ∧ Qw p.v w') := Lib.hid fun p => SG.out _ (q1.trans p.h)
    clear C1 y0 y1 y2 q0 SG
    refine region_kept (by kernel_rfl) (by kernel_rfl) ?_
    repeat (go_big_quiet_step (first | (go_at_call 38; with_reducible exact Kept.call (D1.out _)) | (go_at_call 73; with_reducible exact Kept.call (D3.out _))))
    refine wpQuiet_nil ?_
    intro w2 q
    go_wp2_with fail
    go_ret
    exact ⟨by rw [← EB.out]; rfl, q1.trans q⟩
set_option maxRecDepth 100000 in
set_option maxHeartbeats 4000000 in
theorem rw_closed_atan {op0 n0 op1 n1 : Int} {ks0 ks1 : List Sy.Ex} {r s : List UInt8}  (lr : r.length ≤ 1000000000000) (ls : s.length ≤ 1000000000000) (h0 : WrC 38 r op0 n0 ks0) (h1 : WrC 38 s op1 n1 ks1) : WrC 71 (Sy.onm 11 ++ ((91 :: r ++ [93]) ++ ([47] ++ (91 :: s ++ [93])))) 11 0 [.mk op0 n0 ks0, .mk op1 n1 ks1] := by
  intro a cap S w hO hT hk
  cases hk with
  | mk b off cap ks' ad cc hS hh1 hh2 hc hkk =>
    obtain ⟨z0, z1, z2⟩ := hc 0 (by simp)
    obtain ⟨z3, z4, z5⟩ := hc 1 (by simp)
    have KK := hkk 0 (by simp)
    have KL := hkk 1 (by simp)
    have c1 : ∀ w1, Qw w w1 → Calls Tryz.prog 38 #[.agg #[.int .i64 op0, .int .i64 n0, .slice (ad 0) ks0.length (cc 0)]] w1 fun e w' => e = .returned (.string (bs r)) ∧ Qw w1 w' := fun w1 q => h0 (ad 0) (cc 0) S w1 (hO.kept q) (hT.kept q) (KidsB.kept (ks := ks0) KK q)
    have c2 : ∀ w1, Qw w w1 → Calls Tryz.prog 38 #[.agg #[.int .i64 op1, .int .i64 n1, .slice (ad 1) ks1.length (cc 1)]] w1 fun e w' => e = .returned (.string (bs s)) ∧ Qw w1 w' := fun w1 q => h1 (ad 1) (cc 1) S w1 (hO.kept q) (hT.kept q) (KidsB.kept (ks := ks1) KL q)
    have eB : bs [65, 84, 65, 78, 91] ++ bs r ++ bs [93, 47, 91] ++ bs s ++ bs [93] = bs (Sy.onm 11 ++ ((91 :: r ++ [93]) ++ ([47] ++ (91 :: s ++ [93])))) := by simp only [bs_app, List.append_assoc, List.cons_append, List.nil_append]; try rfl
    have hz1 : ¬ 9223372036854775807 < 5 + (bs r).size := by simp only [bs_size]; omega
    have hz2 : ¬ 9223372036854775807 < 5 + (bs r).size + 3 := by simp only [bs_size]; omega
    have hz3 : ¬ 9223372036854775807 < 5 + (bs r).size + 3 + (bs s).size := by simp only [bs_size]; omega
    have hz4 : ¬ 9223372036854775807 < 5 + (bs r).size + 3 + (bs s).size + 1 := by simp only [bs_size]; omega
    generalize Sy.onm 11 ++ ((91 :: r ++ [93]) ++ ([47] ++ (91 :: s ++ [93]))) = r2 at eB ⊢
    have y0 : w.cell? ⟨b, off, none⟩ = some (.int .i64 op0) := by simpa [Sy.Ex.op] using z0
    have y1 : w.cell? ⟨b, off + 1, none⟩ = some (.int .i64 n0) := by simpa [Sy.Ex.n] using z1
    have y2 : w.cell? ⟨b, off + 2, none⟩ = some (.slice (ad 0) ks0.length (cc 0)) := by simpa [Sy.Ex.ks] using z2
    have y3 : w.cell? ⟨b, off + 3, none⟩ = some (.int .i64 op1) := by simpa [Sy.Ex.op] using z3
    have y4 : w.cell? ⟨b, off + 3 + 1, none⟩ = some (.int .i64 n1) := by simpa [Sy.Ex.n] using z4
    have y5 : w.cell? ⟨b, off + 3 + 2, none⟩ = some (.slice (ad 1) ks1.length (cc 1)) := by simpa [Sy.Ex.ks] using z5
    have bl := cell_lt z0
    have hne : b ≠ w.heap.size := by omega
    have C1 := Lib.hid c1
    have C2 := Lib.hid c2
    have EB := Lib.hid eB
    clear c1 hO hT hc hkk KK z0 z1 z2 eB h0 lr c2 KL z3 z4 z5 h1 ls
    have q0 : Hid (Qw w w) := Lib.hid (Qw.refl w)
    show Calls Tryz.prog 71 #[.agg #[.int .i64 11, .int .i64 0, .slice (some ⟨b, off, none⟩) 2 cap]] w _
    go_enter Tryz.func71, Tryz.ntmps71
    go_upto_region 6 with fail
    refine code_of (fun w' => Qw w w' ∧ Bx w' w.heap.size #[.int .i64 11, .int .i64 0, .slice (some ⟨b, off, none⟩) 2 cap] 27) ⟨Qz, by repeat (first | exact Bx.new _ _ _ | refine Bx.alloc ?_ _ | refine Bx.drew ?_)⟩ ?_
    rintro w1 ⟨q1, B⟩
    have x0 := B.kcell 0 _ rfl
    have x2 := B.kcell 2 _ rfl
    have k0 : ∀ p : Kept w1, p.v.cell? ⟨b, off, none⟩ = some (.int .i64 op0) := fun p => (World.cell?_of_block (w := w) ((q1.trans p.h).block _ bl)).trans y0
    have k1 : ∀ p : Kept w1, p.v.cell? ⟨b, off + 1, none⟩ = some (.int .i64 n0) := fun p => (World.cell?_of_block (w := w) ((q1.trans p.h).block _ bl)).trans y1
    have k2 : ∀ p : Kept w1, p.v.cell? ⟨b, off + 2, none⟩ = some (.slice (ad 0) ks0.length (cc 0)) := fun p => (World.cell?_of_block (w := w) ((q1.trans p.h).block _ bl)).trans y2
    have k3 : ∀ p : Kept w1, p.v.cell? ⟨b, off + 3, none⟩ = some (.int .i64 op1) := fun p => (World.cell?_of_block (w := w) ((q1.trans p.h).block _ bl)).trans y3
    have k4 : ∀ p : Kept w1, p.v.cell? ⟨b, off + 3 + 1, none⟩ = some (.int .i64 n1) := fun p => (World.cell?_of_block (w := w) ((q1.trans p.h).block _ bl)).trans y4
    have k5 : ∀ p : Kept w1, p.v.cell? ⟨b, off + 3 + 2, none⟩ = some (.slice (ad 1) ks1.length (cc 1)) := fun p => (World.cell?_of_block (w := w) ((q1.trans p.h).block _ bl)).trans y5
    have D1 : Hid (∀ p : Kept w1, Calls Tryz.prog 38 #[.agg #[.int .i64 op0, .int .i64 n0, .slice (ad 0) ks0.length (cc 0)]] p.v fun e w' => e = .returned (.string (bs r)) ∧ Qw p.v w') := Lib.hid fun p => C1.out _ (q1.trans p.h)
    have D2 : Hid (∀ p : Kept w1, Calls Tryz.prog 38 #[.agg #[.int .i64 op1, .int .i64 n1, .slice (ad 1) ks1.length (cc 1)]] p.v fun e w' => e = .returned (.string (bs s)) ∧ Qw p.v w') := Lib.hid fun p => C2.out _ (q1.trans p.h)
    clear C1 y0 y1 y2 q0 C2 y3 y4 y5
    refine region_kept (by kernel_rfl) (by kernel_rfl) ?_
    repeat (go_big_quiet_step (first | (go_at_call 38; with_reducible exact Kept.call (D1.out _)) | (go_at_call 38; with_reducible exact Kept.call (D2.out _))))
    refine wpQuiet_nil ?_
    intro w2 q
    go_wp2_with fail
    go_ret
    exact ⟨by rw [← EB.out]; rfl, q1.trans q⟩
set_option maxRecDepth 100000 in
set_option maxHeartbeats 4000000 in
theorem rw_shown_op {op0 n0 op1 n1 : Int} {ks0 ks1 : List Sy.Ex} {r s : List UInt8} {o : Nat} (ho : 2 < o) (h11 : o ≠ 11) (h26 : o < 26) (hk2 : Sy.kds o = 2) (lr : r.length ≤ 1000000000000) (ls : s.length ≤ 1000000000000) (h0 : WrC 71 r op0 n0 ks0) (h1 : WrC 71 s op1 n1 ks1) : WrC 38 (r ++ ((32 :: Sy.onm o ++ [32]) ++ s)) (o : Int) 0 [.mk op0 n0 ks0, .mk op1 n1 ks1] := by
  intro a cap S w hO hT hk
  cases hk with
  | mk b off cap ks' ad cc hS hh1 hh2 hc hkk =>
    obtain ⟨z0, z1, z2⟩ := hc 0 (by simp)
    obtain ⟨z3, z4, z5⟩ := hc 1 (by simp)
    have KK := hkk 0 (by simp)
    have KL := hkk 1 (by simp)
    have c1 : ∀ w1, Qw w w1 → Calls Tryz.prog 71 #[.agg #[.int .i64 op0, .int .i64 n0, .slice (ad 0) ks0.length (cc 0)]] w1 fun e w' => e = .returned (.string (bs r)) ∧ Qw w1 w' := fun w1 q => h0 (ad 0) (cc 0) S w1 (hO.kept q) (hT.kept q) (KidsB.kept (ks := ks0) KK q)
    have c2 : ∀ w1, Qw w w1 → Calls Tryz.prog 71 #[.agg #[.int .i64 op1, .int .i64 n1, .slice (ad 1) ks1.length (cc 1)]] w1 fun e w' => e = .returned (.string (bs s)) ∧ Qw w1 w' := fun w1 q => h1 (ad 1) (cc 1) S w1 (hO.kept q) (hT.kept q) (KidsB.kept (ks := ks1) KL q)
    have eB : bs r ++ bs [32] ++ bs (Sy.onm o) ++ bs [32] ++ bs s = bs (r ++ ((32 :: Sy.onm o ++ [32]) ++ s)) := by simp only [bs_app, List.append_assoc, List.cons_append, List.nil_append]; try rfl
    have lo := Sy.onm_len o (by omega)
    have sg : ∀ w1, Qw w w1 → Calls Tryz.prog 73 #[.int .i64 (o : Int)] w1 fun e w' => e = .returned (.string (bs (Sy.onm o))) ∧ Qw w1 w' := fun w1 _ => rw_sign o (by omega) (by omega) w1
    have hz1 : ¬ 9223372036854775807 < (bs r).size + 1 := by simp only [bs_size]; omega
    have hz2 : ¬ 9223372036854775807 < (bs r).size + 1 + (bs (Sy.onm o)).size := by simp only [bs_size]; omega
    have hz3 : ¬ 9223372036854775807 < (bs r).size + 1 + (bs (Sy.onm o)).size + 1 := by simp only [bs_size]; omega
    have hz4 : ¬ 9223372036854775807 < (bs r).size + 1 + (bs (Sy.onm o)).size + 1 + (bs s).size := by simp only [bs_size]; omega
    generalize r ++ ((32 :: Sy.onm o ++ [32]) ++ s) = r2 at eB ⊢
    clear lo
    generalize Sy.onm o = u at *
    have e2 : ((o : Int) == 2) = false := beq_eq_false_iff_ne.2 (by omega)
    have e11 : ((o : Int) != 11) = true := by simp; omega
    have KD : Hid (∀ w : World, Calls Tryz.prog 72 #[.int .i64 (o : Int)] w fun e w' => e = .returned (.int .i64 2) ∧ w = w') := Lib.hid fun w => by have := rw_kids o h26 w; rw [hk2] at this; exact this
    clear ho h11 h26 hk2
    have y0 : w.cell? ⟨b, off, none⟩ = some (.int .i64 op0) := by simpa [Sy.Ex.op] using z0
    have y1 : w.cell? ⟨b, off + 1, none⟩ = some (.int .i64 n0) := by simpa [Sy.Ex.n] using z1
    have y2 : w.cell? ⟨b, off + 2, none⟩ = some (.slice (ad 0) ks0.length (cc 0)) := by simpa [Sy.Ex.ks] using z2
    have y3 : w.cell? ⟨b, off + 3, none⟩ = some (.int .i64 op1) := by simpa [Sy.Ex.op] using z3
    have y4 : w.cell? ⟨b, off + 3 + 1, none⟩ = some (.int .i64 n1) := by simpa [Sy.Ex.n] using z4
    have y5 : w.cell? ⟨b, off + 3 + 2, none⟩ = some (.slice (ad 1) ks1.length (cc 1)) := by simpa [Sy.Ex.ks] using z5
    have bl := cell_lt z0
    have hne : b ≠ w.heap.size := by omega
    have C1 := Lib.hid c1
    have C2 := Lib.hid c2
    have EB := Lib.hid eB
    have SG := Lib.hid sg
    clear c1 hO hT hc hkk KK z0 z1 z2 eB h0 lr c2 KL z3 z4 z5 h1 ls sg
    have q0 : Hid (Qw w w) := Lib.hid (Qw.refl w)
    show Calls Tryz.prog 38 #[.agg #[.int .i64 (o : Int), .int .i64 0, .slice (some ⟨b, off, none⟩) 2 cap]] w _
    go_enter Tryz.func38, Tryz.ntmps38
    go_upto_region 4 with (go_at_call 72; ((with_reducible refine (KD.out _).mono ?_); rintro e w' ⟨rfl, rfl⟩))
    refine code_of (fun w' => Qw w w' ∧ Bx w' w.heap.size #[.int .i64 (o : Int), .int .i64 0, .slice (some ⟨b, off, none⟩) 2 cap] 27) ⟨Qz, by repeat (first | exact Bx.new _ _ _ | refine Bx.alloc ?_ _ | refine Bx.drew ?_)⟩ ?_
    rintro w1 ⟨q1, B⟩
    have x0 := B.kcell 0 _ rfl
    have x2 := B.kcell 2 _ rfl
    have k0 : ∀ p : Kept w1, p.v.cell? ⟨b, off, none⟩ = some (.int .i64 op0) := fun p => (World.cell?_of_block (w := w) ((q1.trans p.h).block _ bl)).trans y0
    have k1 : ∀ p : Kept w1, p.v.cell? ⟨b, off + 1, none⟩ = some (.int .i64 n0) := fun p => (World.cell?_of_block (w := w) ((q1.trans p.h).block _ bl)).trans y1
    have k2 : ∀ p : Kept w1, p.v.cell? ⟨b, off + 2, none⟩ = some (.slice (ad 0) ks0.length (cc 0)) := fun p => (World.cell?_of_block (w := w) ((q1.trans p.h).block _ bl)).trans y2
    have k3 : ∀ p : Kept w1, p.v.cell? ⟨b, off + 3, none⟩ = some (.int .i64 op1) := fun p => (World.cell?_of_block (w := w) ((q1.trans p.h).block _ bl)).trans y3
    have k4 : ∀ p : Kept w1, p.v.cell? ⟨b, off + 3 + 1, none⟩ = some (.int .i64 n1) := fun p => (World.cell?_of_block (w := w) ((q1.trans p.h).block _ bl)).trans y4
    have k5 : ∀ p : Kept w1, p.v.cell? ⟨b, off + 3 + 2, none⟩ = some (.slice (ad 1) ks1.length (cc 1)) := fun p => (World.cell?_of_block (w := w) ((q1.trans p.h).block _ bl)).trans y5
    have D1 : Hid (∀ p : Kept w1, Calls Tryz.prog 71 #[.agg #[.int .i64 op0, .int .i64 n0, .slice (ad 0) ks0.length (cc 0)]] p.v fun e w' => e = .returned (.string (bs r)) ∧ Qw p.v w') := Lib.hid fun p => C1.out _ (q1.trans p.h)
    have D2 : Hid (∀ p : Kept w1, Calls Tryz.prog 71 #[.agg #[.int .i64 op1, .int .i64 n1, .slice (ad 1) ks1.length (cc 1)]] p.v fun e w' => e = .returned (.string (bs s)) ∧ Qw p.v w') := Lib.hid fun p => C2.out _ (q1.trans p.h)
    have D3 : Hid (∀ p : Kept w1, Calls Tryz.prog 73 #[.int .i64 (o : Int)] p.v fun e w' => e = .returned (.string (bs u)) ∧ Qw p.v w') := Lib.hid fun p => SG.out _ (q1.trans p.h)
    clear C1 y0 y1 y2 q0 C2 y3 y4 y5 SG
    refine region_kept (by kernel_rfl) (by kernel_rfl) ?_
    repeat (go_big_quiet_step (first | (go_at_call 71; with_reducible exact Kept.call (D1.out _)) | (go_at_call 71; with_reducible exact Kept.call (D2.out _)) | (go_at_call 73; with_reducible exact Kept.call (D3.out _))))
    refine wpQuiet_nil ?_
    intro w2 q
    go_wp2_with fail
    go_ret
    exact ⟨by rw [← EB.out]; rfl, q1.trans q⟩
end Go.Proofs.YtbcbnkapipimmaaGreatDoor
set_option linter.unusedVariables false
set_option linter.unusedSimpArgs false
namespace Go.Proofs.YtbcbnkapipimmaaGreatDoor
open Go.RowKit
structure WrB (op n : Int) (ks : List Sy.Ex) : Prop where
  p : WrC 38 (Sy.bpr (.mk op n ks)) op n ks
  c : WrC 71 (Sy.bcl (.mk op n ks)) op n ks
  v : WrC 58 (35 :: Sy.bce (.mk op n ks)) op n ks
theorem rw_mk {op n : Int} {ks : List Sy.Ex} (l : (Sy.bpr (.mk op n ks)).length ≤ 2000000 ∧ (Sy.bcl (.mk op n ks)).length ≤ 2000000) (hp : WrC 38 (Sy.bpr (.mk op n ks)) op n ks) (hc : WrC 71 (Sy.bcl (.mk op n ks)) op n ks) : WrB op n ks := by
  refine ⟨hp, hc, ?_⟩
  by_cases h0 : op = 0
  · subst h0
    rw [show Sy.bce (.mk 0 n ks) = Sy.bcl (.mk 0 n ks) by unfold Sy.bce; exact if_pos rfl]
    exact rw_cell_num (by omega) hc
  · by_cases h1 : op = 1
    · subst h1
      rw [show Sy.bce (.mk 1 n ks) = Sy.bcl (.mk 1 n ks) by unfold Sy.bce; exact if_pos rfl]
      exact rw_cell_var (by omega) hc
    · rw [show Sy.bce (.mk op n ks) = 91 :: Sy.bpr (.mk op n ks) ++ [93] by unfold Sy.bce; rw [if_neg (by simp [Sy.smp, Sy.Ex.op, h0, h1])]; rfl]
      exact rw_cell_br h0 h1 (by omega) hp
theorem rw_all (x : Sy.Ex) : Sy.okx x = true → Sy.dpt x ≤ 16 → WrB x.op x.n x.ks := by
  induction x using Sy.Ex.ind with
  | h op n ks ih =>
    intro hok hd
    show WrB op n ks
    have hl := Sy.blen_16 hok hd
    have hF := Sy.form hok
    cases hF with
    | num n h0 h1 =>
      have hc := rw_closed_num h0 h1
      have e1 : Sy.bpr (.mk 0 n []) = Sy.bcl (.mk 0 n []) := by simp [Sy.bpr, Sy.bcl, Sy.bpc]
      refine rw_mk hl ?_ hc
      rw [e1]
      exact rw_shown_cl (o := 0) (by decide) (by decide) (by decide) (by omega) hc
    | un o x hx ho =>
      obtain ⟨op1, n1, ks1⟩ := x
      have hT : ((o : Int)).toNat = o := by omega
      have hd1 := dpt_kid1 hd
      have A := ih (.mk op1 n1 ks1) (by simp) hx hd1
      have hl1 := Sy.blen_16 hx hd1
      by_cases o1 : o = 1
      · subst o1
        have e1 : Sy.bpr (.mk ((1 : Nat) : Int) 0 [.mk op1 n1 ks1]) = 35 :: Sy.bce (.mk op1 n1 ks1) := by
          simp only [Sy.bpr, Sy.bpc, Sy.bce, Sy.smp, Sy.binb, Sy.bcl]; simp [Sy.bpr]
        have e2 : Sy.bcl (.mk ((1 : Nat) : Int) 0 [.mk op1 n1 ks1]) = 35 :: Sy.bce (.mk op1 n1 ks1) := by
          simp only [Sy.bcl, Sy.bpc, Sy.bce, Sy.smp, Sy.binb]; simp [Sy.bpr]
        have hc : WrC 71 (35 :: Sy.bce (.mk op1 n1 ks1)) ((1 : Nat) : Int) 0 [.mk op1 n1 ks1] := rw_closed_var (by unfold Sy.bce Sy.binb; split <;> simp <;> omega) A.v
        refine rw_mk hl ?_ ?_
        · rw [e1]; exact rw_shown_cl (o := 1) (by decide) (by decide) (by decide) (by unfold Sy.bce Sy.binb; split <;> simp <;> omega) hc
        · rw [e2]; exact hc
      · by_cases o2 : o = 2
        · subst o2
          have e1 : Sy.bpr (.mk ((2 : Nat) : Int) 0 [.mk op1 n1 ks1]) = 45 :: Sy.bcl (.mk op1 n1 ks1) := by simp [Sy.bpr, Sy.bcl, Sy.bpc]
          have e2 : Sy.bcl (.mk ((2 : Nat) : Int) 0 [.mk op1 n1 ks1]) = Sy.binb (.mk ((2 : Nat) : Int) 0 [.mk op1 n1 ks1]) := by unfold Sy.binb; rw [e1]; simp [Sy.bcl, Sy.bpc]
          have hp : WrC 38 (Sy.bpr (.mk ((2 : Nat) : Int) 0 [.mk op1 n1 ks1])) ((2 : Nat) : Int) 0 [.mk op1 n1 ks1] := by
            rw [e1]; exact rw_shown_neg (by omega) A.c
          refine rw_mk hl hp ?_
          rw [e2]
          exact rw_closed_lo (o := 2) (by decide) (by omega) hp
        · have e1 : Sy.bpr (.mk (o : Int) 0 [.mk op1 n1 ks1]) = Sy.onm o ++ Sy.binb (.mk op1 n1 ks1) := by
            unfold Sy.bpr; rw [Sy.bpc, if_neg (by omega), if_neg (by omega), hT]; simp [Sy.binb, Sy.bpr]
          have e2 : Sy.bcl (.mk (o : Int) 0 [.mk op1 n1 ks1]) = Sy.onm o ++ Sy.binb (.mk op1 n1 ks1) := by
            unfold Sy.bcl; rw [Sy.bpc, if_neg (by omega), if_neg (by omega), hT]; simp [Sy.binb, Sy.bpr]
          have b1 := binb_len (.mk op1 n1 ks1)
          have hc : WrC 71 (Sy.onm o ++ Sy.binb (.mk op1 n1 ks1)) (o : Int) 0 [.mk op1 n1 ks1] := rw_closed_fun (by omega) (by omega) (by omega) (by omega) A.p
          refine rw_mk hl ?_ ?_
          · rw [e1]; exact rw_shown_cl (by omega) (by omega) (by rw [Sy.kds_1i o (by omega) (by omega)]; decide) (by have := Sy.onm_len o (by omega); simp only [List.length_append]; omega) hc
          · rw [e2]; exact hc
    | bin o x y hx hy ho =>
      obtain ⟨op1, n1, ks1⟩ := x
      obtain ⟨op2, n2, ks2⟩ := y
      have hT : ((o : Int)).toNat = o := by omega
      obtain ⟨hd1, hd2⟩ := dpt_kid2 hd
      have A := ih (.mk op1 n1 ks1) (by simp) hx hd1
      have B := ih (.mk op2 n2 ks2) (by simp) hy hd2
      have hl1 := Sy.blen_16 hx hd1
      have hl2 := Sy.blen_16 hy hd2
      have b1 := binb_len (.mk op1 n1 ks1)
      have b2 := binb_len (.mk op2 n2 ks2)
      by_cases o11 : o = 11
      · subst o11
        have e1 : Sy.bpr (.mk ((11 : Nat) : Int) 0 [.mk op1 n1 ks1, .mk op2 n2 ks2]) = Sy.onm 11 ++ (Sy.binb (.mk op1 n1 ks1) ++ ([47] ++ Sy.binb (.mk op2 n2 ks2))) := by
          unfold Sy.bpr; rw [Sy.bpc, if_pos (show ((11 : Nat) : Int) = 11 from rfl)]; simp [Sy.binb, Sy.bpr]
        have e2 : Sy.bcl (.mk ((11 : Nat) : Int) 0 [.mk op1 n1 ks1, .mk op2 n2 ks2]) = Sy.onm 11 ++ (Sy.binb (.mk op1 n1 ks1) ++ ([47] ++ Sy.binb (.mk op2 n2 ks2))) := by
          unfold Sy.bcl; rw [Sy.bpc, if_pos (show ((11 : Nat) : Int) = 11 from rfl)]; simp [Sy.binb, Sy.bpr]
        have hc : WrC 71 (Sy.onm 11 ++ (Sy.binb (.mk op1 n1 ks1) ++ ([47] ++ Sy.binb (.mk op2 n2 ks2)))) ((11 : Nat) : Int) 0 [.mk op1 n1 ks1, .mk op2 n2 ks2] := rw_closed_atan (by omega) (by omega) A.p B.p
        refine rw_mk hl ?_ ?_
        · rw [e1]; exact rw_shown_atan (by rw [← e1]; omega) hc
        · rw [e2]; exact hc
      · have e1 : Sy.bpr (.mk (o : Int) 0 [.mk op1 n1 ks1, .mk op2 n2 ks2]) = Sy.bcl (.mk op1 n1 ks1) ++ ((32 :: Sy.onm o ++ [32]) ++ Sy.bcl (.mk op2 n2 ks2)) := by
          unfold Sy.bpr; rw [Sy.bpc, if_neg (by omega), hT]; simp [Sy.bcl]
        have e2 : Sy.bcl (.mk (o : Int) 0 [.mk op1 n1 ks1, .mk op2 n2 ks2]) = Sy.binb (.mk (o : Int) 0 [.mk op1 n1 ks1, .mk op2 n2 ks2]) := by
          unfold Sy.binb; rw [e1]; unfold Sy.bcl; rw [Sy.bpc, if_neg (by omega), hT]; simp [Sy.bcl]
        have hp : WrC 38 (Sy.bpr (.mk (o : Int) 0 [.mk op1 n1 ks1, .mk op2 n2 ks2])) (o : Int) 0 [.mk op1 n1 ks1, .mk op2 n2 ks2] := by
          rw [e1]; exact rw_shown_op (by omega) (by omega) (by omega) (Sy.kds_2i o (by omega) (by omega)) (by omega) (by omega) A.c B.c
        refine rw_mk hl hp ?_
        rw [e2]
        by_cases h8 : o < 8
        · exact rw_closed_lo ⟨by omega, by omega, h8⟩ (by omega) hp
        · exact rw_closed_hi (by omega) (by omega) hp
theorem rw_print (op n : Int) (ks : List Sy.Ex) (a : Option Addr) (cap : Nat) (S : Nat → Prop) (w : World) (hO : Ow w) (hT : Tb w) (hk : KidsB w S a cap ks) :
    Calls Tryz.prog 13 #[.agg #[.int .i64 op, .int .i64 n, .slice a ks.length cap]] w fun e w' => e = .returned (.string (bs (Sy.prt (.mk op n ks)))) ∧ Qw w w' := by
  have cr : ∀ w1, Qw w w1 → Calls Tryz.prog 37 #[.agg #[.int .i64 op, .int .i64 n, .slice a ks.length cap]] w1 fun e w' => e = .returned (.bool (Sy.rgt (.mk op n ks))) ∧ Qw w1 w' := fun w1 q => rw_right op n ks a cap S w1 (hk.kept q)
  unfold Sy.prt
  cases hv : Sy.rgt (.mk op n ks) with
  | false =>
    rw [hv] at cr
    rw [if_neg (by decide)]
    have CR := Lib.hid cr
    clear cr hO hT hk
    have q0 : Hid (Qw w w) := Lib.hid (Qw.refl w)
    go_enter Tryz.func13, Tryz.ntmps13
    go_wp2_with (go_at_call 37; ((with_reducible refine (CR.out _ Qz).mono ?_); rintro e w' ⟨rfl, q⟩; replace q0 : Hid (Qw w w') := Lib.hid (Qw.trans Qz q); clear q))
    go_ret
    exact ⟨rfl, q0.out⟩
  | true =>
    rw [hv] at cr
    rw [if_pos rfl]
    have hv2 := hv
    simp only [Sy.rgt, Sy.depB, Bool.and_eq_true, decide_eq_true_eq] at hv2
    have A := rw_all (.mk op n ks) hv2.1 hv2.2
    have cp : ∀ w1, Qw w w1 → Calls Tryz.prog 38 #[.agg #[.int .i64 op, .int .i64 n, .slice a ks.length cap]] w1 fun e w' => e = .returned (.string (bs (Sy.bpr (.mk op n ks)))) ∧ Qw w1 w' := fun w1 q => A.p a cap S w1 (hO.kept q) (hT.kept q) (hk.kept q)
    generalize Sy.bpr (.mk op n ks) = r at cp ⊢
    have CR := Lib.hid cr
    have CP := Lib.hid cp
    clear cr cp hO hT hk A hv hv2
    have q0 : Hid (Qw w w) := Lib.hid (Qw.refl w)
    go_enter Tryz.func13, Tryz.ntmps13
    go_wp2_with (first
      | (go_at_call 37; ((with_reducible refine (CR.out _ Qz).mono ?_); rintro e w' ⟨rfl, q⟩; have B : Bx w' w.heap.size #[.int .i64 op, .int .i64 n, .slice a ks.length cap] 27 := Bx.kept (by repeat (first | exact Bx.new _ _ _ | refine Bx.alloc ?_ _ | refine Bx.drew ?_)) q; have x0 := B.cell' 0 _ rfl; have x1 := B.cell' 1 _ rfl; have x2 := B.cell' 2 _ rfl; clear B; replace q0 : Hid (Qw w w') := Lib.hid (Qw.trans Qz q); clear q))
      | (go_at_call 38; ((with_reducible refine (CP.out _ Qz).mono ?_); rintro e w' ⟨rfl, q⟩; replace q0 : Hid (Qw w w') := Lib.hid (Qw.trans Qz q); clear q)))
    go_ret
    exact ⟨rfl, q0.out⟩
end Go.Proofs.YtbcbnkapipimmaaGreatDoor
set_option linter.unusedVariables false
set_option linter.unusedSimpArgs false
namespace Go.Proofs.YtbcbnkapipimmaaGreatDoor
open Go.ChangeShapes Go.WideShapes Go.ChangeAt Go.RowKit
set_option maxRecDepth 100000 in
set_option maxHeartbeats 4000000 in
theorem told6 (op n : Int) (ks : List Sy.Ex) (a : Option Addr) (cap : Nat) (S : Nat → Prop) (w : World) (hO : Ow w) (hT : Tb w) (hk : KidsB w S a cap ks) :
    Calls Tryz.prog 21 #[.agg #[.int .i64 op, .int .i64 n, .slice a ks.length cap]] w fun e w' => e = .returned (.bool true) ∧ Qw w w' := by
  obtain ⟨l1, l2⟩ := hk.cap
  have HK := Lib.hid hk
  have HO := Lib.hid hO
  have HT := Lib.hid hT
  have q0 := Lib.hid (Qw.refl w)
  clear hk hO hT
  go_enter Tryz.func21, Tryz.ntmps21
  go_upto_region 1 with fail
  refine code_of (fun w1 => Hid (Bx w1 w.heap.size #[.int .i64 op, .int .i64 n, .slice a ks.length cap] 27) ∧ Hid (Qw w w1)) ⟨Lib.hid (Bx.new w _ _), Lib.hid (Qw.al (Qw.refl w) _)⟩ ?_
  rintro w1 ⟨B, QQ⟩
  generalize w.heap.size = D at *
  obtain ⟨dd, hdd⟩ : ∃ dd, ((min (Sy.dpt (.mk op n ks)) 17 : Nat) : Int) = dd := ⟨_, rfl⟩
  obtain ⟨rr, hrr⟩ : ∃ r, Sy.rgt (.mk op n ks) = r := ⟨_, rfl⟩
  obtain ⟨tt, htt⟩ : ∃ t, bs (Sy.prt (.mk op n ks)) = t := ⟨_, rfl⟩
  have D1 : Hid (∀ p : Kept w1, Calls Tryz.prog 44 #[.agg #[.int .i64 op, .int .i64 n, .slice a ks.length cap]] p.v fun e w' => e = .returned (.int .i64 dd) ∧ Qw p.v w') := Lib.hid fun p => by subst hdd; exact sv_depth op n ks a cap S p.v (HK.out.kept (QQ.out.trans p.h))
  have D2 : Hid (∀ p : Kept w1, Calls Tryz.prog 45 #[.agg #[.int .i64 op, .int .i64 n, .slice a ks.length cap]] p.v fun e w' => e = .returned (.int .i64 dd) ∧ Qw p.v w') := Lib.hid fun p => by subst hdd; exact rw_depth op n ks a cap S p.v (HK.out.kept (QQ.out.trans p.h))
  have D3 : Hid (∀ p : Kept w1, Calls Tryz.prog 46 #[.agg #[.int .i64 op, .int .i64 n, .slice a ks.length cap]] p.v fun e w' => e = .returned (.bool rr) ∧ Qw p.v w') := Lib.hid fun p => by subst hrr; exact sv_right op n ks a cap S p.v (HO.out.kept (QQ.out.trans p.h)) (HK.out.kept (QQ.out.trans p.h))
  have D4 : Hid (∀ p : Kept w1, Calls Tryz.prog 37 #[.agg #[.int .i64 op, .int .i64 n, .slice a ks.length cap]] p.v fun e w' => e = .returned (.bool rr) ∧ Qw p.v w') := Lib.hid fun p => by subst hrr; exact rw_right op n ks a cap S p.v (HK.out.kept (QQ.out.trans p.h))
  have D5 : Hid (∀ p : Kept w1, Calls Tryz.prog 47 #[.agg #[.int .i64 op, .int .i64 n, .slice a ks.length cap]] p.v fun e w' => e = .returned (.string tt) ∧ Qw p.v w') := Lib.hid fun p => by subst htt; exact sx_print op n ks a cap S p.v (HO.out.kept (QQ.out.trans p.h)) (HT.out.kept (QQ.out.trans p.h)) (HK.out.kept (QQ.out.trans p.h))
  have D6 : Hid (∀ p : Kept w1, Calls Tryz.prog 13 #[.agg #[.int .i64 op, .int .i64 n, .slice a ks.length cap]] p.v fun e w' => e = .returned (.string tt) ∧ Qw p.v w') := Lib.hid fun p => by subst htt; exact rw_print op n ks a cap S p.v (HO.out.kept (QQ.out.trans p.h)) (HT.out.kept (QQ.out.trans p.h)) (HK.out.kept (QQ.out.trans p.h))
  clear hdd hrr htt
  have xk0 := B.out.kcell 0 _ rfl
  have xk1 := B.out.kcell 1 _ rfl
  have xk2 := B.out.kcell 2 _ rfl
  refine region_kept (by kernel_rfl) (by kernel_rfl) ?_
  repeat (go_big_quiet_step (first
    | (go_at_call 44; with_reducible exact Kept.call (D1.out _))
    | (go_at_call 45; with_reducible exact Kept.call (D2.out _))
    | (go_at_call 46; with_reducible exact Kept.call (D3.out _))
    | (go_at_call 37; with_reducible exact Kept.call (D4.out _))
    | (go_at_call 47; with_reducible exact Kept.call (D5.out _))
    | (go_at_call 13; with_reducible exact Kept.call (D6.out _))))
  refine wpQuiet_nil ?_
  intro w4 q
  have Q4 := Lib.hid (Qw.trans QQ.out q)
  clear q
  go_wp2_with fail
  go_ret
  exact ⟨ret_bool5 (by simp), Q4.out⟩
def ExprB (w : World) (v : Value) (x : Sy.Ex) : Prop := ∃ a cap, v = .agg #[.int .i64 x.op, .int .i64 x.n, .slice a x.ks.length cap] ∧ KidsB w (fun b => b < w.heap.size) a cap x.ks
theorem cExpr : Tryz.prog.cellsOf 27 = 3 := by kernel_rfl
theorem cKids : Tryz.prog.cellsOf 25 = 1 := by kernel_rfl
theorem cIntE : Tryz.prog.cellsOf 3 = 1 := by kernel_rfl
theorem laidOutE : laidOutB Tryz.prog = true := by kernel_rfl
instance : Inhabited Sy.Ex := ⟨.mk 0 0 []⟩
set_option maxRecDepth 100000 in
theorem in_kids {H : Type} {enc : TypeId × Value → H} {W : World} : ∀ (fuel : Nat) (c : Value) (x : DataW H × List MemPlace), DataW.trod enc Tryz.prog W 0 (fun _ => true) true fuel 25 [c] = some x →
    ∃ (a : Option Addr) (cap : Nat) (ks : List Sy.Ex), c = .slice a ks.length cap ∧ KidsB W (fun b => b < W.heap.size) a cap ks := by
  intro fuel
  induction fuel using Nat.strongRecOn with
  | _ fuel ih =>
    intro c x h
    rcases DataW.trod_slice Tryz.underlying25 h with ⟨hc, _⟩ | ⟨a, len, cap, elems, rest, n, rfl, hc, _, _, hl, hm, hlen, hel, _, _⟩
    · simp only [List.cons.injEq, and_true] at hc
      subst hc
      exact ⟨none, 0, [], rfl, .nl _ _ (by decide)⟩
    · simp only [List.cons.injEq, and_true] at hc
      subst hc
      have each : ∀ i, i < len → ∃ q : Sy.Ex × Option Addr × Nat, W.cell? (a.add (i * 3)) = some (.int .i64 q.1.op) ∧ W.cell? (a.add (i * 3 + 1)) = some (.int .i64 q.1.n) ∧ W.cell? (a.add (i * 3 + 2)) = some (.slice q.2.1 q.1.ks.length q.2.2) ∧
          KidsB W (fun b => b < W.heap.size) q.2.1 q.2.2 q.1.ks := fun i hi => by
        have h1 := hel i hi
        rw [List.getElem?_eq_getElem (by omega)] at h1
        obtain ⟨cs, h2, h3⟩ := Option.bind_eq_some_iff.1 h1
        rw [cExpr] at h2
        obtain ⟨_, hcl, hcell⟩ := World.cells?_some h2
        obtain ⟨xs, j, rfl, _, _, hxl, hfs⟩ := DataW.trod_struct Tryz.underlying27 h3
        match xs, hxl, cs, hcl with
        | [y0, y1, y2], _, [v0, v1, v2], _ =>
          have g0 := hfs 0 _ rfl
          have g1 := hfs 1 _ rfl
          have g2 := hfs 2 _ rfl
          simp [cIntE, cKids] at g0 g1 g2
          have e0 := hcell 0 (by omega)
          have e1 := hcell 1 (by omega)
          have e2 := hcell 2 (by omega)
          rw [Go.Deep.add_add] at e0 e1 e2
          obtain ⟨x0, k0, _, _⟩ := DataW.trod_int Tryz.underlying3 g0
          obtain ⟨x1, k1, _, _⟩ := DataW.trod_int Tryz.underlying3 g1
          obtain ⟨ad, cc, ks, k2, hk⟩ := ih j (by omega) v2 _ g2
          simp only [List.cons.injEq, and_true] at k0 k1
          subst k0 k1 k2
          exact ⟨(.mk x0 x1 ks, ad, cc), by show W.cell? _ = some (.int .i64 x0); simpa using e0, by show W.cell? _ = some (.int .i64 x1); simpa using e1, by show W.cell? _ = some (.slice ad ks.length cc); simpa using e2, hk⟩
      obtain ⟨q, hq⟩ := Go.Deep.choose_lt each
      refine ⟨some a, cap, (List.range len).map fun i => (q i).1, by simp, ?_⟩
      by_cases h0 : len = 0
      · subst h0
        exact .nl _ _ (by unfold maxLen at hm; omega)
      · obtain ⟨b, off, spot⟩ := a
        have hspot : spot = none := by simpa [Addr.add] using World.cell?_spot (hq 0 (by omega)).1
        subst hspot
        have hb : b < W.heap.size := by
          have c := (hq 0 (by omega)).1
          rw [add_plain] at c
          exact cell_lt c
        refine .mk b off cap _ (fun i => (q i).2.1) (fun i => (q i).2.2) hb (by simpa using hl) (by unfold maxLen at hm; omega) (fun i hi => ?_) (fun i hi => ?_)
        · have hi' : i < len := by simpa using hi
          have g : ((List.range len).map fun i => (q i).1)[i] = (q i).1 := by simp
          obtain ⟨c0, c1, c2, _⟩ := hq i hi'
          rw [add_plain] at c0 c1 c2
          rw [← Nat.add_assoc] at c1 c2
          rw [g]
          exact ⟨c0, c1, c2⟩
        · have hi' : i < len := by simpa using hi
          have g : ((List.range len).map fun i => (q i).1)[i] = (q i).1 := by simp
          rw [g]
          exact (hq i hi').2.2.2
set_option maxRecDepth 100000 in
theorem in_expr {H : Type} {enc : TypeId × Value → H} {W : World} {base : Nat} {v : Value} {d : DataW H} {p : List MemPlace} (hval : Value.okWide Tryz.prog W .any base 27 v)
    (h : DataW.Trod enc Tryz.prog W 0 (fun _ => true) true 27 v d p) : ∃ x, ExprB W v x := by
  obtain ⟨v0, v1, v2, y0, y1, y2, n, rfl, _, _, g0, g1, g2⟩ := Go.Joins.open_agg3 Tryz.underlying27 (by kernel_rfl) cExpr hval h
  obtain ⟨x0, k0, _, _⟩ := DataW.trod_int Tryz.underlying3 g0
  obtain ⟨x1, k1, _, _⟩ := DataW.trod_int Tryz.underlying3 g1
  obtain ⟨ad, cc, ks, k2, hk⟩ := in_kids _ v2 _ g2
  simp only [List.cons.injEq, and_true] at k0 k1
  subst k0 k1 k2
  exact ⟨.mk x0 x1 ks, ad, cc, rfl, hk⟩
theorem out_expr {H : Type} {enc : TypeId × Value → H} {W W' : World} {v : Value} {d : DataW H} {p : List MemPlace} (h : DataW.Trod enc Tryz.prog W 0 (fun _ => true) true 27 v d p) (bel : Below W.heap.size W W')
    (hlt : ∀ x ∈ p, x.block < W.heap.size) : DataW.Trod enc Tryz.prog W' 0 (fun b => decide (b < W.heap.size)) true 27 v d p :=
  Below.trod laidOutE (by kernel_rfl) (of_decide_eq_true (by kernel_rfl)) h bel hlt
end Go.Proofs.YtbcbnkapipimmaaGreatDoor

