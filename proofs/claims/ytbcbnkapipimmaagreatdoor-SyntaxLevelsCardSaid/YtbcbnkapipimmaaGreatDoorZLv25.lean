import Derived.Test.YtbcbnkapipimmaaGreatDoorZLv19
import Derived.Test.YtbcbnkapipimmaaGreatDoorZLv21
import Derived.Test.YtbcbnkapipimmaaGreatDoorZLv22
import Derived.Test.YtbcbnkapipimmaaGreatDoorZLv24
import Derived.Deep.Cut
set_option linter.unusedVariables false
set_option linter.unusedSimpArgs false
namespace Go.Proofs.YtbcbnkapipimmaaGreatDoor
open Go.RowKit
set_option maxRecDepth 100000 in
set_option maxHeartbeats 4000000 in
theorem rw_closed_fun {op0 n0 : Int} {ks0 : List Sy.Ex} {r : List UInt8} {o : Nat} (ho : 8 ≤ o) (ho' : o ≤ 16) (h11 : o ≠ 11) (lr : r.length ≤ 1000000000000) (h0 : WrC 38 r op0 n0 ks0) : WrC 71 (Sy.onm o ++ (91 :: r ++ [93])) (o : Int) 0 [.mk op0 n0 ks0] := by
  intro a cap S w hO hT hk
  cases hk with
  | mk b off cap ks' ad cc hS hh1 hh2 hc hkk =>
    obtain ⟨z0, z1, z2⟩ := hc 0 (by simp)
    have KK := hkk 0 (by simp)
    have c1 : ∀ w1, Qw w w1 → Calls Tryz.prog 38 #[.agg #[.int .i64 op0, .int .i64 n0, .slice (ad 0) ks0.length (cc 0)]] w1 fun e w' => e = .returned (.string (bs r)) ∧ Qw w1 w' := fun w1 q => h0 (ad 0) (cc 0) S w1 (hO.kept q) (hT.kept q) (KidsB.kept (ks := ks0) KK q)
    have eB : bs (Sy.onm o) ++ bs [91] ++ bs r ++ bs [93] = bs (Sy.onm o ++ (91 :: r ++ [93])) := by simp only [bs_app, List.append_assoc, List.cons_append, List.nil_append]; try rfl
    have lo := Sy.onm_len o (by omega)
    have sg : ∀ w1, Qw w w1 → Calls Tryz.prog 73 #[.int .i64 (o : Int)] w1 fun e w' => e = .returned (.string (bs (Sy.onm o))) ∧ Qw w1 w' := fun w1 _ => rw_sign o (by omega) (by omega) w1
    have hz1 : ¬ 9223372036854775807 < (bs (Sy.onm o)).size + 1 := by simp only [bs_size]; omega
    have hz2 : ¬ 9223372036854775807 < (bs (Sy.onm o)).size + 1 + (bs r).size := by simp only [bs_size]; omega
    have hz3 : ¬ 9223372036854775807 < (bs (Sy.onm o)).size + 1 + (bs r).size + 1 := by simp only [bs_size]; omega
    generalize Sy.onm o ++ (91 :: r ++ [93]) = r2 at eB ⊢
    clear lo
    generalize Sy.onm o = u at *
    have e0 : ((o : Int) == 0) = false := beq_eq_false_iff_ne.2 (by omega)
    have e1 : ((o : Int) == 1) = false := beq_eq_false_iff_ne.2 (by omega)
    have e11 : ((o : Int) == 11) = false := beq_eq_false_iff_ne.2 (by omega)
    have g8 : (8 : Int) ≤ (o : Int) := by omega
    have g16 : (o : Int) ≤ 16 := by omega
    clear ho ho' h11
    have y0 : w.cell? ⟨b, off, none⟩ = some (.int .i64 op0) := by simpa [Sy.Ex.op] using z0
    have y1 : w.cell? ⟨b, off + 1, none⟩ = some (.int .i64 n0) := by simpa [Sy.Ex.n] using z1
    have y2 : w.cell? ⟨b, off + 2, none⟩ = some (.slice (ad 0) ks0.length (cc 0)) := by simpa [Sy.Ex.ks] using z2
    have bl := cell_lt z0
    have hne : b ≠ w.heap.size := by omega
    have C1 := Lib.hid c1
    have EB := Lib.hid eB
    have SG := Lib.hid sg
    clear c1 hO hT hc hkk KK z0 z1 z2 eB h0 lr sg
    have q0 : Hid (Qw w w) := Lib.hid (Qw.refl w)
    show Calls Tryz.prog 71 #[.agg #[.int .i64 (o : Int), .int .i64 0, .slice (some ⟨b, off, none⟩) 1 cap]] w _
    go_enter Tryz.func71, Tryz.ntmps71
    go_upto_region 8 with fail
    refine code_of (fun w' => Qw w w' ∧ Bx w' w.heap.size #[.int .i64 (o : Int), .int .i64 0, .slice (some ⟨b, off, none⟩) 1 cap] 27) ⟨Qz, by repeat (first | exact Bx.new _ _ _ | refine Bx.alloc ?_ _ | refine Bx.drew ?_)⟩ ?_
    rintro w1 ⟨q1, B⟩
    have x0 := B.kcell 0 _ rfl
    have x2 := B.kcell 2 _ rfl
    have k0 : ∀ p : Kept w1, p.v.cell? ⟨b, off, none⟩ = some (.int .i64 op0) := fun p => (World.cell?_of_block (w := w) ((q1.trans p.h).block _ bl)).trans y0
    have k1 : ∀ p : Kept w1, p.v.cell? ⟨b, off + 1, none⟩ = some (.int .i64 n0) := fun p => (World.cell?_of_block (w := w) ((q1.trans p.h).block _ bl)).trans y1
    have k2 : ∀ p : Kept w1, p.v.cell? ⟨b, off + 2, none⟩ = some (.slice (ad 0) ks0.length (cc 0)) := fun p => (World.cell?_of_block (w := w) ((q1.trans p.h).block _ bl)).trans y2
    have D1 : Hid (∀ p : Kept w1, Calls Tryz.prog 38 #[.agg #[.int .i64 op0, .int .i64 n0, .slice (ad 0) ks0.length (cc 0)]] p.v fun e w' => e = .returned (.string (bs r)) ∧ Qw p.v w') := Lib.hid fun p => C1.out _ (q1.trans p.h)
    have D3 : Hid (∀ p : Kept w1, Calls Tryz.prog 73 #[.int .i64 (o : Int)] p.v fun e w' => e = .returned (.string (bs u)) ∧ Qw p.v w') := Lib.hid fun p => SG.out _ (q1.trans p.h)
    clear C1 y0 y1 y2 q0 SG
    refine region_kept (by kernel_rfl) (by kernel_rfl) ?_
    repeat (go_big_quiet_step (first | (go_at_call 38; with_reducible exact Kept.call (D1.out _)) | (go_at_call 73; with_reducible exact Kept.call (D3.out _))))
    refine wpQuiet_nil ?_
    intro w2 q
    go_wp2_with fail
    go_ret
    exact ⟨by rw [← EB.out]; rfl, q1.trans q⟩
set_option maxRecDepth 100000 in
set_option maxHeartbeats 4000000 in
theorem rw_closed_atan {op0 n0 op1 n1 : Int} {ks0 ks1 : List Sy.Ex} {r s : List UInt8}  (lr : r.length ≤ 1000000000000) (ls : s.length ≤ 1000000000000) (h0 : WrC 38 r op0 n0 ks0) (h1 : WrC 38 s op1 n1 ks1) : WrC 71 (Sy.onm 11 ++ ((91 :: r ++ [93]) ++ ([47] ++ (91 :: s ++ [93])))) 11 0 [.mk op0 n0 ks0, .mk op1 n1 ks1] := by
  intro a cap S w hO hT hk
  cases hk with
  | mk b off cap ks' ad cc hS hh1 hh2 hc hkk =>
    obtain ⟨z0, z1, z2⟩ := hc 0 (by simp)
    obtain ⟨z3, z4, z5⟩ := hc 1 (by simp)
    have KK := hkk 0 (by simp)
    have KL := hkk 1 (by simp)
    have c1 : ∀ w1, Qw w w1 → Calls Tryz.prog 38 #[.agg #[.int .i64 op0, .int .i64 n0, .slice (ad 0) ks0.length (cc 0)]] w1 fun e w' => e = .returned (.string (bs r)) ∧ Qw w1 w' := fun w1 q => h0 (ad 0) (cc 0) S w1 (hO.kept q) (hT.kept q) (KidsB.kept (ks := ks0) KK q)
    have c2 : ∀ w1, Qw w w1 → Calls Tryz.prog 38 #[.agg #[.int .i64 op1, .int .i64 n1, .slice (ad 1) ks1.length (cc 1)]] w1 fun e w' => e = .returned (.string (bs s)) ∧ Qw w1 w' := fun w1 q => h1 (ad 1) (cc 1) S w1 (hO.kept q) (hT.kept q) (KidsB.kept (ks := ks1) KL q)
    have eB : bs [65, 84, 65, 78, 91] ++ bs r ++ bs [93, 47, 91] ++ bs s ++ bs [93] = bs (Sy.onm 11 ++ ((91 :: r ++ [93]) ++ ([47] ++ (91 :: s ++ [93])))) := by simp only [bs_app, List.append_assoc, List.cons_append, List.nil_append]; try rfl
    have hz1 : ¬ 9223372036854775807 < 5 + (bs r).size := by simp only [bs_size]; omega
    have hz2 : ¬ 9223372036854775807 < 5 + (bs r).size + 3 := by simp only [bs_size]; omega
    have hz3 : ¬ 9223372036854775807 < 5 + (bs r).size + 3 + (bs s).size := by simp only [bs_size]; omega
    have hz4 : ¬ 9223372036854775807 < 5 + (bs r).size + 3 + (bs s).size + 1 := by simp only [bs_size]; omega
    generalize Sy.onm 11 ++ ((91 :: r ++ [93]) ++ ([47] ++ (91 :: s ++ [93]))) = r2 at eB ⊢
    have y0 : w.cell? ⟨b, off, none⟩ = some (.int .i64 op0) := by simpa [Sy.Ex.op] using z0
    have y1 : w.cell? ⟨b, off + 1, none⟩ = some (.int .i64 n0) := by simpa [Sy.Ex.n] using z1
    have y2 : w.cell? ⟨b, off + 2, none⟩ = some (.slice (ad 0) ks0.length (cc 0)) := by simpa [Sy.Ex.ks] using z2
    have y3 : w.cell? ⟨b, off + 3, none⟩ = some (.int .i64 op1) := by simpa [Sy.Ex.op] using z3
    have y4 : w.cell? ⟨b, off + 3 + 1, none⟩ = some (.int .i64 n1) := by simpa [Sy.Ex.n] using z4
    have y5 : w.cell? ⟨b, off + 3 + 2, none⟩ = some (.slice (ad 1) ks1.length (cc 1)) := by simpa [Sy.Ex.ks] using z5
    have bl := cell_lt z0
    have hne : b ≠ w.heap.size := by omega
    have C1 := Lib.hid c1
    have C2 := Lib.hid c2
    have EB := Lib.hid eB
    clear c1 hO hT hc hkk KK z0 z1 z2 eB h0 lr c2 KL z3 z4 z5 h1 ls
    have q0 : Hid (Qw w w) := Lib.hid (Qw.refl w)
    show Calls Tryz.prog 71 #[.agg #[.int .i64 11, .int .i64 0, .slice (some ⟨b, off, none⟩) 2 cap]] w _
    go_enter Tryz.func71, Tryz.ntmps71
    go_upto_region 6 with fail
    refine code_of (fun w' => Qw w w' ∧ Bx w' w.heap.size #[.int .i64 11, .int .i64 0, .slice (some ⟨b, off, none⟩) 2 cap] 27) ⟨Qz, by repeat (first | exact Bx.new _ _ _ | refine Bx.alloc ?_ _ | refine Bx.drew ?_)⟩ ?_
    rintro w1 ⟨q1, B⟩
    have x0 := B.kcell 0 _ rfl
    have x2 := B.kcell 2 _ rfl
    have k0 : ∀ p : Kept w1, p.v.cell? ⟨b, off, none⟩ = some (.int .i64 op0) := fun p => (World.cell?_of_block (w := w) ((q1.trans p.h).block _ bl)).trans y0
    have k1 : ∀ p : Kept w1, p.v.cell? ⟨b, off + 1, none⟩ = some (.int .i64 n0) := fun p => (World.cell?_of_block (w := w) ((q1.trans p.h).block _ bl)).trans y1
    have k2 : ∀ p : Kept w1, p.v.cell? ⟨b, off + 2, none⟩ = some (.slice (ad 0) ks0.length (cc 0)) := fun p => (World.cell?_of_block (w := w) ((q1.trans p.h).block _ bl)).trans y2
    have k3 : ∀ p : Kept w1, p.v.cell? ⟨b, off + 3, none⟩ = some (.int .i64 op1) := fun p => (World.cell?_of_block (w := w) ((q1.trans p.h).block _ bl)).trans y3
    have k4 : ∀ p : Kept w1, p.v.cell? ⟨b, off + 3 + 1, none⟩ = some (.int .i64 n1) := fun p => (World.cell?_of_block (w := w) ((q1.trans p.h).block _ bl)).trans y4
    have k5 : ∀ p : Kept w1, p.v.cell? ⟨b, off + 3 + 2, none⟩ = some (.slice (ad 1) ks1.length (cc 1)) := fun p => (World.cell?_of_block (w := w) ((q1.trans p.h).block _ bl)).trans y5
    have D1 : Hid (∀ p : Kept w1, Calls Tryz.prog 38 #[.agg #[.int .i64 op0, .int .i64 n0, .slice (ad 0) ks0.length (cc 0)]] p.v fun e w' => e = .returned (.string (bs r)) ∧ Qw p.v w') := Lib.hid fun p => C1.out _ (q1.trans p.h)
    have D2 : Hid (∀ p : Kept w1, Calls Tryz.prog 38 #[.agg #[.int .i64 op1, .int .i64 n1, .slice (ad 1) ks1.length (cc 1)]] p.v fun e w' => e = .returned (.string (bs s)) ∧ Qw p.v w') := Lib.hid fun p => C2.out _ (q1.trans p.h)
    clear C1 y0 y1 y2 q0 C2 y3 y4 y5
    refine region_kept (by kernel_rfl) (by kernel_rfl) ?_
    repeat (go_big_quiet_step (first | (go_at_call 38; with_reducible exact Kept.call (D1.out _)) | (go_at_call 38; with_reducible exact Kept.call (D2.out _))))
    refine wpQuiet_nil ?_
    intro w2 q
    go_wp2_with fail
    go_ret
    exact ⟨by rw [← EB.out]; rfl, q1.trans q⟩
set_option maxRecDepth 100000 in
set_option maxHeartbeats 4000000 in
theorem rw_shown_op {op0 n0 op1 n1 : Int} {ks0 ks1 : List Sy.Ex} {r s : List UInt8} {o : Nat} (ho : 2 < o) (h11 : o ≠ 11) (h26 : o < 26) (hk2 : Sy.kds o = 2) (lr : r.length ≤ 1000000000000) (ls : s.length ≤ 1000000000000) (h0 : WrC 71 r op0 n0 ks0) (h1 : WrC 71 s op1 n1 ks1) : WrC 38 (r ++ ((32 :: Sy.onm o ++ [32]) ++ s)) (o : Int) 0 [.mk op0 n0 ks0, .mk op1 n1 ks1] := by
  intro a cap S w hO hT hk
  cases hk with
  | mk b off cap ks' ad cc hS hh1 hh2 hc hkk =>
    obtain ⟨z0, z1, z2⟩ := hc 0 (by simp)
    obtain ⟨z3, z4, z5⟩ := hc 1 (by simp)
    have KK := hkk 0 (by simp)
    have KL := hkk 1 (by simp)
    have c1 : ∀ w1, Qw w w1 → Calls Tryz.prog 71 #[.agg #[.int .i64 op0, .int .i64 n0, .slice (ad 0) ks0.length (cc 0)]] w1 fun e w' => e = .returned (.string (bs r)) ∧ Qw w1 w' := fun w1 q => h0 (ad 0) (cc 0) S w1 (hO.kept q) (hT.kept q) (KidsB.kept (ks := ks0) KK q)
    have c2 : ∀ w1, Qw w w1 → Calls Tryz.prog 71 #[.agg #[.int .i64 op1, .int .i64 n1, .slice (ad 1) ks1.length (cc 1)]] w1 fun e w' => e = .returned (.string (bs s)) ∧ Qw w1 w' := fun w1 q => h1 (ad 1) (cc 1) S w1 (hO.kept q) (hT.kept q) (KidsB.kept (ks := ks1) KL q)
    have eB : bs r ++ bs [32] ++ bs (Sy.onm o) ++ bs [32] ++ bs s = bs (r ++ ((32 :: Sy.onm o ++ [32]) ++ s)) := by simp only [bs_app, List.append_assoc, List.cons_append, List.nil_append]; try rfl
    have lo := Sy.onm_len o (by omega)
    have sg : ∀ w1, Qw w w1 → Calls Tryz.prog 73 #[.int .i64 (o : Int)] w1 fun e w' => e = .returned (.string (bs (Sy.onm o))) ∧ Qw w1 w' := fun w1 _ => rw_sign o (by omega) (by omega) w1
    have hz1 : ¬ 9223372036854775807 < (bs r).size + 1 := by simp only [bs_size]; omega
    have hz2 : ¬ 9223372036854775807 < (bs r).size + 1 + (bs (Sy.onm o)).size := by simp only [bs_size]; omega
    have hz3 : ¬ 9223372036854775807 < (bs r).size + 1 + (bs (Sy.onm o)).size + 1 := by simp only [bs_size]; omega
    have hz4 : ¬ 9223372036854775807 < (bs r).size + 1 + (bs (Sy.onm o)).size + 1 + (bs s).size := by simp only [bs_size]; omega
    generalize r ++ ((32 :: Sy.onm o ++ [32]) ++ s) = r2 at eB ⊢
    clear lo
    generalize Sy.onm o = u at *
    have e2 : ((o : Int) == 2) = false := beq_eq_false_iff_ne.2 (by omega)
    have e11 : ((o : Int) != 11) = true := by simp; omega
    have KD : Hid (∀ w : World, Calls Tryz.prog 72 #[.int .i64 (o : Int)] w fun e w' => e = .returned (.int .i64 2) ∧ w = w') := Lib.hid fun w => by have := rw_kids o h26 w; rw [hk2] at this; exact this
    clear ho h11 h26 hk2
    have y0 : w.cell? ⟨b, off, none⟩ = some (.int .i64 op0) := by simpa [Sy.Ex.op] using z0
    have y1 : w.cell? ⟨b, off + 1, none⟩ = some (.int .i64 n0) := by simpa [Sy.Ex.n] using z1
    have y2 : w.cell? ⟨b, off + 2, none⟩ = some (.slice (ad 0) ks0.length (cc 0)) := by simpa [Sy.Ex.ks] using z2
    have y3 : w.cell? ⟨b, off + 3, none⟩ = some (.int .i64 op1) := by simpa [Sy.Ex.op] using z3
    have y4 : w.cell? ⟨b, off + 3 + 1, none⟩ = some (.int .i64 n1) := by simpa [Sy.Ex.n] using z4
    have y5 : w.cell? ⟨b, off + 3 + 2, none⟩ = some (.slice (ad 1) ks1.length (cc 1)) := by simpa [Sy.Ex.ks] using z5
    have bl := cell_lt z0
    have hne : b ≠ w.heap.size := by omega
    have C1 := Lib.hid c1
    have C2 := Lib.hid c2
    have EB := Lib.hid eB
    have SG := Lib.hid sg
    clear c1 hO hT hc hkk KK z0 z1 z2 eB h0 lr c2 KL z3 z4 z5 h1 ls sg
    have q0 : Hid (Qw w w) := Lib.hid (Qw.refl w)
    show Calls Tryz.prog 38 #[.agg #[.int .i64 (o : Int), .int .i64 0, .slice (some ⟨b, off, none⟩) 2 cap]] w _
    go_enter Tryz.func38, Tryz.ntmps38
    go_upto_region 4 with (go_at_call 72; ((with_reducible refine (KD.out _).mono ?_); rintro e w' ⟨rfl, rfl⟩))
    refine code_of (fun w' => Qw w w' ∧ Bx w' w.heap.size #[.int .i64 (o : Int), .int .i64 0, .slice (some ⟨b, off, none⟩) 2 cap] 27) ⟨Qz, by repeat (first | exact Bx.new _ _ _ | refine Bx.alloc ?_ _ | refine Bx.drew ?_)⟩ ?_
    rintro w1 ⟨q1, B⟩
    have x0 := B.kcell 0 _ rfl
    have x2 := B.kcell 2 _ rfl
    have k0 : ∀ p : Kept w1, p.v.cell? ⟨b, off, none⟩ = some (.int .i64 op0) := fun p => (World.cell?_of_block (w := w) ((q1.trans p.h).block _ bl)).trans y0
    have k1 : ∀ p : Kept w1, p.v.cell? ⟨b, off + 1, none⟩ = some (.int .i64 n0) := fun p => (World.cell?_of_block (w := w) ((q1.trans p.h).block _ bl)).trans y1
    have k2 : ∀ p : Kept w1, p.v.cell? ⟨b, off + 2, none⟩ = some (.slice (ad 0) ks0.length (cc 0)) := fun p => (World.cell?_of_block (w := w) ((q1.trans p.h).block _ bl)).trans y2
    have k3 : ∀ p : Kept w1, p.v.cell? ⟨b, off + 3, none⟩ = some (.int .i64 op1) := fun p => (World.cell?_of_block (w := w) ((q1.trans p.h).block _ bl)).trans y3
    have k4 : ∀ p : Kept w1, p.v.cell? ⟨b, off + 3 + 1, none⟩ = some (.int .i64 n1) := fun p => (World.cell?_of_block (w := w) ((q1.trans p.h).block _ bl)).trans y4
    have k5 : ∀ p : Kept w1, p.v.cell? ⟨b, off + 3 + 2, none⟩ = some (.slice (ad 1) ks1.length (cc 1)) := fun p => (World.cell?_of_block (w := w) ((q1.trans p.h).block _ bl)).trans y5
    have D1 : Hid (∀ p : Kept w1, Calls Tryz.prog 71 #[.agg #[.int .i64 op0, .int .i64 n0, .slice (ad 0) ks0.length (cc 0)]] p.v fun e w' => e = .returned (.string (bs r)) ∧ Qw p.v w') := Lib.hid fun p => C1.out _ (q1.trans p.h)
    have D2 : Hid (∀ p : Kept w1, Calls Tryz.prog 71 #[.agg #[.int .i64 op1, .int .i64 n1, .slice (ad 1) ks1.length (cc 1)]] p.v fun e w' => e = .returned (.string (bs s)) ∧ Qw p.v w') := Lib.hid fun p => C2.out _ (q1.trans p.h)
    have D3 : Hid (∀ p : Kept w1, Calls Tryz.prog 73 #[.int .i64 (o : Int)] p.v fun e w' => e = .returned (.string (bs u)) ∧ Qw p.v w') := Lib.hid fun p => SG.out _ (q1.trans p.h)
    clear C1 y0 y1 y2 q0 C2 y3 y4 y5 SG
    refine region_kept (by kernel_rfl) (by kernel_rfl) ?_
    repeat (go_big_quiet_step (first | (go_at_call 71; with_reducible exact Kept.call (D1.out _)) | (go_at_call 71; with_reducible exact Kept.call (D2.out _)) | (go_at_call 73; with_reducible exact Kept.call (D3.out _))))
    refine wpQuiet_nil ?_
    intro w2 q
    go_wp2_with fail
    go_ret
    exact ⟨by rw [← EB.out]; rfl, q1.trans q⟩
end Go.Proofs.YtbcbnkapipimmaaGreatDoor
set_option linter.unusedVariables false
set_option linter.unusedSimpArgs false
namespace Go.Proofs.YtbcbnkapipimmaaGreatDoor
open Go.RowKit
structure WrB (op n : Int) (ks : List Sy.Ex) : Prop where
  p : WrC 38 (Sy.bpr (.mk op n ks)) op n ks
  c : WrC 71 (Sy.bcl (.mk op n ks)) op n ks
  v : WrC 58 (35 :: Sy.bce (.mk op n ks)) op n ks
theorem rw_mk {op n : Int} {ks : List Sy.Ex} (l : (Sy.bpr (.mk op n ks)).length ≤ 2000000 ∧ (Sy.bcl (.mk op n ks)).length ≤ 2000000) (hp : WrC 38 (Sy.bpr (.mk op n ks)) op n ks) (hc : WrC 71 (Sy.bcl (.mk op n ks)) op n ks) : WrB op n ks := by
  refine ⟨hp, hc, ?_⟩
  by_cases h0 : op = 0
  · subst h0
    rw [show Sy.bce (.mk 0 n ks) = Sy.bcl (.mk 0 n ks) by unfold Sy.bce; exact if_pos rfl]
    exact rw_cell_num (by omega) hc
  · by_cases h1 : op = 1
    · subst h1
      rw [show Sy.bce (.mk 1 n ks) = Sy.bcl (.mk 1 n ks) by unfold Sy.bce; exact if_pos rfl]
      exact rw_cell_var (by omega) hc
    · rw [show Sy.bce (.mk op n ks) = 91 :: Sy.bpr (.mk op n ks) ++ [93] by unfold Sy.bce; rw [if_neg (by simp [Sy.smp, Sy.Ex.op, h0, h1])]; rfl]
      exact rw_cell_br h0 h1 (by omega) hp
theorem rw_all (x : Sy.Ex) : Sy.okx x = true → Sy.dpt x ≤ 16 → WrB x.op x.n x.ks := by
  induction x using Sy.Ex.ind with
  | h op n ks ih =>
    intro hok hd
    show WrB op n ks
    have hl := Sy.blen_16 hok hd
    have hF := Sy.form hok
    cases hF with
    | num n h0 h1 =>
      have hc := rw_closed_num h0 h1
      have e1 : Sy.bpr (.mk 0 n []) = Sy.bcl (.mk 0 n []) := by simp [Sy.bpr, Sy.bcl, Sy.bpc]
      refine rw_mk hl ?_ hc
      rw [e1]
      exact rw_shown_cl (o := 0) (by decide) (by decide) (by decide) (by omega) hc
    | un o x hx ho =>
      obtain ⟨op1, n1, ks1⟩ := x
      have hT : ((o : Int)).toNat = o := by omega
      have hd1 := dpt_kid1 hd
      have A := ih (.mk op1 n1 ks1) (by simp) hx hd1
      have hl1 := Sy.blen_16 hx hd1
      by_cases o1 : o = 1
      · subst o1
        have e1 : Sy.bpr (.mk ((1 : Nat) : Int) 0 [.mk op1 n1 ks1]) = 35 :: Sy.bce (.mk op1 n1 ks1) := by
          simp only [Sy.bpr, Sy.bpc, Sy.bce, Sy.smp, Sy.binb, Sy.bcl]; simp [Sy.bpr]
        have e2 : Sy.bcl (.mk ((1 : Nat) : Int) 0 [.mk op1 n1 ks1]) = 35 :: Sy.bce (.mk op1 n1 ks1) := by
          simp only [Sy.bcl, Sy.bpc, Sy.bce, Sy.smp, Sy.binb]; simp [Sy.bpr]
        have hc : WrC 71 (35 :: Sy.bce (.mk op1 n1 ks1)) ((1 : Nat) : Int) 0 [.mk op1 n1 ks1] := rw_closed_var (by unfold Sy.bce Sy.binb; split <;> simp <;> omega) A.v
        refine rw_mk hl ?_ ?_
        · rw [e1]; exact rw_shown_cl (o := 1) (by decide) (by decide) (by decide) (by unfold Sy.bce Sy.binb; split <;> simp <;> omega) hc
        · rw [e2]; exact hc
      · by_cases o2 : o = 2
        · subst o2
          have e1 : Sy.bpr (.mk ((2 : Nat) : Int) 0 [.mk op1 n1 ks1]) = 45 :: Sy.bcl (.mk op1 n1 ks1) := by simp [Sy.bpr, Sy.bcl, Sy.bpc]
          have e2 : Sy.bcl (.mk ((2 : Nat) : Int) 0 [.mk op1 n1 ks1]) = Sy.binb (.mk ((2 : Nat) : Int) 0 [.mk op1 n1 ks1]) := by unfold Sy.binb; rw [e1]; simp [Sy.bcl, Sy.bpc]
          have hp : WrC 38 (Sy.bpr (.mk ((2 : Nat) : Int) 0 [.mk op1 n1 ks1])) ((2 : Nat) : Int) 0 [.mk op1 n1 ks1] := by
            rw [e1]; exact rw_shown_neg (by omega) A.c
          refine rw_mk hl hp ?_
          rw [e2]
          exact rw_closed_lo (o := 2) (by decide) (by omega) hp
        · have e1 : Sy.bpr (.mk (o : Int) 0 [.mk op1 n1 ks1]) = Sy.onm o ++ Sy.binb (.mk op1 n1 ks1) := by
            unfold Sy.bpr; rw [Sy.bpc, if_neg (by omega), if_neg (by omega), hT]; simp [Sy.binb, Sy.bpr]
          have e2 : Sy.bcl (.mk (o : Int) 0 [.mk op1 n1 ks1]) = Sy.onm o ++ Sy.binb (.mk op1 n1 ks1) := by
            unfold Sy.bcl; rw [Sy.bpc, if_neg (by omega), if_neg (by omega), hT]; simp [Sy.binb, Sy.bpr]
          have b1 := binb_len (.mk op1 n1 ks1)
          have hc : WrC 71 (Sy.onm o ++ Sy.binb (.mk op1 n1 ks1)) (o : Int) 0 [.mk op1 n1 ks1] := rw_closed_fun (by omega) (by omega) (by omega) (by omega) A.p
          refine rw_mk hl ?_ ?_
          · rw [e1]; exact rw_shown_cl (by omega) (by omega) (by rw [Sy.kds_1i o (by omega) (by omega)]; decide) (by have := Sy.onm_len o (by omega); simp only [List.length_append]; omega) hc
          · rw [e2]; exact hc
    | bin o x y hx hy ho =>
      obtain ⟨op1, n1, ks1⟩ := x
      obtain ⟨op2, n2, ks2⟩ := y
      have hT : ((o : Int)).toNat = o := by omega
      obtain ⟨hd1, hd2⟩ := dpt_kid2 hd
      have A := ih (.mk op1 n1 ks1) (by simp) hx hd1
      have B := ih (.mk op2 n2 ks2) (by simp) hy hd2
      have hl1 := Sy.blen_16 hx hd1
      have hl2 := Sy.blen_16 hy hd2
      have b1 := binb_len (.mk op1 n1 ks1)
      have b2 := binb_len (.mk op2 n2 ks2)
      by_cases o11 : o = 11
      · subst o11
        have e1 : Sy.bpr (.mk ((11 : Nat) : Int) 0 [.mk op1 n1 ks1, .mk op2 n2 ks2]) = Sy.onm 11 ++ (Sy.binb (.mk op1 n1 ks1) ++ ([47] ++ Sy.binb (.mk op2 n2 ks2))) := by
          unfold Sy.bpr; rw [Sy.bpc, if_pos (show ((11 : Nat) : Int) = 11 from rfl)]; simp [Sy.binb, Sy.bpr]
        have e2 : Sy.bcl (.mk ((11 : Nat) : Int) 0 [.mk op1 n1 ks1, .mk op2 n2 ks2]) = Sy.onm 11 ++ (Sy.binb (.mk op1 n1 ks1) ++ ([47] ++ Sy.binb (.mk op2 n2 ks2))) := by
          unfold Sy.bcl; rw [Sy.bpc, if_pos (show ((11 : Nat) : Int) = 11 from rfl)]; simp [Sy.binb, Sy.bpr]
        have hc : WrC 71 (Sy.onm 11 ++ (Sy.binb (.mk op1 n1 ks1) ++ ([47] ++ Sy.binb (.mk op2 n2 ks2)))) ((11 : Nat) : Int) 0 [.mk op1 n1 ks1, .mk op2 n2 ks2] := rw_closed_atan (by omega) (by omega) A.p B.p
        refine rw_mk hl ?_ ?_
        · rw [e1]; exact rw_shown_atan (by rw [← e1]; omega) hc
        · rw [e2]; exact hc
      · have e1 : Sy.bpr (.mk (o : Int) 0 [.mk op1 n1 ks1, .mk op2 n2 ks2]) = Sy.bcl (.mk op1 n1 ks1) ++ ((32 :: Sy.onm o ++ [32]) ++ Sy.bcl (.mk op2 n2 ks2)) := by
          unfold Sy.bpr; rw [Sy.bpc, if_neg (by omega), hT]; simp [Sy.bcl]
        have e2 : Sy.bcl (.mk (o : Int) 0 [.mk op1 n1 ks1, .mk op2 n2 ks2]) = Sy.binb (.mk (o : Int) 0 [.mk op1 n1 ks1, .mk op2 n2 ks2]) := by
          unfold Sy.binb; rw [e1]; unfold Sy.bcl; rw [Sy.bpc, if_neg (by omega), hT]; simp [Sy.bcl]
        have hp : WrC 38 (Sy.bpr (.mk (o : Int) 0 [.mk op1 n1 ks1, .mk op2 n2 ks2])) (o : Int) 0 [.mk op1 n1 ks1, .mk op2 n2 ks2] := by
          rw [e1]; exact rw_shown_op (by omega) (by omega) (by omega) (Sy.kds_2i o (by omega) (by omega)) (by omega) (by omega) A.c B.c
        refine rw_mk hl hp ?_
        rw [e2]
        by_cases h8 : o < 8
        · exact rw_closed_lo ⟨by omega, by omega, h8⟩ (by omega) hp
        · exact rw_closed_hi (by omega) (by omega) hp
theorem rw_print (op n : Int) (ks : List Sy.Ex) (a : Option Addr) (cap : Nat) (S : Nat → Prop) (w : World) (hO : Ow w) (hT : Tb w) (hk : KidsB w S a cap ks) :
    Calls Tryz.prog 13 #[.agg #[.int .i64 op, .int .i64 n, .slice a ks.length cap]] w fun e w' => e = .returned (.string (bs (Sy.prt (.mk op n ks)))) ∧ Qw w w' := by
  have cr : ∀ w1, Qw w w1 → Calls Tryz.prog 37 #[.agg #[.int .i64 op, .int .i64 n, .slice a ks.length cap]] w1 fun e w' => e = .returned (.bool (Sy.rgt (.mk op n ks))) ∧ Qw w1 w' := fun w1 q => rw_right op n ks a cap S w1 (hk.kept q)
  unfold Sy.prt
  cases hv : Sy.rgt (.mk op n ks) with
  | false =>
    rw [hv] at cr
    rw [if_neg (by decide)]
    have CR := Lib.hid cr
    clear cr hO hT hk
    have q0 : Hid (Qw w w) := Lib.hid (Qw.refl w)
    go_enter Tryz.func13, Tryz.ntmps13
    go_wp2_with (go_at_call 37; ((with_reducible refine (CR.out _ Qz).mono ?_); rintro e w' ⟨rfl, q⟩; replace q0 : Hid (Qw w w') := Lib.hid (Qw.trans Qz q); clear q))
    go_ret
    exact ⟨rfl, q0.out⟩
  | true =>
    rw [hv] at cr
    rw [if_pos rfl]
    have hv2 := hv
    simp only [Sy.rgt, Sy.depB, Bool.and_eq_true, decide_eq_true_eq] at hv2
    have A := rw_all (.mk op n ks) hv2.1 hv2.2
    have cp : ∀ w1, Qw w w1 → Calls Tryz.prog 38 #[.agg #[.int .i64 op, .int .i64 n, .slice a ks.length cap]] w1 fun e w' => e = .returned (.string (bs (Sy.bpr (.mk op n ks)))) ∧ Qw w1 w' := fun w1 q => A.p a cap S w1 (hO.kept q) (hT.kept q) (hk.kept q)
    generalize Sy.bpr (.mk op n ks) = r at cp ⊢
    have CR := Lib.hid cr
    have CP := Lib.hid cp
    clear cr cp hO hT hk A hv hv2
    have q0 : Hid (Qw w w) := Lib.hid (Qw.refl w)
    go_enter Tryz.func13, Tryz.ntmps13
    go_wp2_with (first
      | (go_at_call 37; ((with_reducible refine (CR.out _ Qz).mono ?_); rintro e w' ⟨rfl, q⟩; have B : Bx w' w.heap.size #[.int .i64 op, .int .i64 n, .slice a ks.length cap] 27 := Bx.kept (by repeat (first | exact Bx.new _ _ _ | refine Bx.alloc ?_ _ | refine Bx.drew ?_)) q; have x0 := B.cell' 0 _ rfl; have x1 := B.cell' 1 _ rfl; have x2 := B.cell' 2 _ rfl; clear B; replace q0 : Hid (Qw w w') := Lib.hid (Qw.trans Qz q); clear q))
      | (go_at_call 38; ((with_reducible refine (CP.out _ Qz).mono ?_); rintro e w' ⟨rfl, q⟩; replace q0 : Hid (Qw w w') := Lib.hid (Qw.trans Qz q); clear q)))
    go_ret
    exact ⟨rfl, q0.out⟩
end Go.Proofs.YtbcbnkapipimmaaGreatDoor
set_option linter.unusedVariables false
set_option linter.unusedSimpArgs false
namespace Go.Proofs.YtbcbnkapipimmaaGreatDoor
open Go.RowKit
namespace Sy
open Lx
theorem sz_le (x : Ex) : okx x = true → sz x + 1 ≤ 2 ^ dpt x := by
  induction x using Ex.ind with
  | h op n ks ih =>
    intro hok
    have hF := form hok
    cases hF with
    | num n h0 h1 =>
      have d : 2 ≤ 2 ^ dpt (.mk 0 n []) := two_le (a := 1) (by rw [dpt_mk]; omega)
      rw [sz_mk]; simp; omega
    | un o x hx ho =>
      have ihx := ih x (by simp) hx
      have d : dpt (.mk (o : Int) 0 [x]) = dpt x + 1 := by rw [dpt_mk]; simp [dmx]; omega
      rw [sz_mk, d, Nat.pow_succ]; simp; omega
    | bin o x y hx hy ho =>
      have ihx := ih x (by simp) hx
      have ihy := ih y (by simp) hy
      have d : dpt (.mk (o : Int) 0 [x, y]) = max (dpt x) (dpt y) + 1 := by rw [dpt_mk]; simp [dmx]; omega
      have a : 2 ^ dpt x ≤ 2 ^ max (dpt x) (dpt y) := two_le (by omega)
      have b : 2 ^ dpt y ≤ 2 ^ max (dpt x) (dpt y) := two_le (by omega)
      rw [sz_mk, d, Nat.pow_succ]; simp; omega
structure Dwn (b : Bl) : Prop where
  v : vldb b = true
  dl : dpt b.left ≤ 4
  dx : dpt b.x ≤ 4
  wl : b.words.length ≤ 3
  dw : ∀ w ∈ b.words, dpt w.2 ≤ 2
  k2 : b.kind = 2 → b.x.op = 0
  k3 : b.kind = 3 → b.left.op = 0
theorem lab_ok {lab : Int} (h : 0 ≤ lab ∧ lab ≤ 6) : (decide (lab = 0) || cnt lab 99999) = true := by
  simp [cnt]; omega
theorem dep_le {x : Ex} {d : Nat} (h : dpt x ≤ d) (hd : d ≤ 16) : depB x = true := decide_eq_true (by omega)
theorem dwn1 {lab : Int} {sk : Bool} {m : Int} {x : Ex} (h : 0 ≤ lab ∧ lab ≤ 6) (m0 : 0 ≤ m) (m1 : m < 1000000000000000) (hx : okx x = true) (d : dpt x ≤ 4) : Dwn ⟨1, lab, sk, [], num m, x, 0⟩ where
  v := by
    have l1 := lab_ok h; have o1 := okx_num' m0 m1; have d1 := dep_le d (by decide); have d2 : depB (num m) = true := dep_le (d := 1) (by rw [dpt_num]; exact Nat.le_refl _) (by decide)
    simp only [vldb, okb, limb, l1, o1, hx, d1, d2]; simp
  dl := by rw [dpt_num]; decide
  dx := d
  wl := Nat.zero_le _
  dw := fun w hw => by simp at hw
  k2 := fun h => by simp at h
  k3 := fun h => by simp at h
theorem len4 {x : Ex} (h : okx x = true) (d : dpt x ≤ 4) : (bpr x).length ≤ 300 ∧ (bva x).length ≤ 300 ∧ (bce x).length ≤ 300 := by
  have s := sz_le x h
  have t : 2 ^ dpt x ≤ 16 := two_le (b := 4) d
  have l := blz x h
  have l2 := bva_len h
  have l3 := bce_len h
  unfold Lz at l
  omega
theorem Dwn.len {b : Bl} (h : Dwn b) : (fmb b).length ≤ 3000 := by
  obtain ⟨kind, label, skip, words, left, x, n⟩ := b
  obtain ⟨hv, dl, dx, wl, dw, _, _⟩ := h
  simp only at dl dx wl dw
  have hok : okb ⟨kind, label, skip, words, left, x, n⟩ = true := by simp only [vldb, Bool.and_eq_true] at hv; exact hv.1
  have k := fmb_len hok
  have hvw : words.length ≤ 24 ∧ ∀ i (hi : i < words.length), isw words[i].1 = true ∧ okx words[i].2 = true ∧ dpt words[i].2 ≤ 16 := Sy.vld_word hv
  have ww : (words.map (fun w => (wdb w).length + 1)).sum ≤ 3 * 302 := by
    have := sum_le_len (l := words.map (fun w => (wdb w).length + 1)) (m := 302) (fun n hn => by
      obtain ⟨w, hw, rfl⟩ := List.mem_map.1 hn
      obtain ⟨i, hi, rfl⟩ := List.getElem_of_mem hw
      have l := (len4 (hvw.2 i hi).2.1 (by have := dw _ hw; omega)).2.1
      have hw' : (wdb words[i]).length = (bva words[i].2).length + 1 := by unfold wdb; rw [List.length_cons]
      omega)
    rw [List.length_map] at this
    exact Nat.le_trans this (Nat.mul_le_mul_right _ wl)
  have cl : kind ≠ 0 → (ctl ⟨kind, label, skip, words, left, x, n⟩).length ≤ 1000 := by
    intro k0
    simp only [okb, Bool.and_eq_true] at hok
    have hk := hok.2
    rw [if_neg k0] at hk
    simp only [Bool.and_eq_true] at hk
    replace hk := hk.2
    have cn3 : ∀ {n : Int}, cnt n 3 = true → (decs n).length ≤ 5 := fun h => decs_len h (by decide)
    unfold ctl
    by_cases k1 : kind = 1
    · simp [k1] at hk ⊢
      have a := len4 hk.1.1 dl; have b := len4 hk.1.2 dx
      omega
    · by_cases k2 : kind = 2
      · simp [k2] at hk ⊢
        have b := len4 hk.1.2 dx
        simp [cGOTO]; omega
      · by_cases k3 : kind = 3
        · simp [k3] at hk ⊢
          have a := len4 hk.1.1 dl; have b := len4 hk.1.2 dx
          simp [cGOTO, cIF, binb]; omega
        · by_cases k4 : kind = 4
          · simp [k4] at hk ⊢
            have b := len4 hk.1.2 dx
            have c := cn3 hk.2
            simp [cWHILE, cDO, binb]; omega
          · by_cases k5 : kind = 5
            · simp [k5] at hk ⊢
              have c := cn3 hk.2
              simp [cEND]; omega
            · by_cases k6 : kind = 6
              · simp [k6] at hk ⊢
                have c := decs_len hk.2 (Nat.le_refl _)
                omega
              · simp [k1, k2, k3, k4, k5, k6] at hk
  unfold bodb at k
  simp only at k
  by_cases k0 : kind = 0
  · rw [if_pos k0] at k; omega
  · rw [if_neg k0] at k; have := cl k0; omega
end Sy
end Go.Proofs.YtbcbnkapipimmaaGreatDoor

