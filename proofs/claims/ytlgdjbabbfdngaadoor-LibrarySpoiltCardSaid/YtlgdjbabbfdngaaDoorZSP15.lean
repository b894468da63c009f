import Derived.Test.YtlgdjbabbfdngaaDoorZSP0
import Derived.Test.YtlgdjbabbfdngaaDoorZSP1
import Derived.Test.YtlgdjbabbfdngaaDoorZSP3
import Derived.Test.YtlgdjbabbfdngaaDoorZSP12
import Derived.Test.YtlgdjbabbfdngaaDoorZSP13
import Derived.Test.YtlgdjbabbfdngaaDoorZSP14
import Derived.Test.YtlgdjbabbfdngaaDoorRows
import Derived.Deep.Cut
import Derived.Defers
import Derived.Recover
import Derived.BigRegion
import Derived.WalkMore
import Derived.Outline
import Derived.OwnWalk
import Derived.IntWalk
import Derived.Lib.MinMax
import Derived.Laws.IdiomStrings
import Derived.Lib.Strings
set_option linter.unusedVariables false
set_option linter.unusedSimpArgs false
namespace Go.Proofs.YtlgdjbabbfdngaaDoor
open Go.RowKit
theorem rw_none (op n : Int) (l : Nat) (a : Option Addr) (cap : Nat) (l1 : l ≤ cap) (l2 : cap ≤ 9223372036854775807) (w : World) :
    Calls Tryd.prog 61 #[.agg #[.int .i64 op, .int .i64 n, .slice a l cap]] w fun e w' => e = .returned (.bool (decide (op = 0) && decide (n = 0) && decide (l = 0))) ∧ Qw w w' := by
  by_cases c1 : op = 0
  · subst c1
    by_cases c2 : n = 0
    · subst c2
      by_cases c3 : l = 0
      · subst c3
        go_enter Tryd.func61, Tryd.ntmps61
        go_wp2
        go_ret
        exact ⟨rfl, Qz⟩
      · have h3 : ((l : Int) == 0) = false := beq_eq_false_iff_ne.2 (by omega)
        rw [decide_eq_false c3]
        clear c3
        go_enter Tryd.func61, Tryd.ntmps61
        go_wp2
        go_ret
        exact ⟨rfl, Qz⟩
    · have h3 : (n == 0) = false := beq_eq_false_iff_ne.2 c2
      rw [decide_eq_false c2]
      clear c2
      go_enter Tryd.func61, Tryd.ntmps61
      go_wp2
      go_ret
      exact ⟨rfl, Qz⟩
  · have h3 : (op == 0) = false := beq_eq_false_iff_ne.2 c1
    rw [decide_eq_false c1]
    clear c1
    go_enter Tryd.func61, Tryd.ntmps61
    go_wp2
    go_ret
    exact ⟨rfl, Qz⟩
end Go.Proofs.YtlgdjbabbfdngaaDoor
set_option linter.unusedVariables false
set_option linter.unusedSimpArgs false
namespace Go.Proofs.YtlgdjbabbfdngaaDoor
open Go.RowKit
theorem all_takeL {α : Type} (ks : List α) (f : α → Bool) {i : Nat} (h : i < ks.length) : (f ks[i] = false → ks.all f = false) ∧ ((ks.take i).all f = true → f ks[i] = true → (ks.take (i + 1)).all f = true) := by
  refine ⟨fun e => ?_, fun e1 e2 => ?_⟩
  · rw [List.all_eq_false]
    exact ⟨ks[i], List.getElem_mem h, by rw [e]; decide⟩
  · rw [List.take_add_one, List.getElem?_eq_getElem h, List.all_append, e1]
    simp [e2]
namespace Sy
end Sy
end Go.Proofs.YtlgdjbabbfdngaaDoor
set_option linter.unusedVariables false
set_option linter.unusedSimpArgs false
namespace Go.Proofs.YtlgdjbabbfdngaaDoor
open Go.RowKit
theorem BlkB.kept {w w' : World} {S : Nat → Prop} {b : Sy.Bl} {cs : Array Value} (h : BlkB w S b cs) (q : Qw w w') : BlkB w' S b cs := h.go fun b hS hb => ⟨q.block b hb, hS⟩
end Go.Proofs.YtlgdjbabbfdngaaDoor
set_option linter.unusedVariables false
set_option linter.unusedSimpArgs false
namespace Go.Proofs.YtlgdjbabbfdngaaDoor
open Go.RowKit
theorem KidsB.at {w : World} {S : Nat → Prop} {a : Option Addr} {cap : Nat} {ks : List Sy.Ex} (h : KidsB w S a cap ks) (i : Nat) (hi : i < ks.length) : ∃ (b off : Nat) (ad : Option Addr) (cc : Nat), a = some ⟨b, off, none⟩ ∧ S b ∧ b < w.heap.size ∧
    w.cell? ⟨b, off + i * 3, none⟩ = some (.int .i64 ks[i].op) ∧ w.cell? ⟨b, off + i * 3 + 1, none⟩ = some (.int .i64 ks[i].n) ∧ w.cell? ⟨b, off + i * 3 + 2, none⟩ = some (.slice ad ks[i].ks.length cc) ∧ KidsB w S ad cc ks[i].ks := by
  cases h with
  | nl => simp at hi
  | mk b off cap ks ad cc hS h1 h2 hc hkk =>
    obtain ⟨z0, z1, z2⟩ := hc i hi
    exact ⟨b, off, ad i, cc i, rfl, hS, cell_lt z0, z0, z1, z2, hkk i hi⟩
set_option maxRecDepth 100000 in
set_option maxHeartbeats 4000000 in
theorem sx_sameExpr (x : Sy.Ex) : ∀ (a a' : Option Addr) (cap cap' : Nat) (S S' : Nat → Prop) (w : World), KidsB w S a cap x.ks → KidsB w S' a' cap' x.ks →
    Calls Tryd.prog 63 #[.agg #[.int .i64 x.op, .int .i64 x.n, .slice a x.ks.length cap], .agg #[.int .i64 x.op, .int .i64 x.n, .slice a' x.ks.length cap']] w fun e w' => e = .returned (.bool true) ∧ Qw w w' := by
  induction x using Sy.Ex.ind with
  | h op n ks ih =>
    intro a a' cap cap' S S' w hk hk'
    show Calls Tryd.prog 63 #[.agg #[.int .i64 op, .int .i64 n, .slice a ks.length cap], .agg #[.int .i64 op, .int .i64 n, .slice a' ks.length cap']] w _
    replace hk : KidsB w S a cap ks := hk
    replace hk' : KidsB w S' a' cap' ks := hk'
    obtain ⟨l1, l2⟩ := hk.cap
    obtain ⟨l1', l2'⟩ := hk'.cap
    have HK := Lib.hid hk
    have HK' := Lib.hid hk'
    have IH := Lib.hid ih
    clear hk hk' ih
    go_enter Tryd.func63, Tryd.ntmps63
    go_wp2_with fail
    refine code_of (fun w2 => Hid (Bx w2 w.heap.size #[.int .i64 op, .int .i64 n, .slice a ks.length cap] 35) ∧ Hid (Bx w2 (w.heap.size + 1) #[.int .i64 op, .int .i64 n, .slice a' ks.length cap'] 35) ∧ Hid (Qw w w2)) ⟨Lib.hid (by repeat (first | exact Bx.new _ _ _ | refine Bx.alloc ?_ _ | refine Bx.drew ?_)), Lib.hid (by have := Bx.new (w.alloc (.cells #[.int .i64 op, .int .i64 n, .slice a ks.length cap] 35)) #[.int .i64 op, .int .i64 n, .slice a' ks.length cap'] 35; simpa using this), Lib.hid (by unfold Qw; repeat (first | exact Below.refl _ _ | refine Below.alloc ?_ (by simp) _ | refine Below.drew ?_))⟩ ?_
    rintro w2 ⟨B0, B1, Q0⟩
    go_loopw [5] (fun iv wr => ∃ i : Nat, iv = .int .i64 (i : Int) ∧ i ≤ ks.length ∧ Hid (Bx wr w.heap.size #[.int .i64 op, .int .i64 n, .slice a ks.length cap] 35) ∧ Hid (Bx wr (w.heap.size + 1) #[.int .i64 op, .int .i64 n, .slice a' ks.length cap'] 35) ∧ Hid (Qw w wr)) (fun iv _ => ks.length - (intOf iv).toNat)
    case atStart => exact ⟨0, rfl, Nat.zero_le _, B0, B1, Q0⟩
    case round =>
      clear B0 B1 Q0
      obtain ⟨i, rfl, hi, B0, B1, Q0⟩ := hrel
      have x2 : wr.cell? ⟨w.heap.size, 2, none⟩ = some (.slice a ks.length cap) := B0.out.cell' 2 _ rfl
      have y2 : wr.cell? ⟨w.heap.size + 1, 2, none⟩ = some (.slice a' ks.length cap') := B1.out.cell' 2 _ rfl
      by_cases hlt : i < ks.length
      · obtain ⟨b, off, ad, cc, rfl, hS, bl, z0, z1, z2, KK⟩ := HK.out.at i hlt
        obtain ⟨b', off', ad', cc', rfl, hS', bl', z0', z1', z2', KK'⟩ := HK'.out.at i hlt
        have hi2 : (i : Int) < (ks.length : Int) := by omega
        have cr : ∀ w1, Qw w w1 → _ := fun w1 q => IH.out ks[i] (List.getElem_mem hlt) ad ad' cc cc' S S' w1 (KK.kept q) (KK'.kept q)
        have D1 : Hid (∀ p : Kept wr, Calls Tryd.prog 63 #[.agg #[.int .i64 ks[i].op, .int .i64 ks[i].n, .slice ad ks[i].ks.length cc], .agg #[.int .i64 ks[i].op, .int .i64 ks[i].n, .slice ad' ks[i].ks.length cc']] p.v fun e w' => e = .returned (.bool true) ∧ Qw p.v w') := Lib.hid fun p => cr p.v (Q0.out.trans p.h)
        have kx := B0.out.kcell 2 _ rfl
        have ky := B1.out.kcell 2 _ rfl
        have k0 : ∀ p : Kept wr, p.v.cell? ⟨b, off + i * 3, none⟩ = some (.int .i64 ks[i].op) := fun p => (World.cell?_of_block (w := w) ((Q0.out.trans p.h).block _ bl)).trans z0
        have k1 : ∀ p : Kept wr, p.v.cell? ⟨b, off + i * 3 + 1, none⟩ = some (.int .i64 ks[i].n) := fun p => (World.cell?_of_block (w := w) ((Q0.out.trans p.h).block _ bl)).trans z1
        have k2 : ∀ p : Kept wr, p.v.cell? ⟨b, off + i * 3 + 2, none⟩ = some (.slice ad ks[i].ks.length cc) := fun p => (World.cell?_of_block (w := w) ((Q0.out.trans p.h).block _ bl)).trans z2
        have k0' : ∀ p : Kept wr, p.v.cell? ⟨b', off' + i * 3, none⟩ = some (.int .i64 ks[i].op) := fun p => (World.cell?_of_block (w := w) ((Q0.out.trans p.h).block _ bl')).trans z0'
        have k1' : ∀ p : Kept wr, p.v.cell? ⟨b', off' + i * 3 + 1, none⟩ = some (.int .i64 ks[i].n) := fun p => (World.cell?_of_block (w := w) ((Q0.out.trans p.h).block _ bl')).trans z1'
        have k2' : ∀ p : Kept wr, p.v.cell? ⟨b', off' + i * 3 + 2, none⟩ = some (.slice ad' ks[i].ks.length cc') := fun p => (World.cell?_of_block (w := w) ((Q0.out.trans p.h).block _ bl')).trans z2'
        clear cr z0 z1 z2 z0' z1' z2' KK KK' IH HK HK'
        generalize ks[i].ks.length = kl at *
        generalize ks[i].op = ko at *
        generalize ks[i].n = kn at *
        go_upto_region 6 with fail
        refine region_kept (by kernel_rfl) (by kernel_rfl) ?_
        repeat (go_big_quiet_step (first | (go_at_call 63; with_reducible exact Kept.call (D1.out _))))
        refine wpQuiet_nil ?_
        intro w3 q
        replace B0 := Lib.hid (B0.out.kept q)
        replace B1 := Lib.hid (B1.out.kept q)
        replace Q0 := Lib.hid (Q0.out.trans q)
        clear kx ky k0 k1 k2 k0' k1' k2' q x2 y2 D1
        go_wp2_with fail
        go_roundw
        case measure => simp [intOf]; omega
        case rel => exact ⟨i + 1, by go_num, by omega, B0, B1, Q0⟩
      · obtain rfl : i = ks.length := by omega
        have hb : ¬ ((ks.length : Nat) : Int) < (ks.length : Int) := by omega
        go_wp2_with fail
        go_ret
        exact ⟨rfl, Q0.out⟩
end Go.Proofs.YtlgdjbabbfdngaaDoor
set_option linter.unusedVariables false
set_option linter.unusedSimpArgs false
namespace Go.Proofs.YtlgdjbabbfdngaaDoor
open Go.RowKit
theorem WordsB.at {w : World} {S : Nat → Prop} {a : Option Addr} {cap : Nat} {ws : List (Int × Sy.Ex)} (h : WordsB w S a cap ws) (i : Nat) (hi : i < ws.length) : ∃ (b off : Nat) (ad : Option Addr) (cc : Nat), a = some ⟨b, off, none⟩ ∧ b < w.heap.size ∧
    w.cell? ⟨b, off + i * 4, none⟩ = some (.int .i64 ws[i].1) ∧ w.cell? ⟨b, off + i * 4 + 1, none⟩ = some (.int .i64 ws[i].2.op) ∧ w.cell? ⟨b, off + i * 4 + 2, none⟩ = some (.int .i64 ws[i].2.n) ∧ w.cell? ⟨b, off + i * 4 + 3, none⟩ = some (.slice ad ws[i].2.ks.length cc) ∧ KidsB w S ad cc ws[i].2.ks := by
  rcases h.2.2 with rfl | ⟨b, off, ad, cc, rfl, hS, hc⟩
  · simp at hi
  · obtain ⟨h1, h2, h3, h4, h5⟩ := hc i hi
    exact ⟨b, off, ad i, cc i, rfl, cell_lt h1, h1, h2, h3, h4, h5⟩
set_option maxRecDepth 100000 in
set_option maxHeartbeats 4000000 in
theorem sx_same (b : Sy.Bl) (cs cs' : Array Value) (S S' : Nat → Prop) (w : World) (hB : BlkB w S b cs) (hB' : BlkB w S' b cs') :
    Calls Tryd.prog 43 #[.agg cs, .agg cs'] w fun e w' => e = .returned (.bool true) ∧ Qw w w' := by
  obtain ⟨kind, label, skip, words, left, x, n⟩ := b
  obtain ⟨wa, wc, la, lc, xa, xc, rfl, hW, hL, hX⟩ := hB
  obtain ⟨wa', wc', la', lc', xa', xc', rfl, hW', hL', hX'⟩ := hB'
  have cl : ∀ w1, Qw w w1 → Calls Tryd.prog 63 #[.agg #[.int .i64 left.op, .int .i64 left.n, .slice la left.ks.length lc], .agg #[.int .i64 left.op, .int .i64 left.n, .slice la' left.ks.length lc']] w1 fun e w' => e = .returned (.bool true) ∧ Qw w1 w' := fun w1 q => sx_sameExpr left la la' lc lc' S S' w1 (hL.kept q) (hL'.kept q)
  have cx : ∀ w1, Qw w w1 → Calls Tryd.prog 63 #[.agg #[.int .i64 x.op, .int .i64 x.n, .slice xa x.ks.length xc], .agg #[.int .i64 x.op, .int .i64 x.n, .slice xa' x.ks.length xc']] w1 fun e w' => e = .returned (.bool true) ∧ Qw w1 w' := fun w1 q => sx_sameExpr x xa xa' xc xc' S S' w1 (hX.kept q) (hX'.kept q)
  have m2 : words.length ≤ 9223372036854775807 := Nat.le_trans hW.1 hW.2.1
  have CL := Lib.hid cl
  have CX := Lib.hid cx
  have HW := Lib.hid hW
  have HW' := Lib.hid hW'
  clear cl cx hW hW' hL hL' hX hX'
  show Calls Tryd.prog 43 #[.agg #[.int .i64 kind, .int .i64 label, .bool skip, .slice wa words.length wc, .int .i64 left.op, .int .i64 left.n, .slice la left.ks.length lc, .int .i64 x.op, .int .i64 x.n, .slice xa x.ks.length xc, .int .i64 n], .agg #[.int .i64 kind, .int .i64 label, .bool skip, .slice wa' words.length wc', .int .i64 left.op, .int .i64 left.n, .slice la' left.ks.length lc', .int .i64 x.op, .int .i64 x.n, .slice xa' x.ks.length xc', .int .i64 n]] w _
  generalize left.ks.length = ll at *
  generalize left.op = lo at *
  generalize left.n = ln at *
  generalize x.ks.length = xl at *
  generalize x.op = xo at *
  generalize x.n = xn at *
  have K0 : Hid (∀ w2, Qw ((w.alloc (.cells #[.int .i64 kind, .int .i64 label, .bool skip, .slice wa words.length wc, .int .i64 lo, .int .i64 ln, .slice la ll lc, .int .i64 xo, .int .i64 xn, .slice xa xl xc, .int .i64 n] 37)).alloc (.cells #[.int .i64 kind, .int .i64 label, .bool skip, .slice wa' words.length wc', .int .i64 lo, .int .i64 ln, .slice la' ll lc', .int .i64 xo, .int .i64 xn, .slice xa' xl xc', .int .i64 n] 37)) w2 →
      Bx w2 w.heap.size #[.int .i64 kind, .int .i64 label, .bool skip, .slice wa words.length wc, .int .i64 lo, .int .i64 ln, .slice la ll lc, .int .i64 xo, .int .i64 xn, .slice xa xl xc, .int .i64 n] 37 ∧ Bx w2 (w.heap.size + 1) #[.int .i64 kind, .int .i64 label, .bool skip, .slice wa' words.length wc', .int .i64 lo, .int .i64 ln, .slice la' ll lc', .int .i64 xo, .int .i64 xn, .slice xa' xl xc', .int .i64 n] 37 ∧ Qw w w2) := Lib.hid fun w2 q => ⟨((Bx.new w _ _).alloc _).kept q, by have := (Bx.new (w.alloc (.cells #[.int .i64 kind, .int .i64 label, .bool skip, .slice wa words.length wc, .int .i64 lo, .int .i64 ln, .slice la ll lc, .int .i64 xo, .int .i64 xn, .slice xa xl xc, .int .i64 n] 37)) #[.int .i64 kind, .int .i64 label, .bool skip, .slice wa' words.length wc', .int .i64 lo, .int .i64 ln, .slice la' ll lc', .int .i64 xo, .int .i64 xn, .slice xa' xl xc', .int .i64 n] 37).kept q; simpa using this, Qw.trans (((Below.refl _ _).alloc (Nat.le_refl _) _).alloc (by simp) _) q⟩
  go_enter Tryd.func43, Tryd.ntmps43
  go_wp2_with (first
    | (go_at_call 63; ((with_reducible refine (CL.out _ (K0.out _ (by unfold Qw; repeat (first | exact Below.refl _ _ | refine Below.drew ?_))).2.2).mono ?_); rintro e w' ⟨rfl, q⟩; have F := Lib.hid (K0.out _ q); clear q; have x7 := F.out.1.cell' 7 _ rfl; have x8 := F.out.1.cell' 8 _ rfl; have x9 := F.out.1.cell' 9 _ rfl; have y7 := F.out.2.1.cell' 7 _ rfl; have y8 := F.out.2.1.cell' 8 _ rfl; have y9 := F.out.2.1.cell' 9 _ rfl; clear CL))
    | (go_at_call 63; ((with_reducible refine (CX.out _ F.out.2.2).mono ?_); rintro e w' ⟨rfl, q⟩; have B0 := Lib.hid (F.out.1.kept q); have B1 := Lib.hid (F.out.2.1.kept q); have Q0 := Lib.hid (F.out.2.2.trans q); clear q F x7 x8 x9 y7 y8 y9; have x3 := B0.out.cell' 3 _ rfl; have y3 := B1.out.cell' 3 _ rfl)))
  go_loopw [5] (fun iv wr => ∃ i : Nat, iv = .int .i64 (i : Int) ∧ i ≤ words.length ∧ Hid (Bx wr w.heap.size #[.int .i64 kind, .int .i64 label, .bool skip, .slice wa words.length wc, .int .i64 lo, .int .i64 ln, .slice la ll lc, .int .i64 xo, .int .i64 xn, .slice xa xl xc, .int .i64 n] 37) ∧ Hid (Bx wr (w.heap.size + 1) #[.int .i64 kind, .int .i64 label, .bool skip, .slice wa' words.length wc', .int .i64 lo, .int .i64 ln, .slice la' ll lc', .int .i64 xo, .int .i64 xn, .slice xa' xl xc', .int .i64 n] 37) ∧ Hid (Qw w wr)) (fun iv _ => words.length - (intOf iv).toNat)
  case atStart => exact ⟨0, rfl, Nat.zero_le _, B0, B1, Q0⟩
  case round =>
    clear B0 B1 Q0 x3 y3
    obtain ⟨i, rfl, hi, B0, B1, Q0⟩ := hrel
    have x3 : wr.cell? ⟨w.heap.size, 3, none⟩ = some (.slice wa words.length wc) := B0.out.cell' 3 _ rfl
    have y3 : wr.cell? ⟨w.heap.size + 1, 3, none⟩ = some (.slice wa' words.length wc') := B1.out.cell' 3 _ rfl
    by_cases hlt : i < words.length
    · obtain ⟨b, off, ad, cc, rfl, bl, z0, z1, z2, z3, KK⟩ := HW.out.at i hlt
      obtain ⟨b', off', ad', cc', rfl, bl', z0', z1', z2', z3', KK'⟩ := HW'.out.at i hlt
      have hi2 : (i : Int) < (words.length : Int) := by omega
      have cr : ∀ w1, Qw w w1 → _ := fun w1 q => sx_sameExpr words[i].2 ad ad' cc cc' S S' w1 (KK.kept q) (KK'.kept q)
      have D1 : Hid (∀ p : Kept wr, Calls Tryd.prog 63 #[.agg #[.int .i64 words[i].2.op, .int .i64 words[i].2.n, .slice ad words[i].2.ks.length cc], .agg #[.int .i64 words[i].2.op, .int .i64 words[i].2.n, .slice ad' words[i].2.ks.length cc']] p.v fun e w' => e = .returned (.bool true) ∧ Qw p.v w') := Lib.hid fun p => cr p.v (Q0.out.trans p.h)
      have kx := B0.out.kcell 3 _ rfl
      have ky := B1.out.kcell 3 _ rfl
      have k0 : ∀ p : Kept wr, p.v.cell? ⟨b, off + i * 4, none⟩ = some (.int .i64 words[i].1) := fun p => (World.cell?_of_block (w := w) ((Q0.out.trans p.h).block _ bl)).trans z0
      have k1 : ∀ p : Kept wr, p.v.cell? ⟨b, off + i * 4 + 1, none⟩ = some (.int .i64 words[i].2.op) := fun p => (World.cell?_of_block (w := w) ((Q0.out.trans p.h).block _ bl)).trans z1
      have k2 : ∀ p : Kept wr, p.v.cell? ⟨b, off + i * 4 + 2, none⟩ = some (.int .i64 words[i].2.n) := fun p => (World.cell?_of_block (w := w) ((Q0.out.trans p.h).block _ bl)).trans z2
      have k3 : ∀ p : Kept wr, p.v.cell? ⟨b, off + i * 4 + 3, none⟩ = some (.slice ad words[i].2.ks.length cc) := fun p => (World.cell?_of_block (w := w) ((Q0.out.trans p.h).block _ bl)).trans z3
      have k0' : ∀ p : Kept wr, p.v.cell? ⟨b', off' + i * 4, none⟩ = some (.int .i64 words[i].1) := fun p => (World.cell?_of_block (w := w) ((Q0.out.trans p.h).block _ bl')).trans z0'
      have k1' : ∀ p : Kept wr, p.v.cell? ⟨b', off' + i * 4 + 1, none⟩ = some (.int .i64 words[i].2.op) := fun p => (World.cell?_of_block (w := w) ((Q0.out.trans p.h).block _ bl')).trans z1'
      have k2' : ∀ p : Kept wr, p.v.cell? ⟨b', off' + i * 4 + 2, none⟩ = some (.int .i64 words[i].2.n) := fun p => (World.cell?_of_block (w := w) ((Q0.out.trans p.h).block _ bl')).trans z2'
      have k3' : ∀ p : Kept wr, p.v.cell? ⟨b', off' + i * 4 + 3, none⟩ = some (.slice ad' words[i].2.ks.length cc') := fun p => (World.cell?_of_block (w := w) ((Q0.out.trans p.h).block _ bl')).trans z3'
      clear cr z0 z1 z2 z3 z0' z1' z2' z3' KK KK' HW HW' CX
      generalize words[i].2.ks.length = kl at *
      generalize words[i].2.op = ko at *
      generalize words[i].2.n = kn at *
      generalize words[i].1 = kc at *
      go_upto_region 6 with fail
      refine region_kept (by kernel_rfl) (by kernel_rfl) ?_
      repeat (go_big_quiet_step (first | (go_at_call 63; with_reducible exact Kept.call (D1.out _))))
      refine wpQuiet_nil ?_
      intro w3 q
      replace B0 := Lib.hid (B0.out.kept q)
      replace B1 := Lib.hid (B1.out.kept q)
      replace Q0 := Lib.hid (Q0.out.trans q)
      clear kx ky k0 k1 k2 k3 k0' k1' k2' k3' q x3 y3 D1
      go_wp2_with fail
      go_roundw
      case measure => simp [intOf]; omega
      case rel => exact ⟨i + 1, by go_num, by omega, B0, B1, Q0⟩
    · obtain rfl : i = words.length := by omega
      have hb : ¬ ((words.length : Nat) : Int) < (words.length : Int) := by omega
      go_wp2_with fail
      go_ret
      exact ⟨rfl, Q0.out⟩
end Go.Proofs.YtlgdjbabbfdngaaDoor
set_option linter.unusedVariables false
set_option linter.unusedSimpArgs false
namespace Go.Proofs.YtlgdjbabbfdngaaDoor
open Go.RowKit
theorem all_wdvL (words : List (Int × Sy.Ex)) {i : Nat} (h : i < words.length) : (Sy.wdv words[i] = false → words.all Sy.wdv = false) ∧ ((words.take i).all Sy.wdv = true → Sy.wdv words[i] = true → (words.take (i + 1)).all Sy.wdv = true) := all_takeL words Sy.wdv h
set_option maxRecDepth 100000 in
set_option maxHeartbeats 4000000 in
theorem rw_validL (kind label n : Int) (skip : Bool) (words : List (Int × Sy.Ex)) (left x : Sy.Ex) (wa la xa : Option Addr) (wc lc xc : Nat) (S : Nat → Prop) (w : World) (hW : WordsB w S wa wc words) (hL : KidsB w S la lc left.ks) (hX : KidsB w S xa xc x.ks) :
    Calls Tryd.prog 41 #[.agg #[.int .i64 kind, .int .i64 label, .bool skip, .slice wa words.length wc, .int .i64 left.op, .int .i64 left.n, .slice la left.ks.length lc, .int .i64 x.op, .int .i64 x.n, .slice xa x.ks.length xc, .int .i64 n]] w fun e w' => e = .returned (.bool (Sy.rvl ⟨kind, label, skip, words, left, x, n⟩)) ∧ Qw w w' := by
  have m2 : words.length ≤ 9223372036854775807 := Nat.le_trans hW.1 hW.2.1
  obtain ⟨l1, l2⟩ := hL.cap
  obtain ⟨x1, x2⟩ := hX.cap
  have RL : Hid (∀ w1, Qw w w1 → Calls Tryd.prog 60 #[.agg #[.int .i64 left.op, .int .i64 left.n, .slice la left.ks.length lc]] w1 fun e w' => e = .returned (.bool (Sy.rgt left)) ∧ Qw w1 w') := Lib.hid fun w1 q => by have := rw_right left.op left.n left.ks la lc S w1 (hL.kept q); rw [show Sy.rgt (.mk left.op left.n left.ks) = Sy.rgt left by cases left; rfl] at this; exact this
  have NL : Hid (∀ w1, Qw w w1 → Calls Tryd.prog 61 #[.agg #[.int .i64 left.op, .int .i64 left.n, .slice la left.ks.length lc]] w1 fun e w' => e = .returned (.bool (Sy.noneB left)) ∧ Qw w1 w') := Lib.hid fun w1 q => by exact rw_none left.op left.n left.ks.length la lc l1 l2 w1
  have RX : Hid (∀ w1, Qw w w1 → Calls Tryd.prog 60 #[.agg #[.int .i64 x.op, .int .i64 x.n, .slice xa x.ks.length xc]] w1 fun e w' => e = .returned (.bool (Sy.rgt x)) ∧ Qw w1 w') := Lib.hid fun w1 q => by have := rw_right x.op x.n x.ks xa xc S w1 (hX.kept q); rw [show Sy.rgt (.mk x.op x.n x.ks) = Sy.rgt x by cases x; rfl] at this; exact this
  have NX : Hid (∀ w1, Qw w w1 → Calls Tryd.prog 61 #[.agg #[.int .i64 x.op, .int .i64 x.n, .slice xa x.ks.length xc]] w1 fun e w' => e = .returned (.bool (Sy.noneB x)) ∧ Qw w1 w') := Lib.hid fun w1 q => by exact rw_none x.op x.n x.ks.length xa xc x1 x2 w1
  obtain ⟨R, hR⟩ : ∃ R, Sy.rvl ⟨kind, label, skip, words, left, x, n⟩ = R := ⟨_, rfl⟩
  rw [hR]
  have HW := Lib.hid hW
  clear hW hL hX l1 l2 x1 x2
  by_cases c0 : kind < 0
  · have d0 : decide (kind < 0) = true := decide_eq_true c0
    have hR0 : Hid (false = R) := Lib.hid (by rw [← hR]; unfold Sy.rvl; rw [show decide (0 ≤ kind) = false from decide_eq_false (by omega)]; simp)
    clear hR HW RL NL RX NX
    go_enter Tryd.func41, Tryd.ntmps41
    go_wp2_with fail
    go_ret
    exact ⟨ret_bool5 hR0.out, (by unfold Qw; repeat (first | exact Below.refl _ _ | refine Below.setCell ?_ (by first | (simp; done) | (simp; omega)) _ | refine Below.alloc ?_ (by first | (simp; done) | (simp; omega)) _ | refine bel_drewN ?_ _ | refine Below.drew ?_))⟩
  have d0 : decide (kind < 0) = false := decide_eq_false c0
  by_cases c1 : 6 < kind
  · have d1 : decide (6 < kind) = true := decide_eq_true c1
    have hR0 : Hid (false = R) := Lib.hid (by rw [← hR]; unfold Sy.rvl; rw [show decide (kind ≤ 6) = false from decide_eq_false (by omega)]; simp)
    clear hR HW RL NL RX NX
    go_enter Tryd.func41, Tryd.ntmps41
    go_wp2_with fail
    go_ret
    exact ⟨ret_bool5 hR0.out, (by unfold Qw; repeat (first | exact Below.refl _ _ | refine Below.setCell ?_ (by first | (simp; done) | (simp; omega)) _ | refine Below.alloc ?_ (by first | (simp; done) | (simp; omega)) _ | refine bel_drewN ?_ _ | refine Below.drew ?_))⟩
  have d1 : decide (6 < kind) = false := decide_eq_false c1
  by_cases c2 : label < 0
  · have d2 : decide (label < 0) = true := decide_eq_true c2
    have hR0 : Hid (false = R) := Lib.hid (by rw [← hR]; unfold Sy.rvl; rw [show decide (0 ≤ label) = false from decide_eq_false (by omega)]; simp)
    clear hR HW RL NL RX NX
    go_enter Tryd.func41, Tryd.ntmps41
    go_wp2_with fail
    go_ret
    exact ⟨ret_bool5 hR0.out, (by unfold Qw; repeat (first | exact Below.refl _ _ | refine Below.setCell ?_ (by first | (simp; done) | (simp; omega)) _ | refine Below.alloc ?_ (by first | (simp; done) | (simp; omega)) _ | refine bel_drewN ?_ _ | refine Below.drew ?_))⟩
  have d2 : decide (label < 0) = false := decide_eq_false c2
  by_cases c3 : 99999 < label
  · have d3 : decide (99999 < label) = true := decide_eq_true c3
    have hR0 : Hid (false = R) := Lib.hid (by rw [← hR]; unfold Sy.rvl; rw [show decide (label ≤ 99999) = false from decide_eq_false (by omega)]; simp)
    clear hR HW RL NL RX NX
    go_enter Tryd.func41, Tryd.ntmps41
    go_wp2_with fail
    go_ret
    exact ⟨ret_bool5 hR0.out, (by unfold Qw; repeat (first | exact Below.refl _ _ | refine Below.setCell ?_ (by first | (simp; done) | (simp; omega)) _ | refine Below.alloc ?_ (by first | (simp; done) | (simp; omega)) _ | refine bel_drewN ?_ _ | refine Below.drew ?_))⟩
  have d3 : decide (99999 < label) = false := decide_eq_false c3
  by_cases c4 : (24 : Int) < (words.length : Int)
  · have d4 : decide ((24 : Int) < (words.length : Int)) = true := decide_eq_true c4
    have hR0 : Hid (false = R) := Lib.hid (by rw [← hR]; unfold Sy.rvl; rw [show decide (words.length ≤ 24) = false from decide_eq_false (by omega)]; simp)
    clear hR HW RL NL RX NX
    go_enter Tryd.func41, Tryd.ntmps41
    go_wp2_with fail
    go_ret
    exact ⟨ret_bool5 hR0.out, (by unfold Qw; repeat (first | exact Below.refl _ _ | refine Below.setCell ?_ (by first | (simp; done) | (simp; omega)) _ | refine Below.alloc ?_ (by first | (simp; done) | (simp; omega)) _ | refine bel_drewN ?_ _ | refine Below.drew ?_))⟩
  have d4 : decide ((24 : Int) < (words.length : Int)) = false := decide_eq_false c4
  by_cases g : kind ≠ 0 ∧ words.length ≠ 0
  · have k0 : (kind != 0) = true := by simp [g.1]
    have w0 : decide ((0 : Int) < (words.length : Int)) = true := decide_eq_true (by omega)
    have w0n : 0 < words.length := by omega
    have hR0 : Hid (false = R) := Lib.hid (by rw [← hR]; unfold Sy.rvl; rw [show decide (kind = 0) = false from decide_eq_false g.1, show decide (words.length = 0) = false from decide_eq_false g.2]; simp)
    clear hR HW RL NL RX NX g
    go_enter Tryd.func41, Tryd.ntmps41
    go_wp2_with fail
    go_ret
    exact ⟨ret_bool5 hR0.out, (by unfold Qw; repeat (first | exact Below.refl _ _ | refine Below.setCell ?_ (by first | (simp; done) | (simp; omega)) _ | refine Below.alloc ?_ (by first | (simp; done) | (simp; omega)) _ | refine bel_drewN ?_ _ | refine Below.drew ?_))⟩
  have HR : Hid (Sy.rvl ⟨kind, label, skip, words, left, x, n⟩ = (words.all Sy.wdv && ((if kind = 1 ∨ kind = 3 then Sy.rgt left else Sy.noneB left) && (if kind = 1 ∨ kind = 3 ∨ kind = 2 ∨ kind = 4 then Sy.rgt x else Sy.noneB x) && (if kind = 4 ∨ kind = 5 then Sy.cnt n 3 else if kind = 6 then Sy.cnt n 99999 else decide (n = 0))))) := Lib.hid (by
    unfold Sy.rvl
    rw [show decide (0 ≤ kind) = true from decide_eq_true (by omega), show decide (kind ≤ 6) = true from decide_eq_true (by omega), show decide (0 ≤ label) = true from decide_eq_true (by omega), show decide (label ≤ 99999) = true from decide_eq_true (by omega), show decide (words.length ≤ 24) = true from decide_eq_true (by omega), show (decide (kind = 0) || decide (words.length = 0)) = true by simp only [Bool.or_eq_true, decide_eq_true_eq]; omega]
    rfl)
  rw [hR] at HR
  clear hR
  by_cases k0 : kind = 0
  · subst k0
    go_enter Tryd.func41, Tryd.ntmps41
    go_wp2_with fail
    have QS : Hid (Qw w (w.alloc (.cells #[.int .i64 0, .int .i64 label, .bool skip, .slice wa words.length wc, .int .i64 left.op, .int .i64 left.n, .slice la left.ks.length lc, .int .i64 x.op, .int .i64 x.n, .slice xa x.ks.length xc, .int .i64 n] 37))) := Lib.hid Qz
    have B0 := Lib.hid (Bx.new w #[.int .i64 0, .int .i64 label, .bool skip, .slice wa words.length wc, .int .i64 left.op, .int .i64 left.n, .slice la left.ks.length lc, .int .i64 x.op, .int .i64 x.n, .slice xa x.ks.length xc, .int .i64 n] 37)
    go_loopg [3] words.length (fun g iv wr => ∃ i : Nat, i ≤ words.length ∧ g = words.length - i ∧ iv = .int .i64 (i : Int) ∧ Hid ((words.take i).all Sy.wdv = true) ∧ Hid (Bx wr w.heap.size #[.int .i64 0, .int .i64 label, .bool skip, .slice wa words.length wc, .int .i64 left.op, .int .i64 left.n, .slice la left.ks.length lc, .int .i64 x.op, .int .i64 x.n, .slice xa x.ks.length xc, .int .i64 n] 37) ∧ Qw w wr)
    case atStart => exact ⟨0, Nat.zero_le _, rfl, rfl, Lib.hid rfl, B0, QS.out⟩
    case round =>
      obtain ⟨i, hi, rfl, rfl, HT, B, hQ⟩ := hrel
      obtain ⟨p0, p1, p2, p3, p4, p5, p6, p7, p8, p9, p10⟩ := Bx.c11 B.out
      have q0 := Lib.hid hQ
      clear QS B0
      by_cases hlt : i < words.length
      · obtain ⟨b, off, ad, cc, rfl, gl, z0, z1, z2, z3, KK⟩ := (HW.out.go (fun b hS hb => ⟨hQ.block b hb, hS⟩)).at i hlt
        have hi2 : (i : Int) < (words.length : Int) := by omega
        have hi63 : (i : Int) ≤ 9223372036854775806 := by omega
        have hne : b ≠ w.heap.size ∨ b = w.heap.size := by omega
        have eA := all_wdvL words hlt
        have cr : ∀ w1, Qw wr w1 → Calls Tryd.prog 60 #[.agg #[.int .i64 words[i].2.op, .int .i64 words[i].2.n, .slice ad words[i].2.ks.length cc]] w1 fun e w' => e = .returned (.bool (Sy.rgt words[i].2)) ∧ Qw w1 w' := fun w1 q => by have := rw_right words[i].2.op words[i].2.n words[i].2.ks ad cc S w1 (KK.kept q); rw [show Sy.rgt (.mk words[i].2.op words[i].2.n words[i].2.ks) = Sy.rgt words[i].2 by cases words[i].2; rfl] at this; exact this
        have eW : Sy.wdv words[i] = (Sy.isw words[i].1 && Sy.rgt words[i].2) := rfl
        rw [eW] at eA
        unfold Sy.isw at eA
        clear eW KK hQ hne
        generalize words[i].1 = c at *
        generalize words[i].2 = y at *
        cases hv : Sy.rgt y with
        | false =>
          rw [hv] at cr
          have HR0 : Hid (false = R) := Lib.hid (by rw [HR.out, eA.1 (by rw [hv]; simp)]; rfl)
          have CR := Lib.hid cr
          clear cr eA hv
          by_cases e0 : c < 65
          · have f0 : decide (c < 65) = true := decide_eq_true e0
            go_wp2_with fail
            go_ret
            exact ⟨ret_bool5 HR0.out, q0.out⟩
          have f0 : decide (c < 65) = false := decide_eq_false e0
          by_cases e1 : 90 < c
          · have f1 : decide (90 < c) = true := decide_eq_true e1
            go_wp2_with fail
            go_ret
            exact ⟨ret_bool5 HR0.out, q0.out⟩
          have f1 : decide (90 < c) = false := decide_eq_false e1
          by_cases e2 : c = 78
          · have f2 : (c == 78) = true := beq_iff_eq.2 e2
            go_wp2_with fail
            go_ret
            exact ⟨ret_bool5 HR0.out, q0.out⟩
          have f2 : (c == 78) = false := beq_eq_false_iff_ne.2 e2
          by_cases e3 : c = 79
          · have f3 : (c == 79) = true := beq_iff_eq.2 e3
            go_wp2_with fail
            go_ret
            exact ⟨ret_bool5 HR0.out, q0.out⟩
          have f3 : (c == 79) = false := beq_eq_false_iff_ne.2 e3
          go_wp2_with (go_at_call 60; ((with_reducible refine (CR.out _ (by repeat (first | exact Qw.refl _ | refine Qw.al ?_ _ | refine Qw.dr ?_ | refine Qw.dn ?_ _))).mono ?_); rintro e w' ⟨rfl, q⟩; have QE := Lib.hid (Qw.trans q0.out q); clear q))
          go_ret
          exact ⟨ret_bool5 HR0.out, QE.out⟩
        | true =>
          rw [hv] at cr
          have CR := Lib.hid cr
          clear cr
          by_cases e0 : c < 65
          · have f0 : decide (c < 65) = true := decide_eq_true e0
            have HR0 : Hid (false = R) := Lib.hid (by rw [HR.out, eA.1 (by rw [hv]; simp; omega)]; rfl)
            go_wp2_with fail
            go_ret
            exact ⟨ret_bool5 HR0.out, q0.out⟩
          have f0 : decide (c < 65) = false := decide_eq_false e0
          by_cases e1 : 90 < c
          · have f1 : decide (90 < c) = true := decide_eq_true e1
            have HR0 : Hid (false = R) := Lib.hid (by rw [HR.out, eA.1 (by rw [hv]; simp; omega)]; rfl)
            go_wp2_with fail
            go_ret
            exact ⟨ret_bool5 HR0.out, q0.out⟩
          have f1 : decide (90 < c) = false := decide_eq_false e1
          by_cases e2 : c = 78
          · have f2 : (c == 78) = true := beq_iff_eq.2 e2
            have HR0 : Hid (false = R) := Lib.hid (by rw [HR.out, eA.1 (by rw [hv]; simp; omega)]; rfl)
            go_wp2_with fail
            go_ret
            exact ⟨ret_bool5 HR0.out, q0.out⟩
          have f2 : (c == 78) = false := beq_eq_false_iff_ne.2 e2
          by_cases e3 : c = 79
          · have f3 : (c == 79) = true := beq_iff_eq.2 e3
            have HR0 : Hid (false = R) := Lib.hid (by rw [HR.out, eA.1 (by rw [hv]; simp; omega)]; rfl)
            go_wp2_with fail
            go_ret
            exact ⟨ret_bool5 HR0.out, q0.out⟩
          have f3 : (c == 79) = false := beq_eq_false_iff_ne.2 e3
          have EA := Lib.hid (eA.2 HT.out (by rw [hv]; simp; omega))
          clear eA hv
          go_wp2_with (go_at_call 60; ((with_reducible refine (CR.out _ (by repeat (first | exact Qw.refl _ | refine Qw.al ?_ _ | refine Qw.dr ?_ | refine Qw.dn ?_ _))).mono ?_); rintro e w' ⟨rfl, q⟩; have QE := Lib.hid (Qw.trans q0.out q); have BE := Lib.hid (B.out.kept q); clear q))
          go_roundg (words.length - (i + 1))
          case measure => omega
          case rel => exact ⟨i + 1, by omega, rfl, by go_num, EA, BE, QE.out⟩
      · obtain rfl : i = words.length := by omega
        have hb : ¬ (words.length : Int) < (words.length : Int) := by omega
        rw [List.take_length] at HT
        rw [HT.out, Bool.true_and] at HR
        clear hQ HT hlt hi
        have HK : Hid ((Sy.noneB left && Sy.noneB x && decide (n = 0)) = R) := Lib.hid (by have h := HR.out.symm; simpa using h)
        cases h1 : Sy.noneB left with
        | false =>
          rw [h1] at HK NL
          have HR0 : Hid (false = R) := Lib.hid (by have h := HK.out; simpa using h)
          clear h1 HK HR
          go_wp2_with (go_at_call 61; ((with_reducible refine (NL.out _ q0.out).mono ?_); rintro e wu ⟨rfl, q⟩; have Qwu := Lib.hid (Qw.trans q0.out q); have Bwu := Lib.hid (B.out.kept q); obtain ⟨p0, p1, p2, p3, p4, p5, p6, p7, p8, p9, p10⟩ := Bx.c11 Bwu.out; clear q))
          go_ret
          exact ⟨ret_bool5 HR0.out, Qwu.out⟩
        | true =>
        cases h2 : Sy.noneB x with
        | false =>
          rw [h1, h2] at HK
          rw [h1] at NL
          rw [h2] at NX
          have HR0 : Hid (false = R) := Lib.hid (by have h := HK.out; simpa using h)
          clear h1 h2 HK HR
          go_wp2_with (first | (go_at_call 61; ((with_reducible refine (NX.out _ Qwu.out).mono ?_); rintro e wv ⟨rfl, q⟩; have Qwv := Lib.hid (Qw.trans Qwu.out q); have Bwv := Lib.hid (Bwu.out.kept q); obtain ⟨p0, p1, p2, p3, p4, p5, p6, p7, p8, p9, p10⟩ := Bx.c11 Bwv.out; clear q)) | (go_at_call 61; ((with_reducible refine (NL.out _ q0.out).mono ?_); rintro e wu ⟨rfl, q⟩; have Qwu := Lib.hid (Qw.trans q0.out q); have Bwu := Lib.hid (B.out.kept q); obtain ⟨p0, p1, p2, p3, p4, p5, p6, p7, p8, p9, p10⟩ := Bx.c11 Bwu.out; clear q)))
          go_ret
          exact ⟨ret_bool5 HR0.out, Qwv.out⟩
        | true =>
          rw [h1, h2] at HK
          rw [h1] at NL
          rw [h2] at NX
          have HR0 : Hid ((decide (n = 0)) = R) := Lib.hid (by have h := HK.out; simpa using h)
          clear h1 h2 HK HR
          go_wp2_with (first | (go_at_call 61; ((with_reducible refine (NX.out _ Qwu.out).mono ?_); rintro e wv ⟨rfl, q⟩; have Qwv := Lib.hid (Qw.trans Qwu.out q); have Bwv := Lib.hid (Bwu.out.kept q); obtain ⟨p0, p1, p2, p3, p4, p5, p6, p7, p8, p9, p10⟩ := Bx.c11 Bwv.out; clear q)) | (go_at_call 61; ((with_reducible refine (NL.out _ q0.out).mono ?_); rintro e wu ⟨rfl, q⟩; have Qwu := Lib.hid (Qw.trans q0.out q); have Bwu := Lib.hid (B.out.kept q); obtain ⟨p0, p1, p2, p3, p4, p5, p6, p7, p8, p9, p10⟩ := Bx.c11 Bwu.out; clear q)))
          go_ret
          exact ⟨ret_bool5 (by rw [← HR0.out]; first | rfl | (rw [Bool.eq_iff_iff]; simp)), Qwv.out⟩
  · have k0f : (kind != 0) = true := by simp [k0]
    have w0 : decide ((0 : Int) < (words.length : Int)) = false := decide_eq_false (by omega)
    have w0n : ¬ 0 < words.length := by omega
    go_enter Tryd.func41, Tryd.ntmps41
    go_wp2_with fail
    have QS : Hid (Qw w (w.alloc (.cells #[.int .i64 kind, .int .i64 label, .bool skip, .slice wa words.length wc, .int .i64 left.op, .int .i64 left.n, .slice la left.ks.length lc, .int .i64 x.op, .int .i64 x.n, .slice xa x.ks.length xc, .int .i64 n] 37))) := Lib.hid Qz
    have B0 := Lib.hid (Bx.new w #[.int .i64 kind, .int .i64 label, .bool skip, .slice wa words.length wc, .int .i64 left.op, .int .i64 left.n, .slice la left.ks.length lc, .int .i64 x.op, .int .i64 x.n, .slice xa x.ks.length xc, .int .i64 n] 37)
    go_loopg [3] words.length (fun g iv wr => ∃ i : Nat, i ≤ words.length ∧ g = words.length - i ∧ iv = .int .i64 (i : Int) ∧ Hid ((words.take i).all Sy.wdv = true) ∧ Hid (Bx wr w.heap.size #[.int .i64 kind, .int .i64 label, .bool skip, .slice wa words.length wc, .int .i64 left.op, .int .i64 left.n, .slice la left.ks.length lc, .int .i64 x.op, .int .i64 x.n, .slice xa x.ks.length xc, .int .i64 n] 37) ∧ Qw w wr)
    case atStart => exact ⟨0, Nat.zero_le _, rfl, rfl, Lib.hid rfl, B0, QS.out⟩
    case round =>
      obtain ⟨i, hi, rfl, rfl, HT, B, hQ⟩ := hrel
      obtain ⟨p0, p1, p2, p3, p4, p5, p6, p7, p8, p9, p10⟩ := Bx.c11 B.out
      have q0 := Lib.hid hQ
      clear QS B0
      by_cases hlt : i < words.length
      · exact absurd hlt (by omega)
      · obtain rfl : i = words.length := by omega
        have hb : ¬ (words.length : Int) < (words.length : Int) := by omega
        rw [List.take_length] at HT
        rw [HT.out, Bool.true_and] at HR
        clear hQ HT hlt hi
        have hk : kind = 1 ∨ kind = 2 ∨ kind = 3 ∨ kind = 4 ∨ kind = 5 ∨ kind = 6 := by omega
        rcases hk with rfl | rfl | rfl | rfl | rfl | rfl
        · have HK : Hid ((Sy.rgt left && Sy.rgt x && decide (n = 0)) = R) := Lib.hid (by have h := HR.out.symm; simpa using h)
          cases h1 : Sy.rgt left with
          | false =>
            rw [h1] at HK RL
            have HR0 : Hid (false = R) := Lib.hid (by have h := HK.out; simpa using h)
            clear h1 HK HR
            go_wp2_with (go_at_call 60; ((with_reducible refine (RL.out _ q0.out).mono ?_); rintro e wu ⟨rfl, q⟩; have Qwu := Lib.hid (Qw.trans q0.out q); have Bwu := Lib.hid (B.out.kept q); obtain ⟨p0, p1, p2, p3, p4, p5, p6, p7, p8, p9, p10⟩ := Bx.c11 Bwu.out; clear q))
            go_ret
            exact ⟨ret_bool5 HR0.out, Qwu.out⟩
          | true =>
          cases h2 : Sy.rgt x with
          | false =>
            rw [h1, h2] at HK
            rw [h1] at RL
            rw [h2] at RX
            have HR0 : Hid (false = R) := Lib.hid (by have h := HK.out; simpa using h)
            clear h1 h2 HK HR
            go_wp2_with (first | (go_at_call 60; ((with_reducible refine (RX.out _ Qwu.out).mono ?_); rintro e wv ⟨rfl, q⟩; have Qwv := Lib.hid (Qw.trans Qwu.out q); have Bwv := Lib.hid (Bwu.out.kept q); obtain ⟨p0, p1, p2, p3, p4, p5, p6, p7, p8, p9, p10⟩ := Bx.c11 Bwv.out; clear q)) | (go_at_call 60; ((with_reducible refine (RL.out _ q0.out).mono ?_); rintro e wu ⟨rfl, q⟩; have Qwu := Lib.hid (Qw.trans q0.out q); have Bwu := Lib.hid (B.out.kept q); obtain ⟨p0, p1, p2, p3, p4, p5, p6, p7, p8, p9, p10⟩ := Bx.c11 Bwu.out; clear q)))
            go_ret
            exact ⟨ret_bool5 HR0.out, Qwv.out⟩
          | true =>
            rw [h1, h2] at HK
            rw [h1] at RL
            rw [h2] at RX
            have HR0 : Hid ((decide (n = 0)) = R) := Lib.hid (by have h := HK.out; simpa using h)
            clear h1 h2 HK HR
            go_wp2_with (first | (go_at_call 60; ((with_reducible refine (RX.out _ Qwu.out).mono ?_); rintro e wv ⟨rfl, q⟩; have Qwv := Lib.hid (Qw.trans Qwu.out q); have Bwv := Lib.hid (Bwu.out.kept q); obtain ⟨p0, p1, p2, p3, p4, p5, p6, p7, p8, p9, p10⟩ := Bx.c11 Bwv.out; clear q)) | (go_at_call 60; ((with_reducible refine (RL.out _ q0.out).mono ?_); rintro e wu ⟨rfl, q⟩; have Qwu := Lib.hid (Qw.trans q0.out q); have Bwu := Lib.hid (B.out.kept q); obtain ⟨p0, p1, p2, p3, p4, p5, p6, p7, p8, p9, p10⟩ := Bx.c11 Bwu.out; clear q)))
            go_ret
            exact ⟨ret_bool5 (by rw [← HR0.out]; first | rfl | (rw [Bool.eq_iff_iff]; simp)), Qwv.out⟩
        · have HK : Hid ((Sy.noneB left && Sy.rgt x && decide (n = 0)) = R) := Lib.hid (by have h := HR.out.symm; simpa using h)
          cases h1 : Sy.noneB left with
          | false =>
            rw [h1] at HK NL
            have HR0 : Hid (false = R) := Lib.hid (by have h := HK.out; simpa using h)
            clear h1 HK HR
            go_wp2_with (go_at_call 61; ((with_reducible refine (NL.out _ q0.out).mono ?_); rintro e wu ⟨rfl, q⟩; have Qwu := Lib.hid (Qw.trans q0.out q); have Bwu := Lib.hid (B.out.kept q); obtain ⟨p0, p1, p2, p3, p4, p5, p6, p7, p8, p9, p10⟩ := Bx.c11 Bwu.out; clear q))
            go_ret
            exact ⟨ret_bool5 HR0.out, Qwu.out⟩
          | true =>
          cases h2 : Sy.rgt x with
          | false =>
            rw [h1, h2] at HK
            rw [h1] at NL
            rw [h2] at RX
            have HR0 : Hid (false = R) := Lib.hid (by have h := HK.out; simpa using h)
            clear h1 h2 HK HR
            go_wp2_with (first | (go_at_call 60; ((with_reducible refine (RX.out _ Qwu.out).mono ?_); rintro e wv ⟨rfl, q⟩; have Qwv := Lib.hid (Qw.trans Qwu.out q); have Bwv := Lib.hid (Bwu.out.kept q); obtain ⟨p0, p1, p2, p3, p4, p5, p6, p7, p8, p9, p10⟩ := Bx.c11 Bwv.out; clear q)) | (go_at_call 61; ((with_reducible refine (NL.out _ q0.out).mono ?_); rintro e wu ⟨rfl, q⟩; have Qwu := Lib.hid (Qw.trans q0.out q); have Bwu := Lib.hid (B.out.kept q); obtain ⟨p0, p1, p2, p3, p4, p5, p6, p7, p8, p9, p10⟩ := Bx.c11 Bwu.out; clear q)))
            go_ret
            exact ⟨ret_bool5 HR0.out, Qwv.out⟩
          | true =>
            rw [h1, h2] at HK
            rw [h1] at NL
            rw [h2] at RX
            have HR0 : Hid ((decide (n = 0)) = R) := Lib.hid (by have h := HK.out; simpa using h)
            clear h1 h2 HK HR
            go_wp2_with (first | (go_at_call 60; ((with_reducible refine (RX.out _ Qwu.out).mono ?_); rintro e wv ⟨rfl, q⟩; have Qwv := Lib.hid (Qw.trans Qwu.out q); have Bwv := Lib.hid (Bwu.out.kept q); obtain ⟨p0, p1, p2, p3, p4, p5, p6, p7, p8, p9, p10⟩ := Bx.c11 Bwv.out; clear q)) | (go_at_call 61; ((with_reducible refine (NL.out _ q0.out).mono ?_); rintro e wu ⟨rfl, q⟩; have Qwu := Lib.hid (Qw.trans q0.out q); have Bwu := Lib.hid (B.out.kept q); obtain ⟨p0, p1, p2, p3, p4, p5, p6, p7, p8, p9, p10⟩ := Bx.c11 Bwu.out; clear q)))
            go_ret
            exact ⟨ret_bool5 (by rw [← HR0.out]; first | rfl | (rw [Bool.eq_iff_iff]; simp)), Qwv.out⟩
        · have HK : Hid ((Sy.rgt left && Sy.rgt x && decide (n = 0)) = R) := Lib.hid (by have h := HR.out.symm; simpa using h)
          cases h1 : Sy.rgt left with
          | false =>
            rw [h1] at HK RL
            have HR0 : Hid (false = R) := Lib.hid (by have h := HK.out; simpa using h)
            clear h1 HK HR
            go_wp2_with (go_at_call 60; ((with_reducible refine (RL.out _ q0.out).mono ?_); rintro e wu ⟨rfl, q⟩; have Qwu := Lib.hid (Qw.trans q0.out q); have Bwu := Lib.hid (B.out.kept q); obtain ⟨p0, p1, p2, p3, p4, p5, p6, p7, p8, p9, p10⟩ := Bx.c11 Bwu.out; clear q))
            go_ret
            exact ⟨ret_bool5 HR0.out, Qwu.out⟩
          | true =>
          cases h2 : Sy.rgt x with
          | false =>
            rw [h1, h2] at HK
            rw [h1] at RL
            rw [h2] at RX
            have HR0 : Hid (false = R) := Lib.hid (by have h := HK.out; simpa using h)
            clear h1 h2 HK HR
            go_wp2_with (first | (go_at_call 60; ((with_reducible refine (RX.out _ Qwu.out).mono ?_); rintro e wv ⟨rfl, q⟩; have Qwv := Lib.hid (Qw.trans Qwu.out q); have Bwv := Lib.hid (Bwu.out.kept q); obtain ⟨p0, p1, p2, p3, p4, p5, p6, p7, p8, p9, p10⟩ := Bx.c11 Bwv.out; clear q)) | (go_at_call 60; ((with_reducible refine (RL.out _ q0.out).mono ?_); rintro e wu ⟨rfl, q⟩; have Qwu := Lib.hid (Qw.trans q0.out q); have Bwu := Lib.hid (B.out.kept q); obtain ⟨p0, p1, p2, p3, p4, p5, p6, p7, p8, p9, p10⟩ := Bx.c11 Bwu.out; clear q)))
            go_ret
            exact ⟨ret_bool5 HR0.out, Qwv.out⟩
          | true =>
            rw [h1, h2] at HK
            rw [h1] at RL
            rw [h2] at RX
            have HR0 : Hid ((decide (n = 0)) = R) := Lib.hid (by have h := HK.out; simpa using h)
            clear h1 h2 HK HR
            go_wp2_with (first | (go_at_call 60; ((with_reducible refine (RX.out _ Qwu.out).mono ?_); rintro e wv ⟨rfl, q⟩; have Qwv := Lib.hid (Qw.trans Qwu.out q); have Bwv := Lib.hid (Bwu.out.kept q); obtain ⟨p0, p1, p2, p3, p4, p5, p6, p7, p8, p9, p10⟩ := Bx.c11 Bwv.out; clear q)) | (go_at_call 60; ((with_reducible refine (RL.out _ q0.out).mono ?_); rintro e wu ⟨rfl, q⟩; have Qwu := Lib.hid (Qw.trans q0.out q); have Bwu := Lib.hid (B.out.kept q); obtain ⟨p0, p1, p2, p3, p4, p5, p6, p7, p8, p9, p10⟩ := Bx.c11 Bwu.out; clear q)))
            go_ret
            exact ⟨ret_bool5 (by rw [← HR0.out]; first | rfl | (rw [Bool.eq_iff_iff]; simp)), Qwv.out⟩
        · have HK : Hid ((Sy.noneB left && Sy.rgt x && Sy.cnt n 3) = R) := Lib.hid (by have h := HR.out.symm; simpa using h)
          cases h1 : Sy.noneB left with
          | false =>
            rw [h1] at HK NL
            have HR0 : Hid (false = R) := Lib.hid (by have h := HK.out; simpa using h)
            clear h1 HK HR
            go_wp2_with (go_at_call 61; ((with_reducible refine (NL.out _ q0.out).mono ?_); rintro e wu ⟨rfl, q⟩; have Qwu := Lib.hid (Qw.trans q0.out q); have Bwu := Lib.hid (B.out.kept q); obtain ⟨p0, p1, p2, p3, p4, p5, p6, p7, p8, p9, p10⟩ := Bx.c11 Bwu.out; clear q))
            go_ret
            exact ⟨ret_bool5 HR0.out, Qwu.out⟩
          | true =>
          cases h2 : Sy.rgt x with
          | false =>
            rw [h1, h2] at HK
            rw [h1] at NL
            rw [h2] at RX
            have HR0 : Hid (false = R) := Lib.hid (by have h := HK.out; simpa using h)
            clear h1 h2 HK HR
            go_wp2_with (first | (go_at_call 60; ((with_reducible refine (RX.out _ Qwu.out).mono ?_); rintro e wv ⟨rfl, q⟩; have Qwv := Lib.hid (Qw.trans Qwu.out q); have Bwv := Lib.hid (Bwu.out.kept q); obtain ⟨p0, p1, p2, p3, p4, p5, p6, p7, p8, p9, p10⟩ := Bx.c11 Bwv.out; clear q)) | (go_at_call 61; ((with_reducible refine (NL.out _ q0.out).mono ?_); rintro e wu ⟨rfl, q⟩; have Qwu := Lib.hid (Qw.trans q0.out q); have Bwu := Lib.hid (B.out.kept q); obtain ⟨p0, p1, p2, p3, p4, p5, p6, p7, p8, p9, p10⟩ := Bx.c11 Bwu.out; clear q)))
            go_ret
            exact ⟨ret_bool5 HR0.out, Qwv.out⟩
          | true =>
            rw [h1, h2] at HK
            rw [h1] at NL
            rw [h2] at RX
            have HR0 : Hid ((Sy.cnt n 3) = R) := Lib.hid (by have h := HK.out; simpa using h)
            clear h1 h2 HK HR
            by_cases n1 : n < 1
            · have t1 : decide (1 ≤ n) = false := decide_eq_false (by omega)
              go_wp2_with (first | (go_at_call 60; ((with_reducible refine (RX.out _ Qwu.out).mono ?_); rintro e wv ⟨rfl, q⟩; have Qwv := Lib.hid (Qw.trans Qwu.out q); have Bwv := Lib.hid (Bwu.out.kept q); obtain ⟨p0, p1, p2, p3, p4, p5, p6, p7, p8, p9, p10⟩ := Bx.c11 Bwv.out; clear q)) | (go_at_call 61; ((with_reducible refine (NL.out _ q0.out).mono ?_); rintro e wu ⟨rfl, q⟩; have Qwu := Lib.hid (Qw.trans q0.out q); have Bwu := Lib.hid (B.out.kept q); obtain ⟨p0, p1, p2, p3, p4, p5, p6, p7, p8, p9, p10⟩ := Bx.c11 Bwu.out; clear q)))
              go_ret
              exact ⟨ret_bool5 (by rw [← HR0.out]; unfold Sy.cnt; rw [t1]; simp), Qwv.out⟩
            have t1 : decide (1 ≤ n) = true := decide_eq_true (by omega)
            go_wp2_with (first | (go_at_call 60; ((with_reducible refine (RX.out _ Qwu.out).mono ?_); rintro e wv ⟨rfl, q⟩; have Qwv := Lib.hid (Qw.trans Qwu.out q); have Bwv := Lib.hid (Bwu.out.kept q); obtain ⟨p0, p1, p2, p3, p4, p5, p6, p7, p8, p9, p10⟩ := Bx.c11 Bwv.out; clear q)) | (go_at_call 61; ((with_reducible refine (NL.out _ q0.out).mono ?_); rintro e wu ⟨rfl, q⟩; have Qwu := Lib.hid (Qw.trans q0.out q); have Bwu := Lib.hid (B.out.kept q); obtain ⟨p0, p1, p2, p3, p4, p5, p6, p7, p8, p9, p10⟩ := Bx.c11 Bwu.out; clear q)))
            go_ret
            exact ⟨ret_bool5 (by rw [← HR0.out]; unfold Sy.cnt; rw [t1]; simp), Qwv.out⟩
        · have HK : Hid ((Sy.noneB left && Sy.noneB x && Sy.cnt n 3) = R) := Lib.hid (by have h := HR.out.symm; simpa using h)
          cases h1 : Sy.noneB left with
          | false =>
            rw [h1] at HK NL
            have HR0 : Hid (false = R) := Lib.hid (by have h := HK.out; simpa using h)
            clear h1 HK HR
            go_wp2_with (go_at_call 61; ((with_reducible refine (NL.out _ q0.out).mono ?_); rintro e wu ⟨rfl, q⟩; have Qwu := Lib.hid (Qw.trans q0.out q); have Bwu := Lib.hid (B.out.kept q); obtain ⟨p0, p1, p2, p3, p4, p5, p6, p7, p8, p9, p10⟩ := Bx.c11 Bwu.out; clear q))
            go_ret
            exact ⟨ret_bool5 HR0.out, Qwu.out⟩
          | true =>
          cases h2 : Sy.noneB x with
          | false =>
            rw [h1, h2] at HK
            rw [h1] at NL
            rw [h2] at NX
            have HR0 : Hid (false = R) := Lib.hid (by have h := HK.out; simpa using h)
            clear h1 h2 HK HR
            go_wp2_with (first | (go_at_call 61; ((with_reducible refine (NX.out _ Qwu.out).mono ?_); rintro e wv ⟨rfl, q⟩; have Qwv := Lib.hid (Qw.trans Qwu.out q); have Bwv := Lib.hid (Bwu.out.kept q); obtain ⟨p0, p1, p2, p3, p4, p5, p6, p7, p8, p9, p10⟩ := Bx.c11 Bwv.out; clear q)) | (go_at_call 61; ((with_reducible refine (NL.out _ q0.out).mono ?_); rintro e wu ⟨rfl, q⟩; have Qwu := Lib.hid (Qw.trans q0.out q); have Bwu := Lib.hid (B.out.kept q); obtain ⟨p0, p1, p2, p3, p4, p5, p6, p7, p8, p9, p10⟩ := Bx.c11 Bwu.out; clear q)))
            go_ret
            exact ⟨ret_bool5 HR0.out, Qwv.out⟩
          | true =>
            rw [h1, h2] at HK
            rw [h1] at NL
            rw [h2] at NX
            have HR0 : Hid ((Sy.cnt n 3) = R) := Lib.hid (by have h := HK.out; simpa using h)
            clear h1 h2 HK HR
            by_cases n1 : n < 1
            · have t1 : decide (1 ≤ n) = false := decide_eq_false (by omega)
              go_wp2_with (first | (go_at_call 61; ((with_reducible refine (NX.out _ Qwu.out).mono ?_); rintro e wv ⟨rfl, q⟩; have Qwv := Lib.hid (Qw.trans Qwu.out q); have Bwv := Lib.hid (Bwu.out.kept q); obtain ⟨p0, p1, p2, p3, p4, p5, p6, p7, p8, p9, p10⟩ := Bx.c11 Bwv.out; clear q)) | (go_at_call 61; ((with_reducible refine (NL.out _ q0.out).mono ?_); rintro e wu ⟨rfl, q⟩; have Qwu := Lib.hid (Qw.trans q0.out q); have Bwu := Lib.hid (B.out.kept q); obtain ⟨p0, p1, p2, p3, p4, p5, p6, p7, p8, p9, p10⟩ := Bx.c11 Bwu.out; clear q)))
              go_ret
              exact ⟨ret_bool5 (by rw [← HR0.out]; unfold Sy.cnt; rw [t1]; simp), Qwv.out⟩
            have t1 : decide (1 ≤ n) = true := decide_eq_true (by omega)
            go_wp2_with (first | (go_at_call 61; ((with_reducible refine (NX.out _ Qwu.out).mono ?_); rintro e wv ⟨rfl, q⟩; have Qwv := Lib.hid (Qw.trans Qwu.out q); have Bwv := Lib.hid (Bwu.out.kept q); obtain ⟨p0, p1, p2, p3, p4, p5, p6, p7, p8, p9, p10⟩ := Bx.c11 Bwv.out; clear q)) | (go_at_call 61; ((with_reducible refine (NL.out _ q0.out).mono ?_); rintro e wu ⟨rfl, q⟩; have Qwu := Lib.hid (Qw.trans q0.out q); have Bwu := Lib.hid (B.out.kept q); obtain ⟨p0, p1, p2, p3, p4, p5, p6, p7, p8, p9, p10⟩ := Bx.c11 Bwu.out; clear q)))
            go_ret
            exact ⟨ret_bool5 (by rw [← HR0.out]; unfold Sy.cnt; rw [t1]; simp), Qwv.out⟩
        · have HK : Hid ((Sy.noneB left && Sy.noneB x && Sy.cnt n 99999) = R) := Lib.hid (by have h := HR.out.symm; simpa using h)
          cases h1 : Sy.noneB left with
          | false =>
            rw [h1] at HK NL
            have HR0 : Hid (false = R) := Lib.hid (by have h := HK.out; simpa using h)
            clear h1 HK HR
            go_wp2_with (go_at_call 61; ((with_reducible refine (NL.out _ q0.out).mono ?_); rintro e wu ⟨rfl, q⟩; have Qwu := Lib.hid (Qw.trans q0.out q); have Bwu := Lib.hid (B.out.kept q); obtain ⟨p0, p1, p2, p3, p4, p5, p6, p7, p8, p9, p10⟩ := Bx.c11 Bwu.out; clear q))
            go_ret
            exact ⟨ret_bool5 HR0.out, Qwu.out⟩
          | true =>
          cases h2 : Sy.noneB x with
          | false =>
            rw [h1, h2] at HK
            rw [h1] at NL
            rw [h2] at NX
            have HR0 : Hid (false = R) := Lib.hid (by have h := HK.out; simpa using h)
            clear h1 h2 HK HR
            go_wp2_with (first | (go_at_call 61; ((with_reducible refine (NX.out _ Qwu.out).mono ?_); rintro e wv ⟨rfl, q⟩; have Qwv := Lib.hid (Qw.trans Qwu.out q); have Bwv := Lib.hid (Bwu.out.kept q); obtain ⟨p0, p1, p2, p3, p4, p5, p6, p7, p8, p9, p10⟩ := Bx.c11 Bwv.out; clear q)) | (go_at_call 61; ((with_reducible refine (NL.out _ q0.out).mono ?_); rintro e wu ⟨rfl, q⟩; have Qwu := Lib.hid (Qw.trans q0.out q); have Bwu := Lib.hid (B.out.kept q); obtain ⟨p0, p1, p2, p3, p4, p5, p6, p7, p8, p9, p10⟩ := Bx.c11 Bwu.out; clear q)))
            go_ret
            exact ⟨ret_bool5 HR0.out, Qwv.out⟩
          | true =>
            rw [h1, h2] at HK
            rw [h1] at NL
            rw [h2] at NX
            have HR0 : Hid ((Sy.cnt n 99999) = R) := Lib.hid (by have h := HK.out; simpa using h)
            clear h1 h2 HK HR
            by_cases n1 : n < 1
            · have t1 : decide (1 ≤ n) = false := decide_eq_false (by omega)
              go_wp2_with (first | (go_at_call 61; ((with_reducible refine (NX.out _ Qwu.out).mono ?_); rintro e wv ⟨rfl, q⟩; have Qwv := Lib.hid (Qw.trans Qwu.out q); have Bwv := Lib.hid (Bwu.out.kept q); obtain ⟨p0, p1, p2, p3, p4, p5, p6, p7, p8, p9, p10⟩ := Bx.c11 Bwv.out; clear q)) | (go_at_call 61; ((with_reducible refine (NL.out _ q0.out).mono ?_); rintro e wu ⟨rfl, q⟩; have Qwu := Lib.hid (Qw.trans q0.out q); have Bwu := Lib.hid (B.out.kept q); obtain ⟨p0, p1, p2, p3, p4, p5, p6, p7, p8, p9, p10⟩ := Bx.c11 Bwu.out; clear q)))
              go_ret
              exact ⟨ret_bool5 (by rw [← HR0.out]; unfold Sy.cnt; rw [t1]; simp), Qwv.out⟩
            have t1 : decide (1 ≤ n) = true := decide_eq_true (by omega)
            go_wp2_with (first | (go_at_call 61; ((with_reducible refine (NX.out _ Qwu.out).mono ?_); rintro e wv ⟨rfl, q⟩; have Qwv := Lib.hid (Qw.trans Qwu.out q); have Bwv := Lib.hid (Bwu.out.kept q); obtain ⟨p0, p1, p2, p3, p4, p5, p6, p7, p8, p9, p10⟩ := Bx.c11 Bwv.out; clear q)) | (go_at_call 61; ((with_reducible refine (NL.out _ q0.out).mono ?_); rintro e wu ⟨rfl, q⟩; have Qwu := Lib.hid (Qw.trans q0.out q); have Bwu := Lib.hid (B.out.kept q); obtain ⟨p0, p1, p2, p3, p4, p5, p6, p7, p8, p9, p10⟩ := Bx.c11 Bwu.out; clear q)))
            go_ret
            exact ⟨ret_bool5 (by rw [← HR0.out]; unfold Sy.cnt; rw [t1]; simp), Qwv.out⟩
theorem rw_valid (b : Sy.Bl) (cs : Array Value) (S : Nat → Prop) (w : World) (hB : BlkB w S b cs) : Calls Tryd.prog 41 #[.agg cs] w fun e w' => e = .returned (.bool (Sy.vldb b)) ∧ Qw w w' := by
  obtain ⟨kind, label, skip, words, left, x, n⟩ := b
  obtain ⟨wa, wc, la, lc, xa, xc, rfl, hW, hL, hX⟩ := hB
  rw [← Sy.rvl_eq]
  exact rw_validL kind label n skip words left x wa la xa wc lc xc S w hW hL hX
end Go.Proofs.YtlgdjbabbfdngaaDoor

