import Derived.Test.YtlgdjbabbfdngaaDoorZM0
import Derived.Test.YtlgdjbabbfdngaaDoorZM4
import Derived.Test.YtlgdjbabbfdngaaDoorZM12
import Derived.Test.YtlgdjbabbfdngaaDoorZM13
import Derived.Test.YtlgdjbabbfdngaaDoorZM16
import Derived.BigQuiet
set_option linter.unusedVariables false
set_option linter.unusedSimpArgs false
namespace Go.Proofs.YtlgdjbabbfdngaaDoor
open Go.RowKit
theorem IntsB.then {w w' : World} {v : Value} {zs : List Int} (h : IntsB w.heap.size w v zs) (q : Qw w w') : IntsB w'.heap.size w' v zs := (h.kept q (Nat.le_refl _)).mono q.size
theorem Qw.px {P : Nat} {w0 w w' : World} (q : Qw w0 w) (h : Px P w w') (hP : w0.heap.size ≤ P) : Qw w0 w' :=
  ⟨h.os.trans q.os, h.tape.trans q.tape, h.output.trans q.output, Nat.le_trans q.size h.size, fun k hk => (h.block k (Nat.lt_of_lt_of_le hk q.size) (by omega)).trans (q.block k hk)⟩
def NwT (w0 : World) (v : Value) (zs : List Int) (e : Ending) (w' : World) : Prop := ∃ B, e = .returned (.pointer (some ⟨B, 0, none⟩)) ∧ w0.heap.size ≤ B ∧ TpB w' B v zs ∧ Qw w0 w'
theorem newX {v : Value} {zs : List Int} (w0 w : World) (h : IntsB w0.heap.size w0 v zs) (q : Qw w0 w) : Calls Tryd.prog 14 #[v] w (NwT w0 v zs) := (newF v zs w (h.then q)).mono (by
  rintro e w' ⟨rfl, tp, q2⟩
  exact ⟨_, rfl, q.size, ⟨0, tp⟩, Qw.trans q q2⟩)
theorem NwT.open_ {w0 : World} {v : Value} {zs : List Int} {e : Ending} {w' : World} (h : NwT w0 v zs e w') : ∃ B, e = .returned (.pointer (some ⟨B, 0, none⟩)) ∧ w0.heap.size ≤ B ∧ TpB w' B v zs ∧ Qw w0 w' := h
def FwQ (w0 : World) (e : Ending) (w' : World) : Prop := ∃ a cap l s, e = .returned (.slice a l.length cap) ∧ l.length ≤ 40 ∧ BlksB w' (fun k => w0.heap.size ≤ k) a cap l ∧ Lb.build l = .ok s ∧ (∃ lab, Lb.Fl 2 lab 0 l s) ∧ (∀ b ∈ l, Sy.Fwn b) ∧ Qw w0 w'
theorem FwQ.open_ {w0 : World} {e : Ending} {w' : World} (h : FwQ w0 e w') : ∃ a cap l s, e = .returned (.slice a l.length cap) ∧ l.length ≤ 40 ∧ BlksB w' (fun k => w0.heap.size ≤ k) a cap l ∧ Lb.build l = .ok s ∧ (∃ lab, Lb.Fl 2 lab 0 l s) ∧ (∀ b ∈ l, Sy.Fwn b) ∧ Qw w0 w' := h
theorem flowX {B : Nat} {v : Value} {zs : List Int} (w0 w : World) (hB : w0.heap.size ≤ B) (hT : TpB w B v zs) (q : Qw w0 w) : Calls Tryd.prog 15 #[.pointer (some ⟨B, 0, none⟩)] w (FwQ w0) := (flowW w hT).mono (by
  intro e w' h
  obtain ⟨a, cap, l, lab, rfl, h1, h2, ⟨s, h3⟩, h4, h5, h6⟩ := h
  have hs := q.size
  exact ⟨a, cap, l, s, rfl, h1, h2.go fun b hb _ => ⟨rfl, by omega⟩, h3.build (by omega), ⟨lab, h3⟩, h4, Qw.px q h6 hB⟩)
theorem BdY.open_ {w : World} {bs : List Sy.Bl} {s : Lb.St} {e : Ending} {w' : World} (h : BdY w bs s e w') : ∃ ba bc pa pc ma mc, e = .returned (.tuple #[.agg #[.slice ba bs.length bc, .slice pa s.pg.length pc, .slice ma s.mate.length mc], .int .i64 (bs.length : Nat), .int .i64 0]) ∧ LibX w' (fun b => w.heap.size ≤ b) w.heap.size ba bc pa pc ma mc bs s ∧ Qw w w' := h
structure Lw (w : World) (R : Nat) (ba : Option Addr) (bc : Nat) (pa : Option Addr) (pc : Nat) (ma : Option Addr) (mc : Nat) (bs : List Sy.Bl) (s : Lb.St) (wx : World) : Prop where
  X : Bx wx R #[.slice ba bs.length bc, .slice pa s.pg.length pc, .slice ma s.mate.length mc] 41
  L : LibX wx (fun _ => True) 0 ba bc pa pc ma mc bs s
  Q : Qw w wx
theorem LibX.any {w : World} {S : Nat → Prop} {B : Nat} {ba pa ma : Option Addr} {bc pc mc : Nat} {bs : List Sy.Bl} {s : Lb.St} (h : LibX w S B ba bc pa pc ma mc bs s) : LibX w (fun _ => True) 0 ba bc pa pc ma mc bs s := ⟨h.b.go fun b hb _ => ⟨rfl, trivial⟩, h.p.base (Nat.zero_le _), h.m.base (Nat.zero_le _)⟩
theorem Lw.kept {w wx w' : World} {R : Nat} {ba pa ma : Option Addr} {bc pc mc : Nat} {bs : List Sy.Bl} {s : Lb.St} (h : Lw w R ba bc pa pc ma mc bs s wx) (q : Qw wx w') : Lw w R ba bc pa pc ma mc bs s w' := ⟨h.X.kept q, h.L.kept q, Qw.trans h.Q q⟩
theorem Lw.cells {w wx : World} {R : Nat} {ba pa ma : Option Addr} {bc pc mc : Nat} {bs : List Sy.Bl} {s : Lb.St} (h : Lw w R ba bc pa pc ma mc bs s wx) : wx.cell? ⟨R, 0, none⟩ = some (.slice ba bs.length bc) ∧ wx.cell? ⟨R, 1, none⟩ = some (.slice pa s.pg.length pc) ∧ wx.cell? ⟨R, 2, none⟩ = some (.slice ma s.mate.length mc) ∧ R < wx.heap.size := ⟨h.X.cell' 0 _ rfl, h.X.cell' 1 _ rfl, h.X.cell' 2 _ rfl, h.X.lt⟩
namespace Lb
end Lb
end Go.Proofs.YtlgdjbabbfdngaaDoor
set_option linter.unusedVariables false
set_option linter.unusedSimpArgs false
namespace Go.Proofs.YtlgdjbabbfdngaaDoor
open Go.RowKit
def RnA (B : Nat) (v : Value) (zs : List Int) (w : World) (e : Ending) (w' : World) : Prop :=
  ∃ (a : Option Addr) (cap : Nat) (l : List Sy.Bl), e = .returned (.slice a l.length cap) ∧ l.length ≤ 13 ∧ BlksB w' (fun k => w.heap.size ≤ k) a cap l ∧ (∀ b ∈ l, Sy.Dwn b) ∧ TpB w' B v zs ∧ Px B w w'
set_option maxRecDepth 100000 in
set_option maxHeartbeats 4000000 in
theorem randomW {B : Nat} {v : Value} {zs : List Int} (w : World) (hT : TpB w B v zs) : Calls Tryd.prog 13 #[.pointer (some ⟨B, 0, none⟩)] w (RnA B v zs w) := by
  have hBl := hT.lt
  have c1 := fun n n1 n2 w h => nextA (B := B) (v := v) (zs := zs) n n1 n2 w h
  have c3 := fun w h => blockC (B := B) (v := v) (zs := zs) w h
  have C := Lib.hid c1
  have BL := Lib.hid c3
  have FI := Lib.hid (Fi.start hT)
  clear c1 c3 hT
  go_enter Tryd.func13, Tryd.ntmps13
  go_wp2_with (go_at_call 29; with_reducible refine (C.out _ (by decide) (by decide) _ FI.out.T).mono ?_; rintro e w' ⟨n, rfl, n0, n1, tp, q⟩; replace FI := Lib.hid (FI.out.px tp q); clear tp q)
  go_loopw [3, 4] (fun lv nv wr => ∃ (m : Int) (ds : List Bi), nv = .int .i64 m ∧ 0 ≤ m ∧ m + (ds.length : Int) ≤ 13 ∧ Hid (∀ d ∈ ds, Sy.Dwn d.b) ∧ Hid (Fi B v zs w lv (.slice none 0 0) 0 ds wr)) (fun _ nv _ => (intOf nv).toNat)
  case atStart => exact ⟨n, [], rfl, n0, by simp; omega, Lib.hid (by simp), FI⟩
  case round =>
    clear FI
    obtain ⟨m, ds, rfl, m0, m1, HD, FI⟩ := hrel
    have hlv : ∃ la ln lc, u3 = .slice la ln lc := by obtain ⟨a, c, e, h⟩ := FI.out.O.shape; exact ⟨a, c, e, h⟩
    obtain ⟨ea, en, ec, rfl⟩ := hlv
    by_cases hlt : 0 < m
    · have hz : Hid (∀ b, wr.heap.size ≤ b → w.heap.size ≤ b ∧ (Value.slice ea en ec).ownBlock ≠ some b ∧ (Value.slice none 0 0).ownBlock ≠ some b) := Lib.hid (fun b hb => by
        have := FI.out.q.size
        refine ⟨by omega, fun e => ?_, by intro e; cases e⟩
        have := (FI.out.O.lt e).2.1
        omega)
      go_wp2_with (first
        | (go_at_call 32; with_reducible refine (BL.out _ FI.out.T).mono ?_; rintro e w2 ⟨b, wa, la, xa, wc, lc, xc, rfl, dw, hb, tp, q⟩; have FJ := Lib.hid (FI.out.px tp q); have HB := Lib.hid hb; have DW := Lib.hid dw; clear tp q hb dw)
        | (at_builtin; refine block_append 11 14 ⟨b, wa, wc, la, lc, xa, xc⟩ w.heap.size _ ds _ (by rfl) (by rfl) (Bx.new _ _ _) (FJ.out.kept ((Qw.refl _).al _)).O (by omega) (by have := FJ.out.q.size; simp; omega) ?_; intro v' w3 ho hg hn; have FK := Lib.hid ((FJ.out.kept ((Qw.refl _).al _)).app ((BiB.kept HB.out ((Qw.refl _).al _)).go fun k hk _ => ⟨rfl, hz.out k hk⟩) ho hg hn); clear ho hg hn))
      go_roundw
      case measure => simp [intOf]; omega
      case rel => exact ⟨m - 1, ds ++ [⟨b, wa, wc, la, lc, xa, xc⟩], by go_num, by omega, by simp; omega, Lib.hid (fun d hd => by rcases List.mem_append.1 hd with hd | hd; exact HD.out d hd; obtain rfl := List.mem_singleton.1 hd; exact DW.out), FK⟩
    · obtain ⟨a, cap, e, hb⟩ := FI.out.O.blocks (S := fun k => w.heap.size ≤ k) (fun g hg => (FI.out.O.lt hg).1) (fun d hd => (FI.out.D d hd).go fun b hS _ => ⟨rfl, hS.1⟩)
      obtain ⟨rfl, rfl, rfl⟩ : ea = a ∧ en = ds.length ∧ ec = cap := by simpa using e
      have HB := Lib.hid hb
      clear e hb
      go_wp2
      go_ret
      refine ⟨ea, ec, bis ds, ?_, ?_, HB.out, fun b hb => ?_, FI.out.T, FI.out.q⟩
      · rw [show (bis ds).length = ds.length from List.length_map _]; rfl
      · unfold bis; rw [List.length_map]; omega
      · obtain ⟨d, hd, rfl⟩ := List.mem_map.1 hb
        exact HD.out d hd
def RnQ (w0 : World) (e : Ending) (w' : World) : Prop := ∃ a cap l, e = .returned (.slice a l.length cap) ∧ l.length ≤ 13 ∧ BlksB w' (fun k => w0.heap.size ≤ k) a cap l ∧ (∀ b ∈ l, Sy.Dwn b) ∧ Qw w0 w'
theorem RnQ.open_ {w0 : World} {e : Ending} {w' : World} (h : RnQ w0 e w') : ∃ a cap l, e = .returned (.slice a l.length cap) ∧ l.length ≤ 13 ∧ BlksB w' (fun k => w0.heap.size ≤ k) a cap l ∧ (∀ b ∈ l, Sy.Dwn b) ∧ Qw w0 w' := h
theorem randomX {B : Nat} {v : Value} {zs : List Int} (w0 w : World) (hB : w0.heap.size ≤ B) (hT : TpB w B v zs) (q : Qw w0 w) : Calls Tryd.prog 13 #[.pointer (some ⟨B, 0, none⟩)] w (RnQ w0) := (randomW w hT).mono (by
  intro e w' h
  obtain ⟨a, cap, l, rfl, h1, h2, h4, h5, h6⟩ := h
  have hs := q.size
  exact ⟨a, cap, l, rfl, h1, h2.go fun b hb _ => ⟨rfl, by omega⟩, h4, Qw.px q h6 hB⟩)
end Go.Proofs.YtlgdjbabbfdngaaDoor
set_option linter.unusedVariables false
set_option linter.unusedSimpArgs false
namespace Go.Proofs.YtlgdjbabbfdngaaDoor
open Go.RowKit
theorem BlkB.kept {w w' : World} {S : Nat → Prop} {b : Sy.Bl} {cs : Array Value} (h : BlkB w S b cs) (q : Qw w w') : BlkB w' S b cs := h.go fun b hS hb => ⟨q.block b hb, hS⟩
end Go.Proofs.YtlgdjbabbfdngaaDoor
set_option linter.unusedVariables false
set_option linter.unusedSimpArgs false
namespace Go.Proofs.YtlgdjbabbfdngaaDoor
open Go.RowKit
theorem KidsB.at {w : World} {S : Nat → Prop} {a : Option Addr} {cap : Nat} {ks : List Sy.Ex} (h : KidsB w S a cap ks) (i : Nat) (hi : i < ks.length) : ∃ (b off : Nat) (ad : Option Addr) (cc : Nat), a = some ⟨b, off, none⟩ ∧ S b ∧ b < w.heap.size ∧
    w.cell? ⟨b, off + i * 3, none⟩ = some (.int .i64 ks[i].op) ∧ w.cell? ⟨b, off + i * 3 + 1, none⟩ = some (.int .i64 ks[i].n) ∧ w.cell? ⟨b, off + i * 3 + 2, none⟩ = some (.slice ad ks[i].ks.length cc) ∧ KidsB w S ad cc ks[i].ks := by
  cases h with
  | nl => simp at hi
  | mk b off cap ks ad cc hS h1 h2 hc hkk =>
    obtain ⟨z0, z1, z2⟩ := hc i hi
    exact ⟨b, off, ad i, cc i, rfl, hS, cell_lt z0, z0, z1, z2, hkk i hi⟩
set_option maxRecDepth 100000 in
set_option maxHeartbeats 4000000 in
theorem sx_sameExpr (x : Sy.Ex) : ∀ (a a' : Option Addr) (cap cap' : Nat) (S S' : Nat → Prop) (w : World), KidsB w S a cap x.ks → KidsB w S' a' cap' x.ks →
    Calls Tryd.prog 63 #[.agg #[.int .i64 x.op, .int .i64 x.n, .slice a x.ks.length cap], .agg #[.int .i64 x.op, .int .i64 x.n, .slice a' x.ks.length cap']] w fun e w' => e = .returned (.bool true) ∧ Qw w w' := by
  induction x using Sy.Ex.ind with
  | h op n ks ih =>
    intro a a' cap cap' S S' w hk hk'
    show Calls Tryd.prog 63 #[.agg #[.int .i64 op, .int .i64 n, .slice a ks.length cap], .agg #[.int .i64 op, .int .i64 n, .slice a' ks.length cap']] w _
    replace hk : KidsB w S a cap ks := hk
    replace hk' : KidsB w S' a' cap' ks := hk'
    obtain ⟨l1, l2⟩ := hk.cap
    obtain ⟨l1', l2'⟩ := hk'.cap
    have HK := Lib.hid hk
    have HK' := Lib.hid hk'
    have IH := Lib.hid ih
    clear hk hk' ih
    go_enter Tryd.func63, Tryd.ntmps63
    go_wp2_with fail
    refine code_of (fun w2 => Hid (Bx w2 w.heap.size #[.int .i64 op, .int .i64 n, .slice a ks.length cap] 35) ∧ Hid (Bx w2 (w.heap.size + 1) #[.int .i64 op, .int .i64 n, .slice a' ks.length cap'] 35) ∧ Hid (Qw w w2)) ⟨Lib.hid (by repeat (first | exact Bx.new _ _ _ | refine Bx.alloc ?_ _ | refine Bx.drew ?_)), Lib.hid (by have := Bx.new (w.alloc (.cells #[.int .i64 op, .int .i64 n, .slice a ks.length cap] 35)) #[.int .i64 op, .int .i64 n, .slice a' ks.length cap'] 35; simpa using this), Lib.hid (by unfold Qw; repeat (first | exact Below.refl _ _ | refine Below.alloc ?_ (by simp) _ | refine Below.drew ?_))⟩ ?_
    rintro w2 ⟨B0, B1, Q0⟩
    go_loopw [5] (fun iv wr => ∃ i : Nat, iv = .int .i64 (i : Int) ∧ i ≤ ks.length ∧ Hid (Bx wr w.heap.size #[.int .i64 op, .int .i64 n, .slice a ks.length cap] 35) ∧ Hid (Bx wr (w.heap.size + 1) #[.int .i64 op, .int .i64 n, .slice a' ks.length cap'] 35) ∧ Hid (Qw w wr)) (fun iv _ => ks.length - (intOf iv).toNat)
    case atStart => exact ⟨0, rfl, Nat.zero_le _, B0, B1, Q0⟩
    case round =>
      clear B0 B1 Q0
      obtain ⟨i, rfl, hi, B0, B1, Q0⟩ := hrel
      have x2 : wr.cell? ⟨w.heap.size, 2, none⟩ = some (.slice a ks.length cap) := B0.out.cell' 2 _ rfl
      have y2 : wr.cell? ⟨w.heap.size + 1, 2, none⟩ = some (.slice a' ks.length cap') := B1.out.cell' 2 _ rfl
      by_cases hlt : i < ks.length
      · obtain ⟨b, off, ad, cc, rfl, hS, bl, z0, z1, z2, KK⟩ := HK.out.at i hlt
        obtain ⟨b', off', ad', cc', rfl, hS', bl', z0', z1', z2', KK'⟩ := HK'.out.at i hlt
        have hi2 : (i : Int) < (ks.length : Int) := by omega
        have cr : ∀ w1, Qw w w1 → _ := fun w1 q => IH.out ks[i] (List.getElem_mem hlt) ad ad' cc cc' S S' w1 (KK.kept q) (KK'.kept q)
        have D1 : Hid (∀ p : Kept wr, Calls Tryd.prog 63 #[.agg #[.int .i64 ks[i].op, .int .i64 ks[i].n, .slice ad ks[i].ks.length cc], .agg #[.int .i64 ks[i].op, .int .i64 ks[i].n, .slice ad' ks[i].ks.length cc']] p.v fun e w' => e = .returned (.bool true) ∧ Qw p.v w') := Lib.hid fun p => cr p.v (Q0.out.trans p.h)
        have kx := B0.out.kcell 2 _ rfl
        have ky := B1.out.kcell 2 _ rfl
        have k0 : ∀ p : Kept wr, p.v.cell? ⟨b, off + i * 3, none⟩ = some (.int .i64 ks[i].op) := fun p => (World.cell?_of_block (w := w) ((Q0.out.trans p.h).block _ bl)).trans z0
        have k1 : ∀ p : Kept wr, p.v.cell? ⟨b, off + i * 3 + 1, none⟩ = some (.int .i64 ks[i].n) := fun p => (World.cell?_of_block (w := w) ((Q0.out.trans p.h).block _ bl)).trans z1
        have k2 : ∀ p : Kept wr, p.v.cell? ⟨b, off + i * 3 + 2, none⟩ = some (.slice ad ks[i].ks.length cc) := fun p => (World.cell?_of_block (w := w) ((Q0.out.trans p.h).block _ bl)).trans z2
        have k0' : ∀ p : Kept wr, p.v.cell? ⟨b', off' + i * 3, none⟩ = some (.int .i64 ks[i].op) := fun p => (World.cell?_of_block (w := w) ((Q0.out.trans p.h).block _ bl')).trans z0'
        have k1' : ∀ p : Kept wr, p.v.cell? ⟨b', off' + i * 3 + 1, none⟩ = some (.int .i64 ks[i].n) := fun p => (World.cell?_of_block (w := w) ((Q0.out.trans p.h).block _ bl')).trans z1'
        have k2' : ∀ p : Kept wr, p.v.cell? ⟨b', off' + i * 3 + 2, none⟩ = some (.slice ad' ks[i].ks.length cc') := fun p => (World.cell?_of_block (w := w) ((Q0.out.trans p.h).block _ bl')).trans z2'
        clear cr z0 z1 z2 z0' z1' z2' KK KK' IH HK HK'
        generalize ks[i].ks.length = kl at *
        generalize ks[i].op = ko at *
        generalize ks[i].n = kn at *
        go_upto_region 6 with fail
        refine region_kept (by kernel_rfl) (by kernel_rfl) ?_
        repeat (go_big_quiet_step (first | (go_at_call 63; with_reducible exact Kept.call (D1.out _))))
        refine wpQuiet_nil ?_
        intro w3 q
        replace B0 := Lib.hid (B0.out.kept q)
        replace B1 := Lib.hid (B1.out.kept q)
        replace Q0 := Lib.hid (Q0.out.trans q)
        clear kx ky k0 k1 k2 k0' k1' k2' q x2 y2 D1
        go_wp2_with fail
        go_roundw
        case measure => simp [intOf]; omega
        case rel => exact ⟨i + 1, by go_num, by omega, B0, B1, Q0⟩
      · obtain rfl : i = ks.length := by omega
        have hb : ¬ ((ks.length : Nat) : Int) < (ks.length : Int) := by omega
        go_wp2_with fail
        go_ret
        exact ⟨rfl, Q0.out⟩
end Go.Proofs.YtlgdjbabbfdngaaDoor
set_option linter.unusedVariables false
set_option linter.unusedSimpArgs false
namespace Go.Proofs.YtlgdjbabbfdngaaDoor
open Go.RowKit
theorem WordsB.at {w : World} {S : Nat → Prop} {a : Option Addr} {cap : Nat} {ws : List (Int × Sy.Ex)} (h : WordsB w S a cap ws) (i : Nat) (hi : i < ws.length) : ∃ (b off : Nat) (ad : Option Addr) (cc : Nat), a = some ⟨b, off, none⟩ ∧ b < w.heap.size ∧
    w.cell? ⟨b, off + i * 4, none⟩ = some (.int .i64 ws[i].1) ∧ w.cell? ⟨b, off + i * 4 + 1, none⟩ = some (.int .i64 ws[i].2.op) ∧ w.cell? ⟨b, off + i * 4 + 2, none⟩ = some (.int .i64 ws[i].2.n) ∧ w.cell? ⟨b, off + i * 4 + 3, none⟩ = some (.slice ad ws[i].2.ks.length cc) ∧ KidsB w S ad cc ws[i].2.ks := by
  rcases h.2.2 with rfl | ⟨b, off, ad, cc, rfl, hS, hc⟩
  · simp at hi
  · obtain ⟨h1, h2, h3, h4, h5⟩ := hc i hi
    exact ⟨b, off, ad i, cc i, rfl, cell_lt h1, h1, h2, h3, h4, h5⟩
set_option maxRecDepth 100000 in
set_option maxHeartbeats 4000000 in
theorem sx_same (b : Sy.Bl) (cs cs' : Array Value) (S S' : Nat → Prop) (w : World) (hB : BlkB w S b cs) (hB' : BlkB w S' b cs') :
    Calls Tryd.prog 43 #[.agg cs, .agg cs'] w fun e w' => e = .returned (.bool true) ∧ Qw w w' := by
  obtain ⟨kind, label, skip, words, left, x, n⟩ := b
  obtain ⟨wa, wc, la, lc, xa, xc, rfl, hW, hL, hX⟩ := hB
  obtain ⟨wa', wc', la', lc', xa', xc', rfl, hW', hL', hX'⟩ := hB'
  have cl : ∀ w1, Qw w w1 → Calls Tryd.prog 63 #[.agg #[.int .i64 left.op, .int .i64 left.n, .slice la left.ks.length lc], .agg #[.int .i64 left.op, .int .i64 left.n, .slice la' left.ks.length lc']] w1 fun e w' => e = .returned (.bool true) ∧ Qw w1 w' := fun w1 q => sx_sameExpr left la la' lc lc' S S' w1 (hL.kept q) (hL'.kept q)
  have cx : ∀ w1, Qw w w1 → Calls Tryd.prog 63 #[.agg #[.int .i64 x.op, .int .i64 x.n, .slice xa x.ks.length xc], .agg #[.int .i64 x.op, .int .i64 x.n, .slice xa' x.ks.length xc']] w1 fun e w' => e = .returned (.bool true) ∧ Qw w1 w' := fun w1 q => sx_sameExpr x xa xa' xc xc' S S' w1 (hX.kept q) (hX'.kept q)
  have m2 : words.length ≤ 9223372036854775807 := Nat.le_trans hW.1 hW.2.1
  have CL := Lib.hid cl
  have CX := Lib.hid cx
  have HW := Lib.hid hW
  have HW' := Lib.hid hW'
  clear cl cx hW hW' hL hL' hX hX'
  show Calls Tryd.prog 43 #[.agg #[.int .i64 kind, .int .i64 label, .bool skip, .slice wa words.length wc, .int .i64 left.op, .int .i64 left.n, .slice la left.ks.length lc, .int .i64 x.op, .int .i64 x.n, .slice xa x.ks.length xc, .int .i64 n], .agg #[.int .i64 kind, .int .i64 label, .bool skip, .slice wa' words.length wc', .int .i64 left.op, .int .i64 left.n, .slice la' left.ks.length lc', .int .i64 x.op, .int .i64 x.n, .slice xa' x.ks.length xc', .int .i64 n]] w _
  generalize left.ks.length = ll at *
  generalize left.op = lo at *
  generalize left.n = ln at *
  generalize x.ks.length = xl at *
  generalize x.op = xo at *
  generalize x.n = xn at *
  have K0 : Hid (∀ w2, Qw ((w.alloc (.cells #[.int .i64 kind, .int .i64 label, .bool skip, .slice wa words.length wc, .int .i64 lo, .int .i64 ln, .slice la ll lc, .int .i64 xo, .int .i64 xn, .slice xa xl xc, .int .i64 n] 37)).alloc (.cells #[.int .i64 kind, .int .i64 label, .bool skip, .slice wa' words.length wc', .int .i64 lo, .int .i64 ln, .slice la' ll lc', .int .i64 xo, .int .i64 xn, .slice xa' xl xc', .int .i64 n] 37)) w2 →
      Bx w2 w.heap.size #[.int .i64 kind, .int .i64 label, .bool skip, .slice wa words.length wc, .int .i64 lo, .int .i64 ln, .slice la ll lc, .int .i64 xo, .int .i64 xn, .slice xa xl xc, .int .i64 n] 37 ∧ Bx w2 (w.heap.size + 1) #[.int .i64 kind, .int .i64 label, .bool skip, .slice wa' words.length wc', .int .i64 lo, .int .i64 ln, .slice la' ll lc', .int .i64 xo, .int .i64 xn, .slice xa' xl xc', .int .i64 n] 37 ∧ Qw w w2) := Lib.hid fun w2 q => ⟨((Bx.new w _ _).alloc _).kept q, by have := (Bx.new (w.alloc (.cells #[.int .i64 kind, .int .i64 label, .bool skip, .slice wa words.length wc, .int .i64 lo, .int .i64 ln, .slice la ll lc, .int .i64 xo, .int .i64 xn, .slice xa xl xc, .int .i64 n] 37)) #[.int .i64 kind, .int .i64 label, .bool skip, .slice wa' words.length wc', .int .i64 lo, .int .i64 ln, .slice la' ll lc', .int .i64 xo, .int .i64 xn, .slice xa' xl xc', .int .i64 n] 37).kept q; simpa using this, Qw.trans (((Below.refl _ _).alloc (Nat.le_refl _) _).alloc (by simp) _) q⟩
  go_enter Tryd.func43, Tryd.ntmps43
  go_wp2_with (first
    | (go_at_call 63; ((with_reducible refine (CL.out _ (K0.out _ (by unfold Qw; repeat (first | exact Below.refl _ _ | refine Below.drew ?_))).2.2).mono ?_); rintro e w' ⟨rfl, q⟩; have F := Lib.hid (K0.out _ q); clear q; have x7 := F.out.1.cell' 7 _ rfl; have x8 := F.out.1.cell' 8 _ rfl; have x9 := F.out.1.cell' 9 _ rfl; have y7 := F.out.2.1.cell' 7 _ rfl; have y8 := F.out.2.1.cell' 8 _ rfl; have y9 := F.out.2.1.cell' 9 _ rfl; clear CL))
    | (go_at_call 63; ((with_reducible refine (CX.out _ F.out.2.2).mono ?_); rintro e w' ⟨rfl, q⟩; have B0 := Lib.hid (F.out.1.kept q); have B1 := Lib.hid (F.out.2.1.kept q); have Q0 := Lib.hid (F.out.2.2.trans q); clear q F x7 x8 x9 y7 y8 y9; have x3 := B0.out.cell' 3 _ rfl; have y3 := B1.out.cell' 3 _ rfl)))
  go_loopw [5] (fun iv wr => ∃ i : Nat, iv = .int .i64 (i : Int) ∧ i ≤ words.length ∧ Hid (Bx wr w.heap.size #[.int .i64 kind, .int .i64 label, .bool skip, .slice wa words.length wc, .int .i64 lo, .int .i64 ln, .slice la ll lc, .int .i64 xo, .int .i64 xn, .slice xa xl xc, .int .i64 n] 37) ∧ Hid (Bx wr (w.heap.size + 1) #[.int .i64 kind, .int .i64 label, .bool skip, .slice wa' words.length wc', .int .i64 lo, .int .i64 ln, .slice la' ll lc', .int .i64 xo, .int .i64 xn, .slice xa' xl xc', .int .i64 n] 37) ∧ Hid (Qw w wr)) (fun iv _ => words.length - (intOf iv).toNat)
  case atStart => exact ⟨0, rfl, Nat.zero_le _, B0, B1, Q0⟩
  case round =>
    clear B0 B1 Q0 x3 y3
    obtain ⟨i, rfl, hi, B0, B1, Q0⟩ := hrel
    have x3 : wr.cell? ⟨w.heap.size, 3, none⟩ = some (.slice wa words.length wc) := B0.out.cell' 3 _ rfl
    have y3 : wr.cell? ⟨w.heap.size + 1, 3, none⟩ = some (.slice wa' words.length wc') := B1.out.cell' 3 _ rfl
    by_cases hlt : i < words.length
    · obtain ⟨b, off, ad, cc, rfl, bl, z0, z1, z2, z3, KK⟩ := HW.out.at i hlt
      obtain ⟨b', off', ad', cc', rfl, bl', z0', z1', z2', z3', KK'⟩ := HW'.out.at i hlt
      have hi2 : (i : Int) < (words.length : Int) := by omega
      have cr : ∀ w1, Qw w w1 → _ := fun w1 q => sx_sameExpr words[i].2 ad ad' cc cc' S S' w1 (KK.kept q) (KK'.kept q)
      have D1 : Hid (∀ p : Kept wr, Calls Tryd.prog 63 #[.agg #[.int .i64 words[i].2.op, .int .i64 words[i].2.n, .slice ad words[i].2.ks.length cc], .agg #[.int .i64 words[i].2.op, .int .i64 words[i].2.n, .slice ad' words[i].2.ks.length cc']] p.v fun e w' => e = .returned (.bool true) ∧ Qw p.v w') := Lib.hid fun p => cr p.v (Q0.out.trans p.h)
      have kx := B0.out.kcell 3 _ rfl
      have ky := B1.out.kcell 3 _ rfl
      have k0 : ∀ p : Kept wr, p.v.cell? ⟨b, off + i * 4, none⟩ = some (.int .i64 words[i].1) := fun p => (World.cell?_of_block (w := w) ((Q0.out.trans p.h).block _ bl)).trans z0
      have k1 : ∀ p : Kept wr, p.v.cell? ⟨b, off + i * 4 + 1, none⟩ = some (.int .i64 words[i].2.op) := fun p => (World.cell?_of_block (w := w) ((Q0.out.trans p.h).block _ bl)).trans z1
      have k2 : ∀ p : Kept wr, p.v.cell? ⟨b, off + i * 4 + 2, none⟩ = some (.int .i64 words[i].2.n) := fun p => (World.cell?_of_block (w := w) ((Q0.out.trans p.h).block _ bl)).trans z2
      have k3 : ∀ p : Kept wr, p.v.cell? ⟨b, off + i * 4 + 3, none⟩ = some (.slice ad words[i].2.ks.length cc) := fun p => (World.cell?_of_block (w := w) ((Q0.out.trans p.h).block _ bl)).trans z3
      have k0' : ∀ p : Kept wr, p.v.cell? ⟨b', off' + i * 4, none⟩ = some (.int .i64 words[i].1) := fun p => (World.cell?_of_block (w := w) ((Q0.out.trans p.h).block _ bl')).trans z0'
      have k1' : ∀ p : Kept wr, p.v.cell? ⟨b', off' + i * 4 + 1, none⟩ = some (.int .i64 words[i].2.op) := fun p => (World.cell?_of_block (w := w) ((Q0.out.trans p.h).block _ bl')).trans z1'
      have k2' : ∀ p : Kept wr, p.v.cell? ⟨b', off' + i * 4 + 2, none⟩ = some (.int .i64 words[i].2.n) := fun p => (World.cell?_of_block (w := w) ((Q0.out.trans p.h).block _ bl')).trans z2'
      have k3' : ∀ p : Kept wr, p.v.cell? ⟨b', off' + i * 4 + 3, none⟩ = some (.slice ad' words[i].2.ks.length cc') := fun p => (World.cell?_of_block (w := w) ((Q0.out.trans p.h).block _ bl')).trans z3'
      clear cr z0 z1 z2 z3 z0' z1' z2' z3' KK KK' HW HW' CX
      generalize words[i].2.ks.length = kl at *
      generalize words[i].2.op = ko at *
      generalize words[i].2.n = kn at *
      generalize words[i].1 = kc at *
      go_upto_region 6 with fail
      refine region_kept (by kernel_rfl) (by kernel_rfl) ?_
      repeat (go_big_quiet_step (first | (go_at_call 63; with_reducible exact Kept.call (D1.out _))))
      refine wpQuiet_nil ?_
      intro w3 q
      replace B0 := Lib.hid (B0.out.kept q)
      replace B1 := Lib.hid (B1.out.kept q)
      replace Q0 := Lib.hid (Q0.out.trans q)
      clear kx ky k0 k1 k2 k3 k0' k1' k2' k3' q x3 y3 D1
      go_wp2_with fail
      go_roundw
      case measure => simp [intOf]; omega
      case rel => exact ⟨i + 1, by go_num, by omega, B0, B1, Q0⟩
    · obtain rfl : i = words.length := by omega
      have hb : ¬ ((words.length : Nat) : Int) < (words.length : Int) := by omega
      go_wp2_with fail
      go_ret
      exact ⟨rfl, Q0.out⟩
end Go.Proofs.YtlgdjbabbfdngaaDoor
set_option linter.unusedVariables false
set_option linter.unusedSimpArgs false
namespace Go.Proofs.YtlgdjbabbfdngaaDoor
open Go.RowKit
theorem bibB {w : World} {S : Nat → Prop} {d : Bi} (h : BiB w S d) : BlkB w S d.b (bicell d).toArray := ⟨d.wa, d.wc, d.la, d.lc, d.xa, d.xc, rfl, h.1, h.2.1, h.2.2⟩
theorem BlksB.at {w : World} {S : Nat → Prop} {a : Option Addr} {cap : Nat} {bs : List Sy.Bl} (h : BlksB w S a cap bs) {i : Nat} (hi : i < bs.length) : ∃ (b off : Nat) (d : Bi), a = some ⟨b, off, none⟩ ∧ b < w.heap.size ∧ d.b = bs[i] ∧ ∀ w', Qw w w' → BiB w' S d ∧ ∀ j u, (bicell d)[j]? = some u → w'.cell? ⟨b, off + i * 11 + j, none⟩ = some u := by
  rcases h.2.2 with h0 | ⟨b, off, f, rfl, hS, hc⟩
  · rw [h0] at hi; simp at hi
  · obtain ⟨h1, h2, h3⟩ := hc i hi
    have bl := cell_lt (h3 0 _ rfl)
    refine ⟨b, off, f i, rfl, bl, h1, fun w' q => ⟨h2.go fun k hk hl => ⟨q.block k hl, hk⟩, fun j u hj => (World.cell?_of_block (w := w) (q.block b bl)).trans (h3 j u hj)⟩⟩
set_option maxRecDepth 100000 in
set_option maxHeartbeats 4000000 in
theorem sa_all (bs : List Sy.Bl) (a a' : Option Addr) (cap cap' : Nat) (S S' : Nat → Prop) (w : World) (h : BlksB w S a cap bs) (h' : BlksB w S' a' cap' bs) : Calls Tryd.prog 30 #[.slice a bs.length cap, .slice a' bs.length cap'] w fun e w' => e = .returned (.bool true) ∧ Qw w w' := by
  have l1 : bs.length ≤ cap := h.1
  have l2 : cap ≤ 9223372036854775807 := h.2.1
  have HA := Lib.hid h
  have HB := Lib.hid h'
  clear h h'
  go_enter Tryd.func30, Tryd.ntmps30
  go_wp2
  go_loopw [5] (fun iv wr => ∃ i : Nat, i ≤ bs.length ∧ iv = .int .i64 (i : Int) ∧ Hid (Qw w wr)) (fun iv _ => bs.length - (intOf iv).toNat)
  case atStart => exact ⟨0, by omega, rfl, Lib.hid (Qw.refl w)⟩
  case round =>
    obtain ⟨i, hi, rfl, HQ⟩ := hrel
    by_cases hlt : i < bs.length
    · have h63 : (i : Int) ≤ 9223372036854775806 := by omega
      have hlt' : (i : Int) < (bs.length : Int) := by omega
      obtain ⟨b, off, d, rfl, bl, hd, hw⟩ := (HA.out.kept HQ.out).at hlt
      obtain ⟨b', off', d', rfl, bl', hd', hw'⟩ := (HB.out.kept HQ.out).at hlt
      have kz := fun (p : Kept wr) j u hj => (hw p.v p.h).2 j u hj
      have kz' := fun (p : Kept wr) j u hj => (hw' p.v p.h).2 j u hj
      have y0 : ∀ p : Kept wr, p.v.cell? ⟨b, off + i * 11, none⟩ = some (.int .i64 d.b.kind) := fun p => kz p 0 _ rfl
      have y1 : ∀ p : Kept wr, p.v.cell? ⟨b, off + i * 11 + 1, none⟩ = some (.int .i64 d.b.label) := fun p => kz p 1 _ rfl
      have y2 : ∀ p : Kept wr, p.v.cell? ⟨b, off + i * 11 + 2, none⟩ = some (.bool d.b.skip) := fun p => kz p 2 _ rfl
      have y3 : ∀ p : Kept wr, p.v.cell? ⟨b, off + i * 11 + 3, none⟩ = some (.slice d.wa d.b.words.length d.wc) := fun p => kz p 3 _ rfl
      have y4 : ∀ p : Kept wr, p.v.cell? ⟨b, off + i * 11 + 4, none⟩ = some (.int .i64 d.b.left.op) := fun p => kz p 4 _ rfl
      have y5 : ∀ p : Kept wr, p.v.cell? ⟨b, off + i * 11 + 5, none⟩ = some (.int .i64 d.b.left.n) := fun p => kz p 5 _ rfl
      have y6 : ∀ p : Kept wr, p.v.cell? ⟨b, off + i * 11 + 6, none⟩ = some (.slice d.la d.b.left.ks.length d.lc) := fun p => kz p 6 _ rfl
      have y7 : ∀ p : Kept wr, p.v.cell? ⟨b, off + i * 11 + 7, none⟩ = some (.int .i64 d.b.x.op) := fun p => kz p 7 _ rfl
      have y8 : ∀ p : Kept wr, p.v.cell? ⟨b, off + i * 11 + 8, none⟩ = some (.int .i64 d.b.x.n) := fun p => kz p 8 _ rfl
      have y9 : ∀ p : Kept wr, p.v.cell? ⟨b, off + i * 11 + 9, none⟩ = some (.slice d.xa d.b.x.ks.length d.xc) := fun p => kz p 9 _ rfl
      have y10 : ∀ p : Kept wr, p.v.cell? ⟨b, off + i * 11 + 10, none⟩ = some (.int .i64 d.b.n) := fun p => kz p 10 _ rfl
      have z0 : ∀ p : Kept wr, p.v.cell? ⟨b', off' + i * 11, none⟩ = some (.int .i64 d'.b.kind) := fun p => kz' p 0 _ rfl
      have z1 : ∀ p : Kept wr, p.v.cell? ⟨b', off' + i * 11 + 1, none⟩ = some (.int .i64 d'.b.label) := fun p => kz' p 1 _ rfl
      have z2 : ∀ p : Kept wr, p.v.cell? ⟨b', off' + i * 11 + 2, none⟩ = some (.bool d'.b.skip) := fun p => kz' p 2 _ rfl
      have z3 : ∀ p : Kept wr, p.v.cell? ⟨b', off' + i * 11 + 3, none⟩ = some (.slice d'.wa d'.b.words.length d'.wc) := fun p => kz' p 3 _ rfl
      have z4 : ∀ p : Kept wr, p.v.cell? ⟨b', off' + i * 11 + 4, none⟩ = some (.int .i64 d'.b.left.op) := fun p => kz' p 4 _ rfl
      have z5 : ∀ p : Kept wr, p.v.cell? ⟨b', off' + i * 11 + 5, none⟩ = some (.int .i64 d'.b.left.n) := fun p => kz' p 5 _ rfl
      have z6 : ∀ p : Kept wr, p.v.cell? ⟨b', off' + i * 11 + 6, none⟩ = some (.slice d'.la d'.b.left.ks.length d'.lc) := fun p => kz' p 6 _ rfl
      have z7 : ∀ p : Kept wr, p.v.cell? ⟨b', off' + i * 11 + 7, none⟩ = some (.int .i64 d'.b.x.op) := fun p => kz' p 7 _ rfl
      have z8 : ∀ p : Kept wr, p.v.cell? ⟨b', off' + i * 11 + 8, none⟩ = some (.int .i64 d'.b.x.n) := fun p => kz' p 8 _ rfl
      have z9 : ∀ p : Kept wr, p.v.cell? ⟨b', off' + i * 11 + 9, none⟩ = some (.slice d'.xa d'.b.x.ks.length d'.xc) := fun p => kz' p 9 _ rfl
      have z10 : ∀ p : Kept wr, p.v.cell? ⟨b', off' + i * 11 + 10, none⟩ = some (.int .i64 d'.b.n) := fun p => kz' p 10 _ rfl
      have D1 : Hid (∀ p : Kept wr, Calls Tryd.prog 43 #[.agg #[.int .i64 d.b.kind, .int .i64 d.b.label, .bool d.b.skip, .slice d.wa d.b.words.length d.wc, .int .i64 d.b.left.op, .int .i64 d.b.left.n, .slice d.la d.b.left.ks.length d.lc, .int .i64 d.b.x.op, .int .i64 d.b.x.n, .slice d.xa d.b.x.ks.length d.xc, .int .i64 d.b.n], .agg #[.int .i64 d'.b.kind, .int .i64 d'.b.label, .bool d'.b.skip, .slice d'.wa d'.b.words.length d'.wc, .int .i64 d'.b.left.op, .int .i64 d'.b.left.n, .slice d'.la d'.b.left.ks.length d'.lc, .int .i64 d'.b.x.op, .int .i64 d'.b.x.n, .slice d'.xa d'.b.x.ks.length d'.xc, .int .i64 d'.b.n]] p.v fun e w' => e = .returned (.bool true) ∧ Qw p.v w') := Lib.hid fun p : Kept wr => sx_same d.b _ _ _ _ p.v (bibB (hw p.v p.h).1) (by rw [hd, ← hd']; exact bibB (hw' p.v p.h).1)
      clear kz kz' hw hw' hd hd'
      go_wp2
      refine region_kept (by kernel_rfl) (by kernel_rfl) ?_
      repeat (go_big_quiet_step (first | (go_at_call 43; with_reducible exact Kept.call (D1.out _))))
      refine wpQuiet_nil ?_
      intro w2 q
      have Q2 : Hid (Qw w w2) := Lib.hid (Qw.trans HQ.out q)
      clear D1 q y0 z0 y1 z1 y2 z2 y3 z3 y4 z4 y5 z5 y6 z6 y7 z7 y8 z8 y9 z9 y10 z10
      go_wp2
      go_roundw
      case measure => simp [intOf]; omega
      case rel => exact ⟨i + 1, by omega, by go_num, Q2⟩
    · obtain rfl : i = bs.length := by omega
      have hb : ¬ (bs.length : Int) < (bs.length : Int) := by omega
      go_wp2
      go_ret
      exact ⟨rfl, HQ.out⟩
end Go.Proofs.YtlgdjbabbfdngaaDoor

