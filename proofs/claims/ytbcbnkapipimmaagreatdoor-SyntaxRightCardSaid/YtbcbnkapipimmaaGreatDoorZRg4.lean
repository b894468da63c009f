import Derived.Test.YtbcbnkapipimmaaGreatDoorZRg1
import Derived.Test.YtbcbnkapipimmaaGreatDoorZRg2
import Derived.Test.YtbcbnkapipimmaaGreatDoorZRg3
import Derived.Test.YtbcbnkapipimmaaGreatDoorCards
import Derived.Test.YtbcbnkapipimmaaGreatDoorTie
import Derived.Deep.QuietTactic
import Derived.BigQuiet
import Derived.StillTailTactics
import Derived.WalkLawsBesides
import Derived.Outline
import Derived.ProofKit
import Derived.OpenShut
import Derived.Deep.DeepHandedRow
import Derived.Lib.LaidTab
import Derived.Stop.LaidErr
import Derived.Carry
import Derived.ChangeMaps5
set_option linter.unusedVariables false
set_option linter.unusedSimpArgs false
namespace Go.Proofs.YtbcbnkapipimmaaGreatDoor
namespace Sy
open Lx
def noneB (x : Ex) : Bool := decide (x.op = 0) && decide (x.n = 0) && decide (x.ks.length = 0)
theorem noneB_eq {x : Ex} (h : noneB x = true) : x = zx := by
  obtain ⟨o, n, ks⟩ := x
  unfold noneB at h
  simp only [Bool.and_eq_true] at h
  obtain ⟨⟨h1, h2⟩, h3⟩ := h
  have k1 : o = 0 := of_decide_eq_true h1
  have k2 : n = 0 := of_decide_eq_true h2
  have k3 : ks.length = 0 := of_decide_eq_true h3
  rw [k1, k2, List.eq_nil_of_length_eq_zero k3]; rfl
def depB (x : Ex) : Bool := decide (dpt x ≤ 16)
def rgt (x : Ex) : Bool := okx x && depB x
def cnt (n : Int) (m : Nat) : Bool := decide (1 ≤ n) && decide (n ≤ m)
def okb (b : Bl) : Bool :=
  (decide (b.label = 0) || cnt b.label 99999) &&
  (if b.kind = 0 then b.words.all (fun w => isw w.1 && okx w.2) && noneB b.left && noneB b.x && decide (b.n = 0)
  else decide (b.words = []) &&
    (if b.kind = 1 ∨ b.kind = 3 then okx b.left && okx b.x && decide (b.n = 0)
    else if b.kind = 2 then noneB b.left && okx b.x && decide (b.n = 0)
    else if b.kind = 4 then noneB b.left && okx b.x && cnt b.n 3
    else if b.kind = 5 then noneB b.left && noneB b.x && cnt b.n 3
    else if b.kind = 6 then noneB b.left && noneB b.x && cnt b.n 99999
    else false))
def limb (b : Bl) : Bool := decide (b.words.length ≤ 24) && b.words.all (fun w => depB w.2) && depB b.left && depB b.x
def vldb (b : Bl) : Bool := okb b && limb b
theorem dpt_zx : depB zx = true := by unfold depB zx; rw [dpt_mk]; decide
def cIF : List UInt8 := [73, 70]
def cGOTO : List UInt8 := [71, 79, 84, 79]
def cWHILE : List UInt8 := [87, 72, 73, 76, 69]
def cDO : List UInt8 := [68, 79]
def cEND : List UInt8 := [69, 78, 68]
theorem pV_ok {ts : List Lx.Tok} (hg : Good ts) (i : Nat) : OkR (pV ts i) := by
  unfold pV
  split
  · exact OkR.wrapU (o := 2) ((okr ts hg _).c (i + 1)) (by omega)
  · split
    · exact (okr ts hg _).c (i + 1)
    · exact (okr ts hg _).c i
def wsB (ws : List (Int × Ex)) : Bool := ws.all (fun w => isw w.1 && okx w.2)
theorem pW_ok {ts : List Lx.Tok} (hg : Good ts) : ∀ (f : Nat) (ws : List (Int × Ex)) (i : Nat), wsB ws = true → ∀ us j, pW ts f ws i = .ok us j → wsB us = true
  | 0, ws, i, h, us, j, e => by unfold pW at e; cases e
  | f + 1, ws, i, h, us, j, e => by
    unfold pW at e
    split at e
    · rename_i hc
      have g := pV_ok hg (i + 1)
      cases e1 : pV ts (i + 1) with
      | bad k => rw [e1] at e; cases e
      | ok x k =>
        rw [e1] at e g
        simp only at e
        refine pW_ok hg f _ k ?_ us j e
        unfold wsB at h ⊢
        rw [List.all_append, h]
        simp [hc.2, show okx x = true from g]
    · cases e; exact h
theorem wrapC_ok {α β : Type} {g : α → β} {r : Rs α} {y : β} {j : Nat} (e : wrapC g r = .ok y j) : ∃ x, r = .ok x j ∧ y = g x := by
  cases r with
  | bad k => cases e
  | ok x k => cases e; exact ⟨x, rfl, rfl⟩
end Sy
end Go.Proofs.YtbcbnkapipimmaaGreatDoor
set_option linter.unusedVariables false
set_option linter.unusedSimpArgs false
namespace Go.Proofs.YtbcbnkapipimmaaGreatDoor
open Go.RowKit
structure Px (P : Nat) (w w' : World) : Prop where
  os : w'.os = w.os
  tape : w'.tape = w.tape
  output : w'.output = w.output
  size : w.heap.size ≤ w'.heap.size
  block : ∀ k, k < w.heap.size → k ≠ P → w'.heap[k]? = w.heap[k]?
theorem Px.refl (P : Nat) (w : World) : Px P w w := ⟨rfl, rfl, rfl, Nat.le_refl _, fun _ _ _ => rfl⟩
theorem Px.of {P : Nat} {w w' : World} (q : Qw w w') : Px P w w' := ⟨q.os, q.tape, q.output, q.size, fun k h _ => q.block k h⟩
theorem Px.trans {P : Nat} {a b c : World} (h : Px P a b) (k : Px P b c) : Px P a c :=
  ⟨k.os.trans h.os, k.tape.trans h.tape, k.output.trans h.output, Nat.le_trans h.size k.size, fun i hi hp => (k.block i (Nat.lt_of_lt_of_le hi h.size) hp).trans (h.block i hi hp)⟩
theorem Px.set (P : Nat) (w : World) (o : Nat) (u : Value) : Px P w (w.setCell ⟨P, o, none⟩ u) :=
  ⟨rfl, rfl, rfl, by simp [World.setCell], fun k _ hp => Below.heap_setCell _ _ _ _ hp⟩
theorem Px.below {P : Nat} {w w' : World} (h : Px P w w') (hP : P ≤ w.heap.size) : Below P w w' := ⟨h.os, h.tape, h.output, h.size, fun k hk => h.block k (by omega) (by omega)⟩
theorem Px.alloc {P : Nat} {a w : World} (h : Px P a w) (o : Obj) : Px P a (w.alloc o) :=
  h.trans ⟨rfl, rfl, rfl, by simp, fun k hk _ => Below.heap_alloc _ _ _ hk⟩
theorem Px.setP {P : Nat} {a w : World} (h : Px P a w) (o : Nat) (u : Value) : Px P a (w.setCell ⟨P, o, none⟩ u) := h.trans (Px.set P w o u)
theorem Px.setNew {P : Nat} {a w : World} (h : Px P a w) {p : Addr} (hp : a.heap.size ≤ p.block) (u : Value) : Px P a (w.setCell p u) :=
  ⟨h.os, h.tape, h.output, by have := h.size; simpa [World.setCell] using this, fun k hk hP => (Below.heap_setCell _ _ _ _ (by omega)).trans (h.block k hk hP)⟩
theorem Px.drew {P : Nat} {a w : World} (h : Px P a w) : Px P a w.drew := ⟨h.os, h.tape, h.output, h.size, h.block⟩
theorem Px.drewN {P : Nat} {a w : World} (h : Px P a w) (n : Nat) : Px P a (w.drewN n) := h.trans ⟨rfl, rfl, rfl, Nat.le_refl _, fun _ _ _ => rfl⟩
theorem Bx.px {P : Nat} {w w' : World} {b : Nat} {cs : Array Value} {t : TypeId} (h : Bx w b cs t) (q : Px P w w') (hb : b ≠ P) : Bx w' b cs t := (q.block b h.lt hb).trans h
theorem Qw.al {a w : World} (h : Qw a w) (o : Obj) : Qw a (w.alloc o) := Below.alloc h h.size o
theorem Qw.dr {a w : World} (h : Qw a w) : Qw a w.drew := Below.drew h
theorem Qw.dn {a w : World} (h : Qw a w) (n : Nat) : Qw a (w.drewN n) := Below.trans h ⟨rfl, rfl, rfl, Nat.le_refl _, fun _ _ => rfl⟩
theorem Qw.sc {a w : World} (h : Qw a w) {p : Addr} (hp : a.heap.size ≤ p.block) (u : Value) : Qw a (w.setCell p u) := Below.setCell h hp u
theorem Qw.le {w w' : World} (h : Qw w w') : w.heap.size ≤ w'.heap.size := h.size
theorem Qw.bel {w w' : World} (h : Qw w w') : Below w.heap.size w w' := h
def Ow (w : World) : Prop := 0 < w.heap.size ∧ ∀ j, j < 26 → w.cell? ⟨0, j * 2, none⟩ = some (.string (bs (Sy.onm j))) ∧ w.cell? ⟨0, j * 2 + 1, none⟩ = some (.int .i64 (Sy.kds j : Nat))
theorem Ow.cong {w w' : World} (h : Ow w) (hs : w.heap.size ≤ w'.heap.size) (hb : w'.heap[0]? = w.heap[0]?) : Ow w' :=
  ⟨Nat.lt_of_lt_of_le h.1 hs, fun j hj => by
    have k : ∀ o, w'.cell? ⟨0, o, none⟩ = w.cell? ⟨0, o, none⟩ := fun o => World.cell?_of_block (w := w) hb
    rw [k, k]; exact h.2 j hj⟩
theorem Ow.kept {w w' : World} (h : Ow w) (q : Qw w w') : Ow w' := h.cong q.size (q.block _ h.1)
structure Par (w : World) (P : Nat) (a : Option Addr) (cap : Nat) (ts : List Lx.Tok) (len i : Nat) : Prop where
  bx : Bx w P #[.slice a ts.length cap, .int .i64 (i : Int), .int .i64 (len : Int)] 70
  tk : ToksB P w (.slice a ts.length cap) ts
  ow : Ow w
  og : 0 ≠ P
  le : i ≤ ts.length
  hl : ts.length ≤ 1000000
theorem Par.kept {w w' : World} {P : Nat} {a : Option Addr} {cap : Nat} {ts : List Lx.Tok} {len i : Nat} (h : Par w P a cap ts len i) (q : Qw w w') : Par w' P a cap ts len i :=
  ⟨h.bx.kept q, h.tk.kept q (Nat.le_of_lt h.bx.lt), h.ow.kept q, h.og, h.le, h.hl⟩
theorem Par.set {w : World} {P : Nat} {a : Option Addr} {cap : Nat} {ts : List Lx.Tok} {len i : Nat} (h : Par w P a cap ts len i) (j : Nat) (hj : j ≤ ts.length) : Par (w.setCell ⟨P, 1, none⟩ (.int .i64 (j : Int))) P a cap ts len j :=
  ⟨h.bx.set 1 _, h.tk.kept ((Px.set P w 1 _).below (Nat.le_of_lt h.bx.lt)) (Nat.le_refl _), h.ow.cong (by simp [World.setCell]) (Below.heap_setCell _ _ _ _ h.og), h.og, hj, h.hl⟩
def tokV (ts : List Lx.Tok) (len i : Nat) : Value := .agg #[.int .i64 (Sy.kd ts i), .int .i64 (Sy.tn ts i), .int .i64 (Sy.tp ts len i : Nat), .string (bs (Sy.tx ts i))]
theorem tok_end {ts : List Lx.Tok} {i : Nat} (h : i = ts.length) (len : Nat) : tokV ts len i = .agg #[.int .i64 0, .int .i64 0, .int .i64 (len : Nat), .string ⟨#[]⟩] := by
  unfold tokV Sy.kd Sy.tn Sy.tp Sy.tx
  rw [List.getElem?_eq_none (by omega)]
  rfl
theorem tok_mid {ts : List Lx.Tok} {i : Nat} (h : i < ts.length) (len : Nat) : tokV ts len i = .agg #[.int .i64 ts[i].k, .int .i64 ts[i].n, .int .i64 (ts[i].p : Nat), .string (bs ts[i].x)] := by
  unfold tokV Sy.kd Sy.tn Sy.tp Sy.tx
  rw [List.getElem?_eq_getElem h]
theorem bel_drewN {B : Nat} {a w : World} (h : Below B a w) (n : Nat) : Below B a (w.drewN n) := h.trans ⟨rfl, rfl, rfl, Nat.le_refl _, fun _ _ => rfl⟩
theorem ret_tok {fn : Func} {s : Nat} {a : Act} {w : World} {b : Nat} {v0 v1 v2 v3 : Value} {t : TypeId} (hr : fn.results = #[.cell s 101]) (hs : a.tmps[s]?.getD undef = .pointer (some ⟨b, 0, none⟩)) (X : Bx w b #[v0, v1, v2, v3] t) :
    (results fn a.tmps).run Tryz.prog w = .ok (.agg #[v0, v1, v2, v3]) w := by
  have c0 : w.cell? ⟨b, 0, none⟩ = some v0 := X.cell' 0 _ rfl
  have c1 : w.cell? ⟨b, 1, none⟩ = some v1 := X.cell' 1 _ rfl
  have c2 : w.cell? ⟨b, 2, none⟩ = some v2 := X.cell' 2 _ rfl
  have c3 : w.cell? ⟨b, 3, none⟩ = some v3 := X.cell' 3 _ rfl
  simp [results, hr, hs, go_sem, c0, c1, c2, c3]
theorem ret_ex {fn : Func} {s : Nat} {a : Act} {w : World} {b : Nat} {v0 v1 v2 : Value} {t : TypeId} (hr : fn.results = #[.cell s 27]) (hs : a.tmps[s]?.getD undef = .pointer (some ⟨b, 0, none⟩)) (X : Bx w b #[v0, v1, v2] t) :
    (results fn a.tmps).run Tryz.prog w = .ok (.agg #[v0, v1, v2]) w := by
  have c0 : w.cell? ⟨b, 0, none⟩ = some v0 := X.cell' 0 _ rfl
  have c1 : w.cell? ⟨b, 1, none⟩ = some v1 := X.cell' 1 _ rfl
  have c2 : w.cell? ⟨b, 2, none⟩ = some v2 := X.cell' 2 _ rfl
  simp [results, hr, hs, go_sem, c0, c1, c2]
theorem ret_fail {fn : Func} {s : Nat} {a : Act} {w : World} {b : Nat} {v0 v1 : Value} {t : TypeId} (hr : fn.results = #[.cell s 67]) (hs : a.tmps[s]?.getD undef = .pointer (some ⟨b, 0, none⟩)) (X : Bx w b #[v0, v1] t) :
    (results fn a.tmps).run Tryz.prog w = .ok (.agg #[v0, v1]) w := by
  have c0 : w.cell? ⟨b, 0, none⟩ = some v0 := X.cell' 0 _ rfl
  have c1 : w.cell? ⟨b, 1, none⟩ = some v1 := X.cell' 1 _ rfl
  simp [results, hr, hs, go_sem, c0, c1]
theorem ret_blk {fn : Func} {s : Nat} {a : Act} {w : World} {b : Nat} {v0 v1 v2 v3 v4 v5 v6 v7 v8 v9 v10 : Value} {t : TypeId} (hr : fn.results = #[.cell s 32]) (hs : a.tmps[s]?.getD undef = .pointer (some ⟨b, 0, none⟩)) (X : Bx w b #[v0, v1, v2, v3, v4, v5, v6, v7, v8, v9, v10] t) :
    (results fn a.tmps).run Tryz.prog w = .ok (.agg #[v0, v1, v2, v3, v4, v5, v6, v7, v8, v9, v10]) w := by
  have c0 : w.cell? ⟨b, 0, none⟩ = some v0 := X.cell' 0 _ rfl
  have c1 : w.cell? ⟨b, 1, none⟩ = some v1 := X.cell' 1 _ rfl
  have c2 : w.cell? ⟨b, 2, none⟩ = some v2 := X.cell' 2 _ rfl
  have c3 : w.cell? ⟨b, 3, none⟩ = some v3 := X.cell' 3 _ rfl
  have c4 : w.cell? ⟨b, 4, none⟩ = some v4 := X.cell' 4 _ rfl
  have c5 : w.cell? ⟨b, 5, none⟩ = some v5 := X.cell' 5 _ rfl
  have c6 : w.cell? ⟨b, 6, none⟩ = some v6 := X.cell' 6 _ rfl
  have c7 : w.cell? ⟨b, 7, none⟩ = some v7 := X.cell' 7 _ rfl
  have c8 : w.cell? ⟨b, 8, none⟩ = some v8 := X.cell' 8 _ rfl
  have c9 : w.cell? ⟨b, 9, none⟩ = some v9 := X.cell' 9 _ rfl
  have c10 : w.cell? ⟨b, 10, none⟩ = some v10 := X.cell' 10 _ rfl
  simp [results, hr, hs, go_sem, c0, c1, c2, c3, c4, c5, c6, c7, c8, c9, c10]
set_option maxRecDepth 100000 in
set_option maxHeartbeats 4000000 in
theorem syNext {w : World} {P : Nat} {a : Option Addr} {cap : Nat} {ts : List Lx.Tok} {len i : Nat} (h : Par w P a cap ts len i) :
    Calls Tryz.prog 109 #[.pointer (some ⟨P, 0, none⟩)] w fun e w' => e = .returned (tokV ts len i) ∧ Qw w w' := by
  have c0 : w.cell? ⟨P, 0, none⟩ = some (.slice a ts.length cap) := h.bx.cell' 0 _ rfl
  have c1 : w.cell? ⟨P, 1, none⟩ = some (.int .i64 (i : Int)) := h.bx.cell' 1 _ rfl
  have c2 : w.cell? ⟨P, 2, none⟩ = some (.int .i64 (len : Int)) := h.bx.cell' 2 _ rfl
  have hP := h.bx.lt
  have hl := h.hl
  have hle := h.le
  obtain ⟨a', cap', e, l1, l2, ht⟩ := h.tk
  injection e with e1 e2 e3
  subst e1 e3
  by_cases hi : i = ts.length
  · rw [tok_end hi]
    clear ht hle h
    subst hi
    go_enter Tryz.func109, Tryz.ntmps109
    go_wp2
    go_quiet (fail)
    go_wp2
    exact bodyPost_ret (v := .agg #[.int .i64 0, .int .i64 0, .int .i64 (len : Nat), .string ⟨#[]⟩]) (by simp [results, Tryz.results109, go_sem]) rfl ⟨rfl, (by repeat (first | exact q0.out | exact Qw.refl _ | refine Qw.al ?_ _ | refine Qw.dr ?_ | refine Qw.dn ?_ _ | refine Qw.sc ?_ (by first | (simp; done) | omega | (have := q0.out.size; first | omega | (simp; omega))) _))⟩
  · have hi' : i < ts.length := by omega
    rw [tok_mid hi']
    rcases ht with h0 | ⟨g, off, rfl, hg, hc⟩
    · rw [h0] at hi'; simp at hi'
    obtain ⟨d0, d1, d2, d3⟩ := hc i hi'
    have E : ((i : Int) == (ts.length : Int)) = false := beq_eq_false_iff_ne.2 (by omega)
    have hgP : g ≠ w.heap.size := by omega
    have hi3 : (i : Int) < (ts.length : Int) := by omega
    clear hc hi h
    generalize ts[i].k = t0 at *
    generalize ts[i].n = t1 at *
    generalize ts[i].p = t2 at *
    generalize bs ts[i].x = t3 at *
    go_enter Tryz.func109, Tryz.ntmps109
    go_wp2
    go_quiet (fail)
    go_wp2_with fail
    refine code_of (fun w' => Bx w' w.heap.size #[.int .i64 0, .int .i64 0, .int .i64 0, .string ⟨#[]⟩] 101 ∧ Qw w w') ⟨(Bx.new w _ _), (by repeat (first | exact q0.out | exact Qw.refl _ | refine Qw.al ?_ _ | refine Qw.dr ?_ | refine Qw.dn ?_ _ | refine Qw.sc ?_ (by first | (simp; done) | omega | (have := q0.out.size; first | omega | (simp; omega))) _))⟩ ?_
    rintro w1 ⟨X, q⟩
    have kP : ∀ o, w1.cell? ⟨P, o, none⟩ = w.cell? ⟨P, o, none⟩ := fun o => q.cell (p := ⟨P, o, none⟩) hP
    have kg : ∀ o, w1.cell? ⟨g, o, none⟩ = w.cell? ⟨g, o, none⟩ := fun o => q.cell (p := ⟨g, o, none⟩) (by show g < w.heap.size; omega)
    rw [← kP] at c0 c1 c2
    rw [← kg] at d0 d1 d2 d3
    have x0 := X.cell' 0 _ rfl
    have x1 := X.cell' 1 _ rfl
    have x2 := X.cell' 2 _ rfl
    have x3 := X.cell' 3 _ rfl
    have y0 := X.free 0
    have y1 := X.free 1
    have y2 := X.free 2
    have y3 := X.free 3
    have XX := Lib.hid X
    have q0 := Lib.hid q
    clear kP kg X q
    refine wp_region_still_tail 10 (by kernel_rfl) (by kernel_rfl) ?_
    change wpStill _ _ (World.drew _) _ _ _
    simp only [List.take_succ_cons, List.take_zero, List.drop_succ_cons, List.drop_zero]
    repeat still_step
    refine wpStill_nil ?_
    change wpList _ _ _ _ _ (World.drew _)
    go_wp2
    exact bodyPost_ret (ret_tok Tryz.results109 rfl ((((XX.out.set 0 _).set 1 _).set 2 _).set 3 _)) rfl ⟨rfl, (by repeat (first | exact q0.out | exact Qw.refl _ | refine Qw.al ?_ _ | refine Qw.dr ?_ | refine Qw.dn ?_ _ | refine Qw.sc ?_ (by first | (simp; done) | omega | (have := q0.out.size; first | omega | (simp; omega))) _))⟩
theorem run_field_x (k n p : Int) (x : ByteArray) (w : World) : (Instr.field 101 (.agg #[.int .i64 k, .int .i64 n, .int .i64 p, .string x]) 3).run Tryz.prog w = .ok (.string x) w := by kernel_rfl
theorem run_field_p (k n p : Int) (x : ByteArray) (w : World) : (Instr.field 101 (.agg #[.int .i64 k, .int .i64 n, .int .i64 p, .string x]) 2).run Tryz.prog w = .ok (.int .i64 p) w := by kernel_rfl
def failP (p : Nat) (c : Int) : List PanicEntry := [{ v := .iface 67 (.agg #[.int .i64 (p : Nat), .int .i64 c]), recovered := false }]
set_option maxRecDepth 100000 in
set_option maxHeartbeats 4000000 in
theorem syUnexpected {w : World} {P : Nat} {a : Option Addr} {cap : Nat} {ts : List Lx.Tok} {len i : Nat} (h : Par w P a cap ts len i) :
    Calls Tryz.prog 80 #[.pointer (some ⟨P, 0, none⟩)] w fun e w' => e = .returned (.agg #[.int .i64 (Sy.tp ts len i : Nat), .int .i64 2]) ∧ Qw w w' := by
  have H := Lib.hid h
  clear h
  have hf := run_field_p (Sy.kd ts i) (Sy.tn ts i) (Sy.tp ts len i : Nat) (bs (Sy.tx ts i))
  go_enter Tryz.func80, Tryz.ntmps80
  go_wp2_with (go_at_call 109; ((with_reducible refine (syNext (H.out.kept (by repeat (first | exact q0.out | exact Qw.refl _ | refine Qw.al ?_ _ | refine Qw.dr ?_ | refine Qw.dn ?_ _ | refine Qw.sc ?_ (by first | (simp; done) | omega | (have := q0.out.size; first | omega | (simp; omega))) _)))).mono ?_); rintro e w' ⟨rfl, q⟩; unfold tokV; have X := (Bx.new w #[.int .i64 0, .int .i64 0] 67).kept q; have x0 := X.cell' 0 _ rfl; have x1 := X.cell' 1 _ rfl; have y0 := X.free 0; have y1 := X.free 1; replace X := Lib.hid X; have q0 : Hid (Qw w w') := Lib.hid (Qw.trans (by repeat (first | exact q0.out | exact Qw.refl _ | refine Qw.al ?_ _ | refine Qw.dr ?_ | refine Qw.dn ?_ _ | refine Qw.sc ?_ (by first | (simp; done) | omega | (have := q0.out.size; first | omega | (simp; omega))) _)) q); clear q))
  exact bodyPost_ret (ret_fail Tryz.results80 rfl ((X.out.set 0 _).set 1 _)) rfl ⟨rfl, (by repeat (first | exact q0.out | exact Qw.refl _ | refine Qw.al ?_ _ | refine Qw.dr ?_ | refine Qw.dn ?_ _ | refine Qw.sc ?_ (by first | (simp; done) | omega | (have := q0.out.size; first | omega | (simp; omega))) _))⟩
set_option maxRecDepth 100000 in
set_option maxHeartbeats 4000000 in
theorem syAcceptY {w : World} {P : Nat} {a : Option Addr} {cap : Nat} {ts : List Lx.Tok} {len i : Nat} (h : Par w P a cap ts len i) (x : ByteArray) (hx : x = bs (Sy.tx ts i)) (h0 : Sy.tx ts i ≠ []) :
    Calls Tryz.prog 76 #[.pointer (some ⟨P, 0, none⟩), .string x] w fun e w' => e = .returned (.bool true) ∧ Par w' P a cap ts len (i + 1) ∧ Px P w w' := by
  subst hx
  have hi := Sy.tx_lt (x := Sy.tx ts i) rfl h0
  have hl := h.hl
  have H := Lib.hid h
  clear h
  have hf := run_field_x (Sy.kd ts i) (Sy.tn ts i) (Sy.tp ts len i : Nat) (bs (Sy.tx ts i))
  have hb := beq_txt (bs (Sy.tx ts i)) (bs (Sy.tx ts i))
  rw [decide_eq_true rfl] at hb
  have e1 : ((i + 1 : Nat) : Int) = (i : Int) + 1 := by omega
  replace e1 := Lib.hid e1
  go_enter Tryz.func76, Tryz.ntmps76
  go_wp2_with (go_at_call 109; ((with_reducible refine (syNext (H.out.kept (by repeat (first | exact q0.out | exact Qw.refl _ | refine Qw.al ?_ _ | refine Qw.dr ?_ | refine Qw.dn ?_ _ | refine Qw.sc ?_ (by first | (simp; done) | omega | (have := q0.out.size; first | omega | (simp; omega))) _)))).mono ?_); rintro e w' ⟨rfl, q⟩; unfold tokV; have p1 : w'.cell? ⟨P, 1, none⟩ = some (.int .i64 (i : Int)) := (H.out.kept q).bx.cell' 1 _ rfl; have p2 := (H.out.kept q).bx.free 1; have q0 : Hid (Qw w w') := Lib.hid (Qw.trans (by repeat (first | exact q0.out | exact Qw.refl _ | refine Qw.al ?_ _ | refine Qw.dr ?_ | refine Qw.dn ?_ _ | refine Qw.sc ?_ (by first | (simp; done) | omega | (have := q0.out.size; first | omega | (simp; omega))) _)) q); clear q))
  go_ret
  exact ⟨rfl, by have := (H.out.kept q0.out).set (i + 1) hi; rw [e1.out] at this; exact this, (by repeat (first | exact q0.out | exact Px.of q0.out | exact Px.refl _ _ | refine Px.setP ?_ _ _ | refine Px.alloc ?_ _ | refine Px.drewN ?_ _ | refine Px.drew ?_ | refine Px.setNew ?_ (by first | (simp; done) | omega | (have := q0.out.size; first | omega | (simp; omega))) _))⟩
set_option maxRecDepth 100000 in
set_option maxHeartbeats 4000000 in
theorem syAcceptN {w : World} {P : Nat} {a : Option Addr} {cap : Nat} {ts : List Lx.Tok} {len i : Nat} (h : Par w P a cap ts len i) (x : ByteArray) (hx : x ≠ bs (Sy.tx ts i)) :
    Calls Tryz.prog 76 #[.pointer (some ⟨P, 0, none⟩), .string x] w fun e w' => e = .returned (.bool false) ∧ Qw w w' := by
  have H := Lib.hid h
  clear h
  have hf := run_field_x (Sy.kd ts i) (Sy.tn ts i) (Sy.tp ts len i : Nat) (bs (Sy.tx ts i))
  have hb := beq_txt (bs (Sy.tx ts i)) x
  rw [decide_eq_false (fun h => hx h.symm)] at hb
  go_enter Tryz.func76, Tryz.ntmps76
  go_wp2_with (go_at_call 109; ((with_reducible refine (syNext (H.out.kept (by repeat (first | exact q0.out | exact Qw.refl _ | refine Qw.al ?_ _ | refine Qw.dr ?_ | refine Qw.dn ?_ _ | refine Qw.sc ?_ (by first | (simp; done) | omega | (have := q0.out.size; first | omega | (simp; omega))) _)))).mono ?_); rintro e w' ⟨rfl, q⟩; unfold tokV; have q0 : Hid (Qw w w') := Lib.hid (Qw.trans (by repeat (first | exact q0.out | exact Qw.refl _ | refine Qw.al ?_ _ | refine Qw.dr ?_ | refine Qw.dn ?_ _ | refine Qw.sc ?_ (by first | (simp; done) | omega | (have := q0.out.size; first | omega | (simp; omega))) _)) q); clear q))
  go_ret
  exact ⟨rfl, (by repeat (first | exact q0.out | exact Qw.refl _ | refine Qw.al ?_ _ | refine Qw.dr ?_ | refine Qw.dn ?_ _ | refine Qw.sc ?_ (by first | (simp; done) | omega | (have := q0.out.size; first | omega | (simp; omega))) _))⟩
theorem syAccept {w : World} {P : Nat} {a : Option Addr} {cap : Nat} {ts : List Lx.Tok} {len i : Nat} (h : Par w P a cap ts len i) (x : List UInt8) (X : ByteArray) (hX : X = bs x) (hx : x ≠ []) :
    Calls Tryz.prog 76 #[.pointer (some ⟨P, 0, none⟩), .string X] w fun e w' => e = .returned (.bool (decide (Sy.tx ts i = x))) ∧ Par w' P a cap ts len (if Sy.tx ts i = x then i + 1 else i) ∧ Px P w w' := by
  subst hX
  by_cases e : Sy.tx ts i = x
  · rw [if_pos e, decide_eq_true e]
    exact syAcceptY h (bs x) (by rw [e]) (by rw [e]; exact hx)
  · rw [if_neg e, decide_eq_false e]
    exact (syAcceptN h (bs x) (fun k => e (bs_inj.1 k).symm)).mono fun _ _ ⟨h1, h2⟩ => ⟨h1, h.kept h2, Px.of h2⟩
set_option maxRecDepth 100000 in
set_option maxHeartbeats 4000000 in
theorem syExpectY {w : World} {P : Nat} {a : Option Addr} {cap : Nat} {ts : List Lx.Tok} {len i : Nat} (h : Par w P a cap ts len i) (x : ByteArray) (hx : x = bs (Sy.tx ts i)) (h0 : Sy.tx ts i ≠ []) :
    Calls Tryz.prog 144 #[.pointer (some ⟨P, 0, none⟩), .string x] w fun e w' => e = .returned (.tuple #[]) ∧ Par w' P a cap ts len (i + 1) ∧ Px P w w' := by
  have H := Lib.hid h
  replace h0 := Lib.hid h0
  replace hx := Lib.hid hx
  clear h
  go_enter Tryz.func144, Tryz.ntmps144
  go_wp2_with (go_at_call 76; ((with_reducible refine (syAcceptY (H.out.kept (by repeat (first | exact q0.out | exact Qw.refl _ | refine Qw.al ?_ _ | refine Qw.dr ?_ | refine Qw.dn ?_ _ | refine Qw.sc ?_ (by first | (simp; done) | omega | (have := q0.out.size; first | omega | (simp; omega))) _))) x hx.out h0.out).mono ?_); rintro e w' ⟨rfl, h1, q⟩; replace h1 := Lib.hid h1; have q0 := Lib.hid q; clear q))
  go_end0
  exact ⟨rfl, h1.out, q0.out⟩
set_option maxRecDepth 100000 in
set_option maxHeartbeats 4000000 in
theorem syExpectN {w : World} {P : Nat} {a : Option Addr} {cap : Nat} {ts : List Lx.Tok} {len i : Nat} (h : Par w P a cap ts len i) (x : ByteArray) (hx : x ≠ bs (Sy.tx ts i)) :
    Calls Tryz.prog 144 #[.pointer (some ⟨P, 0, none⟩), .string x] w fun e w' => e = .panicked (failP (Sy.tp ts len i) 2) ∧ Qw w w' := by
  have H := Lib.hid h
  replace hx := Lib.hid hx
  clear h
  have q0 : Hid (Qw w w) := Lib.hid (Qw.refl w)
  go_enter Tryz.func144, Tryz.ntmps144
  go_wp2_with (first | (go_at_call 76; ((with_reducible refine (syAcceptN (H.out.kept (by repeat (first | exact q0.out | exact Qw.refl _ | refine Qw.al ?_ _ | refine Qw.dr ?_ | refine Qw.dn ?_ _ | refine Qw.sc ?_ (by first | (simp; done) | omega | (have := q0.out.size; first | omega | (simp; omega))) _))) x hx.out).mono ?_); rintro e w' ⟨rfl, q⟩; replace q0 : Hid (Qw w w') := Lib.hid (Qw.trans (by repeat (first | exact q0.out | exact Qw.refl _ | refine Qw.al ?_ _ | refine Qw.dr ?_ | refine Qw.dn ?_ _ | refine Qw.sc ?_ (by first | (simp; done) | omega | (have := q0.out.size; first | omega | (simp; omega))) _)) q); clear q)) | (go_at_call 80; ((with_reducible refine (syUnexpected (H.out.kept (by repeat (first | exact q0.out | exact Qw.refl _ | refine Qw.al ?_ _ | refine Qw.dr ?_ | refine Qw.dn ?_ _ | refine Qw.sc ?_ (by first | (simp; done) | omega | (have := q0.out.size; first | omega | (simp; omega))) _)))).mono ?_); rintro e w' ⟨rfl, q⟩; replace q0 : Hid (Qw w w') := Lib.hid (Qw.trans (by repeat (first | exact q0.out | exact Qw.refl _ | refine Qw.al ?_ _ | refine Qw.dr ?_ | refine Qw.dn ?_ _ | refine Qw.sc ?_ (by first | (simp; done) | omega | (have := q0.out.size; first | omega | (simp; omega))) _)) q); clear q)))
  exact ⟨rfl, rfl, q0.out⟩
theorem Qz {w w' : World} (h : Qw w w' := by repeat (first | exact q0.out | exact Qw.refl _ | refine Qw.al ?_ _ | refine Qw.dr ?_ | refine Qw.dn ?_ _ | refine Qw.sc ?_ (by first | (simp; done) | omega | (have := q0.out.size; first | omega | (simp; omega))) _)) : Qw w w' := h
theorem Pz {P : Nat} {w w' : World} (h : Px P w w' := by repeat (first | exact q0.out | exact Px.of q0.out | exact Px.refl _ _ | refine Px.setP ?_ _ _ | refine Px.alloc ?_ _ | refine Px.drewN ?_ _ | refine Px.drew ?_ | refine Px.setNew ?_ (by first | (simp; done) | omega | (have := q0.out.size; first | omega | (simp; omega))) _)) : Px P w w' := h
end Go.Proofs.YtbcbnkapipimmaaGreatDoor
set_option linter.unusedVariables false
set_option linter.unusedSimpArgs false
namespace Go.Proofs.YtbcbnkapipimmaaGreatDoor
open Go.ChangeShapes Go.WideShapes Go.ChangeAt Go.RowKit
theorem i64_of_wf {a : Int} (h : (Lit.int .i64 a).wf = true) : -9223372036854775808 ≤ a ∧ a ≤ 9223372036854775807 := by
  simp [Lit.wf, IntKind.min, IntKind.max, IntKind.signed, IntKind.bits] at h
  omega
theorem ownS : ownKnob Tryz.prog.godebug = none := by kernel_rfl
theorem gNames : Tryz.prog.globalNamed "cnc/lex.names" = some 1 := by kernel_rfl
theorem gNamesType : (Tryz.prog.globals[1]?).map (·.type) = some 134 := by kernel_rfl
theorem gNamesCells : Tryz.prog.cellsOf 134 = 24 := by kernel_rfl
theorem gStrCells : Tryz.prog.cellsOf 9 = 1 := by kernel_rfl
def strData (ls : List (List UInt8)) : DataW Unit := .agg (ls.map fun l => .lit (.string l))
theorem strData_names : (Rows.laid_cnc_lex_names : DataW Unit) = strData Lx.nms := by kernel_rfl
theorem texts_of {w : World} {sp : Nat → Bool} {held : Bool} {enc : TypeId × Value → Unit} {base fuel : Nat} {cs : List Value} {p : List MemPlace}
    (h : DataW.trod enc Tryz.prog w base sp held fuel 134 cs = some (strData Lx.nms, p)) (i : Nat) (hi : i < 24) : cs[i]? = some (.string (nb i)) := by
  cases fuel with
  | zero => simp [DataW.trod] at h
  | succ f =>
    simp only [DataW.trod, Tryz.underlying134, gStrCells, gNamesCells, Nat.mul_one] at h
    split at h
    · obtain ⟨xs, hm, hx⟩ := Option.map_eq_some_iff.1 h
      obtain ⟨y, hy, hf⟩ := Lib.mapM_at hm i i (by simp [hi])
      obtain ⟨s, hc, hs, _⟩ := DataW.trod_string Tryz.underlying9 hf
      have c0 : cs[i]? = some (.string s) := by
        have := congrArg (fun l => l[0]?) hc
        simpa [List.getElem?_take, List.getElem?_drop] using this
      have d0 : xs.map (·.1) = Lx.nms.map fun l => (DataW.lit (.string l) : DataW Unit) := by
        have := congrArg Prod.fst hx
        simpa [strData] using this
      have e0 : (xs.map (·.1))[i]? = some (DataW.lit (.string s.data.toList)) := by rw [List.getElem?_map, hy, hs]; rfl
      rw [d0, List.getElem?_map, List.getElem?_eq_getElem (by rw [Lx.nms_length]; exact hi)] at e0
      simp only [Option.map_some, Option.some.injEq, DataW.lit.injEq, Lit.string.injEq] at e0
      rw [c0]
      unfold nb Lx.nm
      rw [List.getD_eq_getElem?_getD, List.getElem?_eq_getElem (by rw [Lx.nms_length]; exact hi)]
      simp only [Option.getD_some, e0, bs_of]
    · cases h
theorem gPow : Tryz.prog.globalNamed "internal/strconv.uint64pow10" = some 3 := by kernel_rfl
theorem gPowType : (Tryz.prog.globals[3]?).map (·.type) = some 152 := by kernel_rfl
theorem gPowCells : Tryz.prog.cellsOf 152 = 20 := by kernel_rfl
theorem gU64Cells : Tryz.prog.cellsOf 136 = 1 := by kernel_rfl
theorem tabData_pow : (Rows.laid_internal_strconv_uint64pow10 : DataW Unit) = Lib.tabData .u64 Lib.pow10Tab := by kernel_rfl
theorem gOps : Tryz.prog.globalNamed "cnc/syntax.operators" = some 0 := by kernel_rfl
theorem gOpsType : (Tryz.prog.globals[0]?).map (·.type) = some 123 := by kernel_rfl
theorem gOpsCells : Tryz.prog.cellsOf 123 = 52 := by kernel_rfl
theorem gOpCells : Tryz.prog.cellsOf 122 = 2 := by kernel_rfl
theorem gIntCells : Tryz.prog.cellsOf 3 = 1 := by kernel_rfl
def opsData (ls : List (List UInt8 × Int)) : DataW Unit := .agg (ls.map fun l => .agg [.lit (.string l.1), .lit (.int .i64 l.2)])
def opsL : List (List UInt8 × Int) := (List.range 26).map fun j => (Sy.onm j, (Sy.kds j : Int))
theorem opsData_laid : (Rows.laid_cnc_syntax_operators : DataW Unit) = opsData opsL := by kernel_rfl
theorem opsL_get (i : Nat) (h : i < 26) : opsL[i]? = some (Sy.onm i, (Sy.kds i : Int)) := by
  unfold opsL; rw [List.getElem?_map, List.getElem?_range h]; rfl
set_option maxRecDepth 100000 in
theorem ops_of {w : World} {sp : Nat → Bool} {held : Bool} {enc : TypeId × Value → Unit} {base fuel : Nat} {cs : List Value} {p : List MemPlace}
    (h : DataW.trod enc Tryz.prog w base sp held fuel 123 cs = some (opsData opsL, p)) (i : Nat) (hi : i < 26) : cs[i * 2]? = some (.string (bs (Sy.onm i))) ∧ cs[i * 2 + 1]? = some (.int .i64 (Sy.kds i : Nat)) := by
  cases fuel with
  | zero => simp [DataW.trod] at h
  | succ f =>
    simp only [DataW.trod, Tryz.underlying123, gOpCells, gOpsCells] at h
    split at h
    · obtain ⟨xs, hm, hx⟩ := Option.map_eq_some_iff.1 h
      obtain ⟨y, hy, hf⟩ := Lib.mapM_at hm i i (by simp [hi])
      obtain ⟨zs, n, rfl, rfl, hl, hz, hg⟩ := DataW.trod_struct Tryz.underlying122 hf
      have d0 : xs.map (·.1) = opsL.map fun l => (DataW.agg [.lit (.string l.1), .lit (.int .i64 l.2)] : DataW Unit) := by
        have := congrArg Prod.fst hx
        simpa [opsData] using this
      have e0 : (xs.map (·.1))[i]? = some (DataW.agg (zs.map (·.1))) := by rw [List.getElem?_map, hy]; rfl
      rw [d0, List.getElem?_map, opsL_get i hi] at e0
      simp only [Option.map_some, Option.some.injEq, DataW.agg.injEq] at e0
      have g0 := hg 0 _ rfl
      have g1 := hg 1 _ rfl
      match zs, e0, g0, g1 with
      | [z0, z1], e0, g0, g1 =>
        simp only [List.map_cons, List.map_nil, List.cons.injEq, and_true] at e0
        simp only [List.getElem?_cons_zero, List.getElem?_cons_succ, gStrCells, gIntCells] at g0 g1
        obtain ⟨s, hc, hs, _⟩ := DataW.trod_string Tryz.underlying9 g0
        obtain ⟨m, hc1, hs1, _⟩ := DataW.trod_int Tryz.underlying3 g1
        subst hs hs1
        obtain ⟨k0, k1⟩ := e0
        simp only [DataW.lit.injEq, Lit.string.injEq, Lit.int.injEq, true_and] at k0 k1
        have c0 := congrArg (fun l => l[0]?) hc
        have c1 := congrArg (fun l => l[0]?) hc1
        simp [List.getElem?_take, List.getElem?_drop] at c0 c1
        refine ⟨?_, ?_⟩
        · rw [c0.2, k0]; simp only [bs_of]
        · rw [c1.2, ← k1]
    · cases h
def tabsS : List (String × DataW Unit) := [("math/bits.deBruijn32tab", Rows.laid_math_bits_deBruijn32tab), ("math/bits.deBruijn64tab", Rows.laid_math_bits_deBruijn64tab), ("internal/strconv.uint64pow10", Rows.laid_internal_strconv_uint64pow10), ("cnc/lex.names", Rows.laid_cnc_lex_names), ("cnc/syntax.operators", Rows.laid_cnc_syntax_operators)]
theorem laidNames {W : World} {rest : List (String × DataW Unit)} (h1 : laidMet Tryz.prog (("cnc/lex.names", strData Lx.nms) :: rest) W) : Tn W := by
  obtain ⟨ps, ⟨g, t, cs, fuel, p, q, hg, ht, hvar, hd, _, _⟩, _⟩ := h1
  obtain rfl := Option.some.inj (gNames.symm.trans hg)
  obtain rfl := Option.some.inj (gNamesType.symm.trans ht)
  have cells : ∀ j, j < 24 → W.cell? ⟨1, j, none⟩ = some (.string (nb j)) := by
    intro j hj
    have c := World.var?_cell gNames hvar j
    have t := texts_of hd j hj
    rw [c]
    simpa using t
  refine ⟨?_, cells⟩
  have c := cells 0 (by decide)
  rcases Nat.lt_or_ge 1 W.heap.size with h | h
  · exact h
  · simp [World.cell?, Array.getElem?_eq_none h] at c
theorem laidOps {W : World} {rest : List (String × DataW Unit)} (h1 : laidMet Tryz.prog (("cnc/syntax.operators", opsData opsL) :: rest) W) : Ow W := by
  obtain ⟨ps, ⟨g, t, cs, fuel, p, q, hg, ht, hvar, hd, _, _⟩, _⟩ := h1
  obtain rfl := Option.some.inj (gOps.symm.trans hg)
  obtain rfl := Option.some.inj (gOpsType.symm.trans ht)
  have cells : ∀ j, j < 26 → W.cell? ⟨0, j * 2, none⟩ = some (.string (bs (Sy.onm j))) ∧ W.cell? ⟨0, j * 2 + 1, none⟩ = some (.int .i64 (Sy.kds j : Nat)) := by
    intro j hj
    have c0 := World.var?_cell gOps hvar (j * 2)
    have c1 := World.var?_cell gOps hvar (j * 2 + 1)
    obtain ⟨t0, t1⟩ := ops_of hd j hj
    rw [c0, c1]
    exact ⟨by simpa using t0, by simpa using t1⟩
  refine ⟨?_, cells⟩
  have c := (cells 0 (by decide)).1
  rcases Nat.lt_or_ge 0 W.heap.size with h | h
  · exact h
  · simp [World.cell?, Array.getElem?_eq_none h] at c
theorem tableS {W : World} (h : laidMetH Tryz.prog tabsS W) : Tb W ∧ Tn W ∧ Ow W := by
  have h1 : laidMet Tryz.prog tabsS W := h
  unfold tabsS at h1
  rw [strData_names, opsData_laid, tabData_pow] at h1
  have h3 := h1.tail.tail
  exact ⟨Lib.tabBelow_of_tabIs (Lib.tabIs_of_head gPow gPowType Tryz.underlying152 Tryz.underlying136 gU64Cells gPowCells h3), laidNames h3.tail, laidOps h3.tail.tail⟩
def cellsLit : DataW Unit → Value
  | .lit (.string b) => .string ⟨b.toArray⟩
  | .lit (.int k n) => .int k n
  | _ => .bool false
def cellsS : DataW Unit → Array Value
  | .agg l => (l.flatMap fun x => match x with
    | .agg m => m.map cellsLit
    | y => [cellsLit y]).toArray
  | _ => #[]
noncomputable def laidWorldS (os : Os) : World :=
  let h0 := (World.holding Tryz.prog os ⟨#[], #[], []⟩).heap
  let put (x : DataW Unit) (o : Obj) : Obj := match o with
    | .cells _ t frozen => .cells (cellsS x) t frozen
    | o => o
  let h1 := h0.modify 4 (put Rows.laid_math_bits_deBruijn32tab)
  let h2 := h1.modify 5 (put Rows.laid_math_bits_deBruijn64tab)
  let h3 := h2.modify 3 (put Rows.laid_internal_strconv_uint64pow10)
  let h4 := h3.modify 1 (put Rows.laid_cnc_lex_names)
  let h5 := h4.modify 0 (put Rows.laid_cnc_syntax_operators)
  { World.holding Tryz.prog os ⟨#[], #[], []⟩ with heap := h5 }
theorem laid_metS (os : Os) (args : Array Value) : laidMet Tryz.prog tabsS ((laidWorldS os).forCall (fun _ _ => 0) ⟨#[], args, []⟩).memory :=
  laidMet_of_run' 8 (by kernel_rfl) (by kernel_rfl)
theorem laidOutS : laidOutB Tryz.prog = true := by kernel_rfl
set_option maxRecDepth 100000 in
theorem in_ints {H : Type} {enc : TypeId × Value → H} {W : World} {base : Nat} {v : Value} {d : DataW H} {p : List MemPlace} (hval : Value.okWide Tryz.prog W .any base 23 v)
    (h : DataW.Trod enc Tryz.prog W 0 (fun _ => true) true 23 v d p) : ∃ zs, IntsB W.heap.size W v zs := by
  obtain ⟨a0, len, cap, rfl⟩ := okWide_slice Tryz.underlying23 hval
  obtain ⟨fuel, hf⟩ := h
  rcases open_ints Tryz.underlying23 Tryz.underlying3 gIntCells hf with ⟨hcs, hx⟩ | ⟨a, len', cap', zs, hcs, _, hl, hm, hz, hx, hcell, hwz⟩
  · simp [Value.cells] at hcs
    obtain ⟨rfl, rfl, rfl⟩ := hcs
    refine ⟨[], none, 0, by simp, by simp, by simp, .inl rfl⟩
  · simp [Value.cells] at hcs
    obtain ⟨rfl, rfl, rfl⟩ := hcs
    simp only [if_true] at hz
    have lt : (zs.take len).length = len := by rw [List.length_take]; omega
    refine ⟨zs.take len, some a, cap, by rw [lt], by omega, by unfold maxLen at hm; omega, ?_⟩
    by_cases h0 : len = 0
    · left; subst h0; rfl
    · right
      obtain ⟨b, off, spot⟩ := a
      have hspot : spot = none := by simpa [Addr.add] using World.cell?_spot (hcell 0 (by omega))
      subst hspot
      have hb : b < W.heap.size := by
        have c := hcell 0 (by omega)
        rcases Nat.lt_or_ge b W.heap.size with h | h
        · exact h
        · simp [World.cell?, Addr.add, Array.getElem?_eq_none h] at c
      refine ⟨b, off, rfl, hb, fun i hi => ?_⟩
      rw [lt] at hi
      have g : (zs.take len).getD i 0 = zs.getD i 0 := by rw [List.getD_eq_getElem?_getD, List.getD_eq_getElem?_getD, List.getElem?_take_of_lt hi]
      have w := i64_of_wf (hwz (zs.getD i 0) (by rw [List.getD_eq_getElem?_getD, List.getElem?_eq_getElem (by omega)]; exact List.getElem_mem _))
      rw [g]
      exact ⟨by rw [← add_plain]; exact hcell i (by omega), w⟩
theorem out_ints {H : Type} {enc : TypeId × Value → H} {W W' : World} {v : Value} {d : DataW H} {p : List MemPlace} (h : DataW.Trod enc Tryz.prog W 0 (fun _ => true) true 23 v d p) (bel : Below W.heap.size W W')
    (hlt : ∀ x ∈ p, x.block < W.heap.size) : DataW.Trod enc Tryz.prog W' 0 (fun b => decide (b < W.heap.size)) true 23 v d p :=
  Below.trod laidOutS (by kernel_rfl) (of_decide_eq_true (by kernel_rfl)) h bel hlt
end Go.Proofs.YtbcbnkapipimmaaGreatDoor

