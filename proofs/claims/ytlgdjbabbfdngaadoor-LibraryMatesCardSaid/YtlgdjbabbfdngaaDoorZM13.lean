import Derived.Test.YtlgdjbabbfdngaaDoorZM1
import Derived.Test.YtlgdjbabbfdngaaDoorZM2
import Derived.Test.YtlgdjbabbfdngaaDoorZM8
import Derived.Test.YtlgdjbabbfdngaaDoorZM11
import Derived.Test.YtlgdjbabbfdngaaDoorZM12
import Derived.Deep.Cut
import Derived.IntWalk
import Derived.Deep.RegionLaw
set_option linter.unusedVariables false
set_option linter.unusedSimpArgs false
namespace Go.Proofs.YtlgdjbabbfdngaaDoor
namespace Sy
structure Fwn (b : Bl) : Prop where
  v : vldb b = true
  dl : dpt b.left ≤ 4
  dx : dpt b.x ≤ 4
  wl : b.words.length ≤ 4
  dw : ∀ w ∈ b.words, dpt w.2 ≤ 2
theorem lab_any {lab : Int} (h : 0 ≤ lab ∧ lab ≤ 99999) : (decide (lab = 0) || cnt lab 99999) = true := by
  simp [cnt]; omega
theorem vld_parts {b : Bl} (h : vldb b = true) : okb b = true ∧ limb b = true := by
  unfold vldb at h; simpa using h
theorem okb_lab {b : Bl} (h : okb b = true) (lab : Int) (hl : 0 ≤ lab ∧ lab ≤ 99999) : okb { b with label := lab } = true := by
  unfold okb at h ⊢
  simp only [Bool.and_eq_true] at h ⊢
  exact ⟨lab_any hl, h.2⟩
theorem vldb_lab {b : Bl} (h : vldb b = true) (lab : Int) (hl : 0 ≤ lab ∧ lab ≤ 99999) : vldb { b with label := lab } = true := by
  obtain ⟨h1, h2⟩ := vld_parts h
  unfold vldb
  rw [okb_lab h1 lab hl, Bool.true_and]
  exact h2
theorem Dwn.lab {b : Bl} (h : Dwn b) (lab : Int) (hl : 0 ≤ lab ∧ lab ≤ 99999) : Fwn { b with label := lab } := ⟨vldb_lab h.v lab hl, h.dl, h.dx, by have := h.wl; show b.words.length ≤ 4; omega, h.dw⟩
theorem Fwn.loop {b : Bl} (h : Fwn b) (hk : b.kind = 4 ∨ b.kind = 5) {n : Int} (n1 : 1 ≤ n) (n3 : n ≤ 3) : Fwn { b with n := n } := by
  obtain ⟨h1, h2⟩ := vld_parts h.v
  refine ⟨?_, h.dl, h.dx, h.wl, h.dw⟩
  unfold vldb
  have : okb { b with n := n } = true := by
    unfold okb at h1 ⊢
    simp only [Bool.and_eq_true] at h1 ⊢
    refine ⟨h1.1, ?_⟩
    have h3 := h1.2
    have c : cnt n 3 = true := by simp [cnt]; omega
    rcases hk with hk | hk
    · simp only [hk] at h3 ⊢
      simp at h3 ⊢
      exact ⟨h3.1, h3.2.1, c⟩
    · simp only [hk] at h3 ⊢
      simp at h3 ⊢
      exact ⟨h3.1, h3.2.1, c⟩
  rw [this]
  exact h2
theorem num_of {x : Ex} (h : okx x = true) (h0 : x.op = 0) : ∃ n, x = num n := by
  have f := form h
  cases f with
  | num n _ _ => exact ⟨n, rfl⟩
  | un o x _ ho => exact absurd h0 (by show ((o : Nat) : Int) ≠ 0; omega)
  | bin o x y _ _ ho => exact absurd h0 (by show ((o : Nat) : Int) ≠ 0; omega)
theorem Fwn.goto_ {b : Bl} (h : Fwn b) (hk : b.kind = 2) {m : Int} (m0 : 0 ≤ m) (m1 : m < 1000000000000000) : Fwn { b with x := num m } := by
  obtain ⟨h1, h2⟩ := vld_parts h.v
  have o := okx_num' m0 m1
  refine ⟨?_, h.dl, by show dpt (num m) ≤ 4; rw [dpt_num]; decide, h.wl, h.dw⟩
  unfold vldb
  have e1 : okb { b with x := num m } = true := by
    unfold okb at h1 ⊢
    simp only [Bool.and_eq_true] at h1 ⊢
    refine ⟨h1.1, ?_⟩
    have h3 := h1.2
    simp only [hk] at h3 ⊢
    simp at h3 ⊢
    exact ⟨h3.1, ⟨h3.2.1.1, o⟩, h3.2.2⟩
  have e2 : limb { b with x := num m } = true := by
    unfold limb at h2 ⊢
    simp only [Bool.and_eq_true] at h2 ⊢
    exact ⟨h2.1, by unfold depB; rw [dpt_num]; rfl⟩
  rw [e1, e2]; rfl
theorem Fwn.if_ {b : Bl} (h : Fwn b) (hk : b.kind = 3) {m : Int} (m0 : 0 ≤ m) (m1 : m < 1000000000000000) : Fwn { b with left := num m } := by
  obtain ⟨h1, h2⟩ := vld_parts h.v
  have o := okx_num' m0 m1
  refine ⟨?_, by show dpt (num m) ≤ 4; rw [dpt_num]; decide, h.dx, h.wl, h.dw⟩
  unfold vldb
  have e1 : okb { b with left := num m } = true := by
    unfold okb at h1 ⊢
    simp only [Bool.and_eq_true] at h1 ⊢
    refine ⟨h1.1, ?_⟩
    have h3 := h1.2
    simp only [hk] at h3 ⊢
    simp at h3 ⊢
    exact ⟨h3.1, ⟨o, h3.2.1.2⟩, h3.2.2⟩
  have e2 : limb { b with left := num m } = true := by
    unfold limb at h2 ⊢
    simp only [Bool.and_eq_true] at h2 ⊢
    exact ⟨⟨h2.1.1, by unfold depB; rw [dpt_num]; rfl⟩, h2.2⟩
  rw [e1, e2]; rfl
theorem Fwn.words_ {b : Bl} (h : Fwn b) (hk : b.kind = 0) {ws : List (Int × Ex)} (hl : ws.length ≤ 4) (hw : ∀ w ∈ ws, isw w.1 = true ∧ okx w.2 = true ∧ dpt w.2 ≤ 2) : Fwn { b with words := ws } := by
  obtain ⟨h1, h2⟩ := vld_parts h.v
  refine ⟨?_, h.dl, h.dx, hl, fun w hm => (hw w hm).2.2⟩
  unfold vldb
  have e1 : okb { b with words := ws } = true := by
    unfold okb at h1 ⊢
    simp only [Bool.and_eq_true] at h1 ⊢
    refine ⟨h1.1, ?_⟩
    have h3 := h1.2
    simp only [hk] at h3 ⊢
    simp at h3 ⊢
    exact ⟨⟨⟨fun c x hm => ⟨(hw _ hm).1, (hw _ hm).2.1⟩, h3.1.1.2⟩, h3.1.2⟩, h3.2⟩
  have e2 : limb { b with words := ws } = true := by
    unfold limb at h2 ⊢
    simp only [Bool.and_eq_true, List.all_eq_true] at h2 ⊢
    refine ⟨⟨⟨by simp; omega, fun w hm => ?_⟩, h2.1.2⟩, h2.2⟩
    unfold depB
    have := (hw w hm).2.2
    exact decide_eq_true (by omega)
  rw [e1, e2]; rfl
theorem fwn_zero : Fwn ⟨0, 0, false, [], zx, zx, 0⟩ := ⟨by
  unfold vldb okb limb
  simp [cnt, noneB_zx, dpt_zx], by rw [show dpt zx = 1 from dpt_zx']; decide, by rw [show dpt zx = 1 from dpt_zx']; decide, by simp, by simp⟩
theorem fwn_end {n : Int} (n1 : 1 ≤ n) (n3 : n ≤ 3) : Fwn ⟨5, 0, false, [], zx, zx, n⟩ := ⟨by
  unfold vldb okb limb
  have : cnt n 3 = true := by simp [cnt]; omega
  simp [this, noneB_zx, dpt_zx], by rw [show dpt zx = 1 from dpt_zx']; decide, by rw [show dpt zx = 1 from dpt_zx']; decide, by simp, by simp⟩
theorem fwn_prog {n : Int} (n1 : 1 ≤ n) (n3 : n ≤ 99999) : Fwn ⟨6, 0, false, [], zx, zx, n⟩ := ⟨by
  unfold vldb okb limb
  have : cnt n 99999 = true := by simp [cnt]; omega
  simp [this, noneB_zx, dpt_zx], by rw [show dpt zx = 1 from dpt_zx']; decide, by rw [show dpt zx = 1 from dpt_zx']; decide, by simp, by simp⟩
end Sy
end Go.Proofs.YtlgdjbabbfdngaaDoor
set_option linter.unusedVariables false
set_option linter.unusedSimpArgs false
namespace Go.Proofs.YtlgdjbabbfdngaaDoor
open Go.RowKit
structure LibX (w : World) (S : Nat → Prop) (B : Nat) (ba : Option Addr) (bc : Nat) (pa : Option Addr) (pc : Nat) (ma : Option Addr) (mc : Nat) (bs : List Sy.Bl) (s : Lb.St) : Prop where
  b : BlksB w S ba bc bs
  p : OwnG B w 76 3 (.slice pa s.pg.length pc) (s.pg.map pcell)
  m : OwnG B w 3 1 (.slice ma s.mate.length mc) (s.mate.map icell)
theorem LibX.kept {w w' : World} {S : Nat → Prop} {B : Nat} {ba pa ma : Option Addr} {bc pc mc : Nat} {bs : List Sy.Bl} {s : Lb.St} (h : LibX w S B ba bc pa pc ma mc bs s) (q : Qw w w') : LibX w' S B ba bc pa pc ma mc bs s := ⟨h.b.kept q, h.p.go fun g _ hl => q.block g hl, h.m.go fun g _ hl => q.block g hl⟩
def BdY (w : World) (bs : List Sy.Bl) (s : Lb.St) (e : Ending) (w' : World) : Prop := ∃ ba bc pa pc ma mc, e = .returned (.tuple #[.agg #[.slice ba bs.length bc, .slice pa s.pg.length pc, .slice ma s.mate.length mc], .int .i64 (bs.length : Nat), .int .i64 0]) ∧ LibX w' (fun b => w.heap.size ≤ b) w.heap.size ba bc pa pc ma mc bs s ∧ Qw w w'
def BdN (w : World) (j : Nat) (er : Int) (e : Ending) (w' : World) : Prop := e = .returned (.tuple #[.agg #[.slice none 0 0, .slice none 0 0, .slice none 0 0], .int .i64 (j : Nat), .int .i64 er]) ∧ Qw w w'
theorem build_ok {bs : List Sy.Bl} {s : Lb.St} (hb : Lb.build bs = .ok s) (a : Option Addr) (cap : Nat) (S : Nat → Prop) (w : World) (hO : Ow w) (h : BlksB w S a cap bs) : Calls Tryd.prog 17 #[.slice a bs.length cap] w (BdY w bs s) := (lb_build bs a cap S w hO h).mono (by
  rintro e w' ⟨h1, q⟩
  rw [hb] at h1
  obtain ⟨v, rfl, ba, bc, pv, mv, rfl, k1, k2, k3⟩ := h1
  obtain ⟨pa, pc, rfl, _⟩ := k2.form
  obtain ⟨ma, mc, rfl, _⟩ := k3.form
  rw [List.length_map] at k2 k3
  refine ⟨ba, bc, pa, pc, ma, mc, ?_, ⟨k1, k2, k3⟩, q⟩
  simp only [List.length_map])
theorem build_bad {bs : List Sy.Bl} {j : Nat} {er : Int} (hb : Lb.build bs = .bad j er) (a : Option Addr) (cap : Nat) (S : Nat → Prop) (w : World) (hO : Ow w) (h : BlksB w S a cap bs) : Calls Tryd.prog 17 #[.slice a bs.length cap] w (BdN w j er) := (lb_build bs a cap S w hO h).mono (by
  rintro e w' ⟨h1, q⟩
  rw [hb] at h1
  exact ⟨h1, q⟩)
def plB (k n : Int) (x : Sy.Ex) : Bi := ⟨⟨k, 0, false, [], Sy.zx, x, n⟩, none, 0, none, 0, none, 0⟩
theorem lit_blocks {w : World} {g : Nat} {ds : List Bi} {cs : Array Value} {t : TypeId} {cap : Nat} (X : Bx w g cs t) (hc : ∀ i (h : i < ds.length) j u, (bicell ds[i])[j]? = some u → cs[i * 11 + j]? = some u) (h0 : ∀ d ∈ ds, d.b.words = [] ∧ d.b.left.ks = [] ∧ d.b.x.ks = [] ∧ d.wa = none ∧ d.wc = 0 ∧ d.la = none ∧ d.lc = 0 ∧ d.xa = none ∧ d.xc = 0) (hcap : ds.length ≤ cap) (hcl : cap ≤ 9223372036854775807) : BlksB w (fun b => b < w.heap.size) (some ⟨g, 0, none⟩) cap (ds.map Bi.b) := by
  refine ⟨by rw [List.length_map]; exact hcap, hcl, .inr ⟨g, 0, fun i => ds.getD i default, rfl, X.lt, fun i hi => ?_⟩⟩
  have hi' : i < ds.length := by simpa using hi
  have e1 : ds.getD i default = ds[i] := by rw [List.getD_eq_getElem?_getD, List.getElem?_eq_getElem hi']; rfl
  dsimp only
  rw [e1, Nat.zero_add]
  obtain ⟨a1, a2, a3, a4, a5, a6, a7, a8, a9⟩ := h0 _ (List.getElem_mem hi')
  refine ⟨by simp, ⟨?_, ?_, ?_⟩, fun j u hj => X.cell' _ u (hc i hi' j u hj)⟩
  · rw [a1, a4, a5]; exact WordsB.nil _ _
  · rw [a2, a6, a7]; exact KidsB.nl none 0 (by decide)
  · rw [a3, a8, a9]; exact KidsB.nl none 0 (by decide)
theorem build_nil : Lb.build [] = .ok Lb.st0 := by
  unfold Lb.build
  rw [if_neg (by simp)]
  rfl
theorem build_end : Lb.build [(plB 5 1 Sy.zx).b] = .bad 0 11 := by
  unfold Lb.build
  rw [if_neg (by simp), Lb.inv_none (by intro b hb; rw [List.mem_singleton.1 hb]; exact (Sy.fwn_end (n := 1) (by decide) (by decide)).v)]
  rfl
theorem end_call (w : World) (hO : Ow w) (g : Nat) {t : TypeId} (X : Bx w g #[.int .i64 5, .int .i64 0, .bool false, .slice none 0 0, .int .i64 0, .int .i64 0, .slice none 0 0, .int .i64 0, .int .i64 0, .slice none 0 0, .int .i64 1] t) : Calls Tryd.prog 17 #[.slice (some ⟨g, 0, none⟩) 1 1] w (BdN w 0 11) :=
  build_bad build_end (some ⟨g, 0, none⟩) 1 _ w hO (lit_blocks (ds := [plB 5 1 Sy.zx]) X (by
    intro i hi j u hj
    obtain rfl : i = 0 := by simpa using hi
    rw [Nat.zero_mul, Nat.zero_add]
    show (bicell (plB 5 1 Sy.zx)).toArray[j]? = some u
    rw [List.getElem?_toArray]
    exact hj) (by intro d hd; rw [List.mem_singleton.1 hd]; exact ⟨rfl, rfl, rfl, rfl, rfl, rfl, rfl, rfl, rfl⟩) (by decide) (by decide))
def NilR (w : World) (e : Ending) (w' : World) : Prop := ∃ ba bc pa pc ma mc, e = .returned (.tuple #[.agg #[.slice ba 0 bc, .slice pa 1 pc, .slice ma 0 mc], .int .i64 0, .int .i64 0]) ∧ Qw w w'
theorem nil_call (w : World) (hO : Ow w) : Calls Tryd.prog 17 #[.slice none 0 0] w (NilR w) := (build_ok build_nil none 0 (fun _ => True) w hO (BlksB.nil _ _)).mono (by
  intro e w' h
  obtain ⟨ba, bc, pa, pc, ma, mc, rfl, _, q⟩ := h
  exact ⟨ba, bc, pa, pc, ma, mc, rfl, q⟩)
set_option maxRecDepth 100000 in
set_option maxHeartbeats 4000000 in
theorem awake9 (w : World) (hO : Ow w) : Calls Tryd.prog 11 #[] w fun e w' => e = .returned (.bool true) ∧ Qw w w' := by
  have C1 := Lib.hid (nil_call w hO)
  have C2 := Lib.hid (fun w2 (q : Qw w w2) g t X => end_call w2 (hO.kept q) g (t := t) X)
  clear hO
  go_enter Tryd.func11, Tryd.ntmps11
  go_wp2_with (go_at_call 17; refine C1.out.mono ?_)
  intro e w1 h1
  obtain ⟨ba, bc, pa, pc, ma, mc, rfl, q1⟩ := h1
  have Q1 := Lib.hid q1
  clear q1
  have sz : ∀ o : Obj, (w1.alloc o).heap.size = w1.heap.size + 1 := fun o => by simp
  have XE := Bx.new (w1.alloc (.cells #[.slice ba 0 bc, .slice pa 1 pc, .slice ma 0 mc] 41)) #[.int .i64 5, .int .i64 0, .bool false, .slice none 0 0, .int .i64 0, .int .i64 0, .slice none 0 0, .int .i64 0, .int .i64 0, .slice none 0 0, .int .i64 1] 37
  rw [sz] at XE
  have C3 := Lib.hid (C2.out _ (Qw.al (Qw.al Q1.out _) _) _ _ XE)
  clear XE sz
  go_wp2_with (go_at_call 17; refine C3.out.mono ?_)
  intro e w2 h2
  obtain ⟨rfl, q2⟩ := h2
  have X1 := ((Bx.new w1 #[.slice ba 0 bc, .slice pa 1 pc, .slice ma 0 mc] 41).alloc (.cells #[.int .i64 5, .int .i64 0, .bool false, .slice none 0 0, .int .i64 0, .int .i64 0, .slice none 0 0, .int .i64 0, .int .i64 0, .slice none 0 0, .int .i64 1] 37)).kept q2
  have x1 := X1.cell' 1 (.slice pa 1 pc) rfl
  have hl := X1.lt
  have hn : w1.heap.size ≠ w2.heap.size := by omega
  have QF : Hid (Qw w w2) := Lib.hid (Qw.trans (Qw.al (Qw.al Q1.out _) _) q2)
  clear X1 C1 C2 q2
  go_wp2
  go_ret
  exact ⟨rfl, (by repeat (first | exact QF.out | refine Qw.al ?_ _))⟩
end Go.Proofs.YtlgdjbabbfdngaaDoor
set_option linter.unusedVariables false
set_option linter.unusedSimpArgs false
namespace Go.Proofs.YtlgdjbabbfdngaaDoor
open Go.RowKit
namespace Lb
end Lb
theorem LibX.prog {w : World} {S : Nat → Prop} {B : Nat} {ba pa ma : Option Addr} {bc pc mc : Nat} {bs : List Sy.Bl} {s : Lb.St} (h : LibX w S B ba bc pa pc ma mc bs s) {k : Nat} (hk : k < s.pg.length) : ∃ g, pa = some ⟨g, 0, none⟩ ∧ g < w.heap.size ∧ w.cell? ⟨g, k * 3, none⟩ = some (.int .i64 s.pg[k].num) ∧ w.cell? ⟨g, k * 3 + 1, none⟩ = some (.int .i64 (s.pg[k].first : Nat)) ∧ w.cell? ⟨g, k * 3 + 2, none⟩ = some (.int .i64 (s.pg[k].fin : Nat)) := by
  obtain ⟨a, cap, e, _, _, kg⟩ := h.p.form
  obtain ⟨g, rfl, _, g2⟩ := kg (by intro e; have := congrArg List.length e; simp at this; rw [this] at hk; simp at hk)
  obtain ⟨rfl, _⟩ : pa = some ⟨g, 0, none⟩ ∧ True := by simp at e; exact ⟨e.1, trivial⟩
  have c := fun j u hj => h.p.at (g := g) rfl (i := k) (by simpa using hk) (j := j) (u := u) hj
  exact ⟨g, rfl, g2, c 0 _ (by rw [List.getElem_map]; rfl), c 1 _ (by rw [List.getElem_map]; rfl), c 2 _ (by rw [List.getElem_map]; rfl)⟩
section
variable {w : World} {S : Nat → Prop} {B : Nat} {ba pa ma : Option Addr} {bc pc mc : Nat} {bs : List Sy.Bl} {s : Lb.St}
end
end Go.Proofs.YtlgdjbabbfdngaaDoor
set_option linter.unusedVariables false
set_option linter.unusedSimpArgs false
namespace Go.Proofs.YtlgdjbabbfdngaaDoor
open Go.RowKit
def TpB (w : World) (B : Nat) (v : Value) (zs : List Int) : Prop := ∃ k, TapeAt w B v zs k
theorem TpB.lt {w : World} {B : Nat} {v : Value} {zs : List Int} (h : TpB w B v zs) : B < w.heap.size := by
  obtain ⟨k, h⟩ := h; exact lt_of_block h.1
theorem TpB.kept {w w' : World} {B : Nat} {v : Value} {zs : List Int} (h : TpB w B v zs) (q : Qw w w') : TpB w' B v zs := by
  obtain ⟨k, h⟩ := h; exact ⟨k, h.kept q⟩
theorem TpB.other {w : World} {B : Nat} {v : Value} {zs : List Int} (h : TpB w B v zs) {b : Nat} (hb : B < b) (o : Nat) (u : Value) : TpB (w.setCell ⟨b, o, none⟩ u) B v zs := by
  obtain ⟨k, h1, h2, h3⟩ := h
  exact ⟨k, (Below.heap_setCell _ _ _ _ (by show B ≠ b; omega)).trans h1, h2.kept (C := b) ((Below.refl b w).setCell (p := ⟨b, o, none⟩) (Nat.le_refl _) u) (by omega), h3⟩
theorem px_grown {B : Nat} {w w' : World} (h : w.grownBy w' (some B)) : Px B w w' := ⟨h.os, h.tape, h.output, h.size, fun k hk hB => h.block k hk (by simp; omega)⟩
theorem nextA {B : Nat} {v : Value} {zs : List Int} (n : Int) (n1 : 1 ≤ n) (n2 : n ≤ 9223372036854775807) (w : World) (h : TpB w B v zs) :
    Calls Tryd.prog 29 #[.pointer (some ⟨B, 0, none⟩), .int .i64 n] w fun e w' => ∃ r, e = .returned (.int .i64 r) ∧ 0 ≤ r ∧ r < n ∧ TpB w' B v zs ∧ Px B w w' := by
  obtain ⟨k, h⟩ := h
  refine (nextG B v zs k n n1 n2 w h).mono ?_
  rintro e w' ⟨rfl, t, g⟩
  obtain ⟨b0, b1⟩ := nxt_bd zs k n n1
  exact ⟨_, rfl, b0, b1, ⟨_, t⟩, px_grown g⟩
set_option maxRecDepth 100000 in
set_option maxHeartbeats 4000000 in
theorem rangeA {B : Nat} {v : Value} {zs : List Int} (lo hi : Int) (l0 : 0 ≤ lo) (l1 : lo ≤ hi) (l2 : hi ≤ 1000000) (w : World) (h : TpB w B v zs) :
    Calls Tryd.prog 33 #[.pointer (some ⟨B, 0, none⟩), .int .i64 lo, .int .i64 hi] w fun e w' => ∃ r, e = .returned (.int .i64 r) ∧ lo ≤ r ∧ r ≤ hi ∧ TpB w' B v zs ∧ Px B w w' := by
  have C1 := Lib.hid (nextA (hi - lo + 1) (by omega) (by omega) w h)
  clear h
  go_enter Tryd.func33, Tryd.ntmps33
  go_wp2_with (go_at_call 29; ((with_reducible refine C1.out.mono ?_); rintro e w' ⟨r, rfl, r0, r1, tp, q⟩; have TP := Lib.hid tp; have Q1 := Lib.hid q; clear tp q))
  go_ret
  exact ⟨_, rfl, by omega, by omega, TP.out, Q1.out⟩
set_option maxRecDepth 100000 in
set_option maxHeartbeats 4000000 in
theorem numberA {B : Nat} {v : Value} {zs : List Int} (w : World) (h : TpB w B v zs) :
    Calls Tryd.prog 48 #[.pointer (some ⟨B, 0, none⟩)] w fun e w' => ∃ r, e = .returned (.int .i64 r) ∧ 0 ≤ r ∧ r < 1000000000000000 ∧ TpB w' B v zs ∧ Px B w w' := by
  have c := fun n n1 n2 w h => nextA (B := B) (v := v) (zs := zs) n n1 n2 w h
  have TP := Lib.hid h
  have C := Lib.hid c
  clear h c
  have q0 : Hid (Px B w w) := Lib.hid (Px.refl B w)
  go_enter Tryd.func48, Tryd.ntmps48
  go_wp2_with (go_at_call 29; ((with_reducible refine (C.out _ (by decide) (by decide) _ TP.out).mono ?_); rintro e w' ⟨r, rfl, r0, r1, tp, q⟩; replace TP := Lib.hid tp; replace q0 : Hid (Px B w w') := Lib.hid (Px.trans q0.out q); clear tp q))
  all_goals go_ret
  all_goals exact ⟨_, rfl, by omega, by omega, TP.out, q0.out⟩
set_option maxRecDepth 100000 in
set_option maxHeartbeats 4000000 in
theorem variableA {B : Nat} {v : Value} {zs : List Int} (w : World) (h : TpB w B v zs) :
    Calls Tryd.prog 45 #[.pointer (some ⟨B, 0, none⟩)] w fun e w' => ∃ r, e = .returned (.int .i64 r) ∧ 0 ≤ r ∧ r ≤ 10000 ∧ TpB w' B v zs ∧ Px B w w' := by
  have c := fun n n1 n2 w h => nextA (B := B) (v := v) (zs := zs) n n1 n2 w h
  have d := fun lo hi l0 l1 l2 w h => rangeA (B := B) (v := v) (zs := zs) lo hi l0 l1 l2 w h
  have TP := Lib.hid h
  have C := Lib.hid c
  have D := Lib.hid d
  clear h c d
  have q0 : Hid (Px B w w) := Lib.hid (Px.refl B w)
  go_enter Tryd.func45, Tryd.ntmps45
  go_wp2_with (first
    | (go_at_call 29; ((with_reducible refine (C.out _ (by decide) (by decide) _ TP.out).mono ?_); rintro e w' ⟨r, rfl, r0, r1, tp, q⟩; replace TP := Lib.hid tp; replace q0 : Hid (Px B w w') := Lib.hid (Px.trans q0.out q); clear tp q))
    | (go_at_call 33; ((with_reducible refine (D.out _ _ (by decide) (by decide) (by decide) _ TP.out).mono ?_); rintro e w' ⟨r, rfl, r0, r1, tp, q⟩; replace TP := Lib.hid tp; replace q0 : Hid (Px B w w') := Lib.hid (Px.trans q0.out q); clear tp q)))
  all_goals go_ret
  all_goals exact ⟨_, rfl, by omega, by omega, TP.out, q0.out⟩
end Go.Proofs.YtlgdjbabbfdngaaDoor
set_option linter.unusedVariables false
set_option linter.unusedSimpArgs false
namespace Go.Proofs.YtlgdjbabbfdngaaDoor
open Go.RowKit
def ExA (B : Nat) (v : Value) (zs : List Int) (d : Nat) (w : World) (e : Ending) (w' : World) : Prop :=
  ∃ (x : Sy.Ex) (ka : Option Addr) (kc : Nat), e = .returned (.agg #[.int .i64 x.op, .int .i64 x.n, .slice ka x.ks.length kc]) ∧ Sy.okx x = true ∧ Sy.dpt x ≤ d ∧ KidsB w' (fun b => w.heap.size ≤ b) ka kc x.ks ∧ TpB w' B v zs ∧ Px B w w'
theorem exaEnd {B : Nat} {v : Value} {zs : List Int} {d : Nat} {w w' : World} {fn : Func} {s : Nat} {act : Act} (hr : fn.results = #[.cell s 35]) (hs : act.tmps[s]?.getD undef = .pointer (some ⟨w.heap.size, 0, none⟩)) (hd : act.defers = [])
    {x : Sy.Ex} {ka : Option Addr} {kc : Nat} {o n : Int} {l : Nat} (xo : x.op = o) (xn : x.n = n) (xl : x.ks.length = l) (ok : Sy.okx x = true) (dp : Sy.dpt x ≤ d) (hB : B < w.heap.size)
    (R : Bx w' w.heap.size exZ 35) (K : KidsB w' (fun b => w.heap.size < b) ka kc x.ks) (T : TpB w' B v zs) (q : Px B w w') :
    bodyPost Tryd.prog fn (ExA B v zs d w) .ret act (((w'.setCell ⟨w.heap.size, 0, none⟩ (.int .i64 o)).setCell ⟨w.heap.size, 1, none⟩ (.int .i64 n)).setCell ⟨w.heap.size, 2, none⟩ (.slice ka l kc)) := by
  subst xo xn xl
  have n : ¬ w.heap.size < w.heap.size := Nat.lt_irrefl _
  refine bodyPost_ret (ret_ex hr hs (((R.set 0 _).set 1 _).set 2 _)) hd ⟨x, ka, kc, rfl, ok, dp, KidsB.mono (((K.set n _).set n _).set n _) (fun b hb => Nat.le_of_lt hb), ((T.other hB _ _).other hB _ _).other hB _ _, ((q.setNew (Nat.le_refl _) _).setNew (Nat.le_refl _) _).setNew (Nat.le_refl _) _⟩
theorem exaEnd2 {B : Nat} {v : Value} {zs : List Int} {d : Nat} {w w' : World} {fn : Func} {s : Nat} {act : Act} (hr : fn.results = #[.cell s 35]) (hs : act.tmps[s]?.getD undef = .pointer (some ⟨w.heap.size, 0, none⟩)) (hd : act.defers = [])
    {x : Sy.Ex} {ka : Option Addr} {kc : Nat} {o n : Int} {l : Nat} (xo : x.op = o) (xn : x.n = n) (xl : x.ks.length = l) (ok : Sy.okx x = true) (dp : Sy.dpt x ≤ d) (hB : B < w.heap.size) (ob : Obj)
    (R : Bx w' w.heap.size exZ 35) (K : KidsB (w'.alloc ob) (fun b => w.heap.size < b) ka kc x.ks) (T : TpB w' B v zs) (q : Px B w w') :
    bodyPost Tryd.prog fn (ExA B v zs d w) .ret act ((((w'.setCell ⟨w.heap.size, 0, none⟩ (.int .i64 o)).setCell ⟨w.heap.size, 1, none⟩ (.int .i64 n)).setCell ⟨w.heap.size, 2, none⟩ (.slice ka l kc)).alloc ob) := by
  have k := exaEnd hr hs hd xo xn xl ok dp hB (R.alloc ob) K (T.kept ((Below.refl _ _).alloc (Nat.le_refl _) ob)) (q.alloc ob)
  have hl := R.lt
  rw [World.setCell_alloc_past _ _ _ _ hl, World.setCell_alloc_past _ _ _ _ (by simpa [World.setCell] using hl), World.setCell_alloc_past _ _ _ _ (by simpa [World.setCell] using hl)] at k
  exact k
theorem lit_all {cs : Array Value} (r : Int) (l : List Int) (hc : cs.toList = l.map (fun o => Value.int .i64 o)) (h0 : 0 ≤ r) (h1 : r < l.length) : ∃ o, o ∈ l ∧ ∀ (w : World) (b : Nat) (t : TypeId), Bx w b cs t → w.cell? ⟨b, r.toNat, none⟩ = some (.int .i64 o) := by
  have hr : r.toNat < l.length := by omega
  refine ⟨l[r.toNat], List.getElem_mem hr, fun w b t X => ?_⟩
  rw [X.cell, ← Array.getElem?_toList, hc, List.getElem?_map, List.getElem?_eq_getElem hr]
  rfl
theorem Bx.kept2 {P : Nat} {w w1 w' : World} {b : Nat} {cs : Array Value} {t : TypeId} (h : Bx w b cs t) (q1 : Qw w w1) (q : Px P w1 w') (hb : b ≠ P) : Bx w' b cs t := (h.kept q1).px q hb
def opsU : List Int := [2, 8, 9, 10, 12, 13, 14, 15, 16]
def opsB : List Int := [3, 4, 5, 6, 7, 11, 17, 18, 19, 20, 21, 22, 23, 24, 25, 3, 4, 5]
theorem opsU_ok {o : Int} (h : o ∈ opsU) : (0 ≤ o ∧ o ≤ 25) ∧ Sy.kds o.toNat = 1 := by
  have : ∀ o ∈ opsU, (0 ≤ o ∧ o ≤ 25) ∧ Sy.kds o.toNat = 1 := by decide
  exact this o h
theorem opsB_ok {o : Int} (h : o ∈ opsB) : (0 ≤ o ∧ o ≤ 25) ∧ Sy.kds o.toNat = 2 := by
  have : ∀ o ∈ opsB, (0 ≤ o ∧ o ≤ 25) ∧ Sy.kds o.toNat = 2 := by decide
  exact this o h
set_option maxRecDepth 100000 in
set_option maxHeartbeats 4000000 in
theorem exprA {B : Nat} {v : Value} {zs : List Int} (d : Nat) : ∀ w, 1 ≤ d → d ≤ 6 → TpB w B v zs → Calls Tryd.prog 46 #[.pointer (some ⟨B, 0, none⟩), .int .i64 (d : Int)] w (ExA B v zs d w) := by
  induction d with
  | zero => intro w h; omega
  | succ d ih =>
    intro w _ hd6 hT
    have hB := hT.lt
    have k1 : ((d + 1 : Nat) : Int) = (d : Int) + 1 := by omega
    rw [k1]
    have c := fun n n1 n2 w h => nextA (B := B) (v := v) (zs := zs) n n1 n2 w h
    have cn := fun w h => numberA (B := B) (v := v) (zs := zs) w h
    have cv := fun w h => variableA (B := B) (v := v) (zs := zs) w h
    have TP := Lib.hid hT
    have C := Lib.hid c
    have CN := Lib.hid cn
    have CV := Lib.hid cv
    have IH := Lib.hid ih
    clear hT c cn cv ih k1
    have R : Hid (Bx (w.alloc (.cells exZ 35)) w.heap.size exZ 35) := Lib.hid (Bx.new w _ _)
    have q0 : Hid (Px B w w) := Lib.hid (Px.refl B w)
    go_enter Tryd.func46, Tryd.ntmps46
    go_upto_region 2 with (first | (go_at_call 29; ((with_reducible refine (C.out _ (by decide) (by decide) _ (TP.out.kept (by unfold Qw; repeat (first | exact Below.refl _ _ | refine Below.setCell ?_ (by first | (simp; done) | (simp; omega)) _ | refine Below.alloc ?_ (by first | (simp; done) | (simp; omega)) _ | refine bel_drewN ?_ _ | refine Below.drew ?_)))).mono ?_); rintro e w' ⟨r, rfl, r0, r1, tp, q⟩; replace TP := Lib.hid tp; replace R : Hid (Bx w' w.heap.size exZ 35) := Lib.hid (Bx.px Rz q (by omega)); have rl := R.out.lt; have s0 := R.out.free 0; have s1 := R.out.free 1; have s2 := R.out.free 2; have u0 := R.out.cell' 0 _ rfl; have u1 := R.out.cell' 1 _ rfl; have u2 := R.out.cell' 2 _ rfl; replace q0 : Hid (Px B w w') := Lib.hid (Px.trans Pz q); clear tp q)))
    by_cases ha : d = 0 ∨ r < 3
    · have num : ∀ m : Int, 0 ≤ m → m < 1000000000000000 → Sy.okx (Sy.num m) = true ∧ Sy.dpt (Sy.num m) ≤ d + 1 := fun m h0 h1 => ⟨Sy.okx_num' h0 h1, by rw [Sy.dpt_num]; omega⟩
      have NUM := Lib.hid num
      clear num IH
      by_cases hd : d = 0
      · subst hd
        go_wp2_with (go_at_call 48; ((with_reducible refine (CN.out _ TP.out).mono ?_); rintro e w' ⟨m, rfl, m0, m1, tp, q⟩; replace TP := Lib.hid tp; replace R : Hid (Bx w' w.heap.size exZ 35) := Lib.hid (Bx.px Rz q (by omega)); have rl := R.out.lt; have s0 := R.out.free 0; have s1 := R.out.free 1; have s2 := R.out.free 2; have u0 := R.out.cell' 0 _ rfl; have u1 := R.out.cell' 1 _ rfl; have u2 := R.out.cell' 2 _ rfl; replace q0 : Hid (Px B w w') := Lib.hid (Px.trans Pz q); clear tp q))
        obtain ⟨ok, dp⟩ := NUM.out m m0 m1
        exact exaEnd (x := Sy.num m) Tryd.results46 rfl rfl rfl rfl rfl ok dp hB R.out (KidsB.nl none 0 (by decide)) TP.out q0.out
      · have hd2 : ¬ (d : Int) + 1 < 2 := by omega
        have hr3 : r < 3 := by omega
        go_wp2_with (go_at_call 48; ((with_reducible refine (CN.out _ TP.out).mono ?_); rintro e w' ⟨m, rfl, m0, m1, tp, q⟩; replace TP := Lib.hid tp; replace R : Hid (Bx w' w.heap.size exZ 35) := Lib.hid (Bx.px Rz q (by omega)); have rl := R.out.lt; have s0 := R.out.free 0; have s1 := R.out.free 1; have s2 := R.out.free 2; have u0 := R.out.cell' 0 _ rfl; have u1 := R.out.cell' 1 _ rfl; have u2 := R.out.cell' 2 _ rfl; replace q0 : Hid (Px B w w') := Lib.hid (Px.trans Pz q); clear tp q))
        obtain ⟨ok, dp⟩ := NUM.out m m0 m1
        exact exaEnd (x := Sy.num m) Tryd.results46 rfl rfl rfl rfl rfl ok dp hB R.out (KidsB.nl none 0 (by decide)) TP.out q0.out
    · obtain ⟨hd0, hr3⟩ : ¬ d = 0 ∧ ¬ r < 3 := ⟨fun h => ha (.inl h), fun h => ha (.inr h)⟩
      have hd2 : ¬ (d : Int) + 1 < 2 := by omega
      clear ha CN
      by_cases h5 : r < 5
      · go_upto_region 8 with (first
          | (go_at_call 45; ((with_reducible refine (CV.out _ TP.out).mono ?_); rintro e w6 ⟨m, rfl, m0, m1, tp, q⟩; replace TP := Lib.hid tp; replace R : Hid (Bx w6 w.heap.size exZ 35) := Lib.hid (Bx.px Rz q (by omega)); replace q0 : Hid (Px B w w6) := Lib.hid (Px.trans Pz q); have X : Hid (Bx (w6.alloc (.cells #[.int .i64 0, .int .i64 (m * 1000000), .slice none 0 0] 35)) w6.heap.size #[.int .i64 0, .int .i64 (m * 1000000), .slice none 0 0] 35) := Lib.hid (Bx.new _ _ _); have xB : B < w6.heap.size := TP.out.lt; have xr : w.heap.size < w6.heap.size := R.out.lt; clear tp q))
          | (go_at_call 29; ((with_reducible refine (C.out _ (by decide) (by decide) _ (TP.out.kept (by unfold Qw; repeat (first | exact Below.refl _ _ | refine Below.setCell ?_ (by first | (simp; done) | (simp; omega)) _ | refine Below.alloc ?_ (by first | (simp; done) | (simp; omega)) _ | refine bel_drewN ?_ _ | refine Below.drew ?_)))).mono ?_); rintro e w' ⟨r2, rfl, r20, r21, tp, q⟩; replace TP := Lib.hid tp; replace R : Hid (Bx w' w.heap.size exZ 35) := Lib.hid (Bx.px Rz q (by omega)); have rl := R.out.lt; have s0 := R.out.free 0; have s1 := R.out.free 1; have s2 := R.out.free 2; have u0 := R.out.cell' 0 _ rfl; have u1 := R.out.cell' 1 _ rfl; have u2 := R.out.cell' 2 _ rfl; replace X := Lib.hid (Bx.px (by repeat (first | exact X.out | refine Bx.alloc ?_ _ | refine Bx.drew ?_)) q (by omega)); replace q0 : Hid (Px B w w') := Lib.hid (Px.trans Pz q); clear tp q; have xl := X.out.lt; have x0 := X.out.cell' 0 _ rfl; have x1 := X.out.cell' 1 _ rfl; have x2 := X.out.cell' 2 _ rfl; have t0 := X.out.free 0; have t1 := X.out.free 1; have t2 := X.out.free 2))
          | (go_at_call 46; ((with_reducible refine (IH.out _ (by omega) (by omega) TP.out).mono ?_); rintro e w' ⟨y, ka, kc, rfl, ok, dp, K, tp, q⟩; have KH : Hid (KidsB w' (fun b => w.heap.size < b ∧ b ≠ w6.heap.size) ka kc y.ks) := Lib.hid (K.mono fun b hb => ⟨by omega, by omega⟩); replace TP := Lib.hid tp; replace R : Hid (Bx w' w.heap.size exZ 35) := Lib.hid (Bx.px Rz q (by omega)); have rl := R.out.lt; have s0 := R.out.free 0; have s1 := R.out.free 1; have s2 := R.out.free 2; have u0 := R.out.cell' 0 _ rfl; have u1 := R.out.cell' 1 _ rfl; have u2 := R.out.cell' 2 _ rfl; replace X := Lib.hid (Bx.px (by repeat (first | exact X.out | refine Bx.alloc ?_ _ | refine Bx.drew ?_)) q (by omega)); have xl := X.out.lt; have x0 := X.out.cell' 0 _ rfl; have x1 := X.out.cell' 1 _ rfl; have x2 := X.out.cell' 2 _ rfl; have t0 := X.out.free 0; have t1 := X.out.free 1; have t2 := X.out.free 2; replace q0 : Hid (Px B w w') := Lib.hid (Px.trans Pz q); clear tp q K)))
        · refine code_of (fun w2 => Hid (Bx w2 w.heap.size exZ 35) ∧ Hid (Bx w2 w6.heap.size #[.int .i64 y.op, .int .i64 y.n, .slice ka y.ks.length kc] 35) ∧ Hid (KidsB w2 (fun b => w.heap.size < b ∧ b ≠ w6.heap.size) ka kc y.ks) ∧ Hid (TpB w2 B v zs) ∧ Hid (Px B w w2))
            ⟨Lib.hid (((R.out.other (by show w.heap.size ≠ w6.heap.size; omega) _).other (by show w.heap.size ≠ w6.heap.size; omega) _).other (by show w.heap.size ≠ w6.heap.size; omega) _), Lib.hid (((X.out.set 0 _).set 1 _).set 2 _), Lib.hid (((KH.out.set (fun h => h.2 rfl) _).set (fun h => h.2 rfl) _).set (fun h => h.2 rfl) _), Lib.hid (((TP.out.other xB _ _).other xB _ _).other xB _ _), Lib.hid (((q0.out.setNew (by show w.heap.size ≤ w6.heap.size; omega) _).setNew (by show w.heap.size ≤ w6.heap.size; omega) _).setNew (by show w.heap.size ≤ w6.heap.size; omega) _)⟩ ?_
          clear R X KH TP q0 x0 x1 x2 u0 u1 u2 s0 s1 s2 t0 t1 t2 rl xl
          rintro w2 ⟨R, X, K, TP, q0⟩
          have rl := R.out.lt
          have s0 := R.out.free 0
          have s1 := R.out.free 1
          have s2 := R.out.free 2
          have u0 := R.out.cell' 0 _ rfl
          have u1 := R.out.cell' 1 _ rfl
          have u2 := R.out.cell' 2 _ rfl
          have xl := X.out.lt
          have x0 := X.out.cell' 0 _ rfl
          have x1 := X.out.cell' 1 _ rfl
          have x2 := X.out.cell' 2 _ rfl
          have t0 := X.out.free 0
          have t1 := X.out.free 1
          have t2 := X.out.free 2
          have xr2 := X.out.lt
          go_wp2_with fail
          exact exaEnd2 (d := d + 1) (x := Sy.un 1 y) Tryd.results46 rfl rfl rfl rfl rfl (Sy.okx_un' (by decide) rfl ok) (by rw [Sy.dpt_un]; omega) hB _ R.out (KidsB.one (x := y) (Bx.new _ _ _) (by show w.heap.size < w2.heap.size; omega) ((K.out.alloc _).mono fun b hb => hb.1)) TP.out q0.out
        · have K : Hid (KidsB w' (fun b => w.heap.size < b ∧ b ≠ w6.heap.size) none 0 (Sy.num (m * 1000000)).ks) := Lib.hid (KidsB.nl none 0 (by decide))
          have ok : Sy.okx (Sy.num (m * 1000000)) = true := Sy.okx_num' (by omega) (by omega)
          have dp : Sy.dpt (Sy.num (m * 1000000)) ≤ d := by rw [Sy.dpt_num]; omega
          have xr2 := X.out.lt
          go_wp2_with fail
          exact exaEnd2 (d := d + 1) (x := Sy.un 1 (Sy.num (m * 1000000))) Tryd.results46 rfl rfl rfl rfl rfl (Sy.okx_un' (by decide) rfl ok) (by rw [Sy.dpt_un]; omega) hB _ R.out (KidsB.one (x := (Sy.num (m * 1000000))) (Bx.new _ _ _) (by show w.heap.size < w'.heap.size; omega) ((K.out.alloc _).mono fun b hb => hb.1)) TP.out q0.out
      · by_cases h6 : r < 6
        · go_upto_region 11 with fail
          refine code_of (fun w2 => Hid (Bx w2 w.heap.size exZ 35) ∧ (∃ T, Hid (Bx w2 w'.heap.size #[.int .i64 2, .int .i64 8, .int .i64 9, .int .i64 10, .int .i64 12, .int .i64 13, .int .i64 14, .int .i64 15, .int .i64 16] T)) ∧ Hid (TpB w2 B v zs) ∧ Hid (Px B w w2)) ⟨Lib.hid (R.out.alloc _), ⟨_, Lib.hid (Bx.new _ _ _)⟩, Lib.hid (TP.out.kept ((Below.refl _ _).alloc (Nat.le_refl _) _)), Lib.hid (q0.out.alloc _)⟩ ?_
          have lB : B < w'.heap.size := TP.out.lt
          clear R TP q0 u0 u1 u2 s0 s1 s2 rl
          rintro w2 ⟨R, ⟨T, L⟩, TP, q0⟩
          have rl := R.out.lt
          have s0 := R.out.free 0
          have s1 := R.out.free 1
          have s2 := R.out.free 2
          have u0 := R.out.cell' 0 _ rfl
          have u1 := R.out.cell' 1 _ rfl
          have u2 := R.out.cell' 2 _ rfl
          have hwd : IntKind.i64.wrap (d : Int) = (d : Int) := IntWalk.i64_in _ (by omega)
          go_region_law ((try go_simp); go_wp2_with (first
            | (go_at_call 29; ((with_reducible refine (C.out _ (by decide) (by decide) _ (TP.out.kept (show Qw _ _ by repeat (first | exact Qw.refl _ | refine Qw.al ?_ _ | refine Qw.dr ?_ | refine Qw.dn ?_ _)))).mono ?_); rintro e w' ⟨r2, rfl, r20, r21, tp, q⟩; replace TP := Lib.hid tp; replace R : Hid (Bx w' w.heap.size exZ 35) := Lib.hid (Bx.kept2 R.out (show Qw _ _ by repeat (first | exact Qw.refl _ | refine Qw.al ?_ _ | refine Qw.dr ?_ | refine Qw.dn ?_ _)) q (by omega)); have rl := R.out.lt; have s0 := R.out.free 0; have s1 := R.out.free 1; have s2 := R.out.free 2; have u0 := R.out.cell' 0 _ rfl; have u1 := R.out.cell' 1 _ rfl; have u2 := R.out.cell' 2 _ rfl; replace L := Lib.hid (Bx.kept2 L.out (show Qw _ _ by repeat (first | exact Qw.refl _ | refine Qw.al ?_ _ | refine Qw.dr ?_ | refine Qw.dn ?_ _)) q (by omega)); obtain ⟨o, hm, hl⟩ := lit_all (cs := #[.int .i64 2, .int .i64 8, .int .i64 9, .int .i64 10, .int .i64 12, .int .i64 13, .int .i64 14, .int .i64 15, .int .i64 16]) r2 opsU rfl r20 r21; have ho := hl _ _ _ L.out; have HL := Lib.hid hl; replace q0 : Hid (Px B w w') := Lib.hid (Px.trans (Px.trans q0.out (Px.of (show Qw _ _ by repeat (first | exact Qw.refl _ | refine Qw.al ?_ _ | refine Qw.dr ?_ | refine Qw.dn ?_ _)))) q); clear tp q hl))
            | (go_at_call 46; ((with_reducible refine (IH.out _ (by omega) (by omega) (TP.out.kept (show Qw _ _ by repeat (first | exact Qw.refl _ | refine Qw.al ?_ _ | refine Qw.dr ?_ | refine Qw.dn ?_ _)))).mono ?_); rintro e w' ⟨y, ka, kc, rfl, ok, dp, K, tp, q⟩; have KH : Hid (KidsB w' (fun b => w.heap.size < b) ka kc y.ks) := Lib.hid (K.mono fun b hb => Nat.lt_of_lt_of_le R.out.lt hb); replace TP := Lib.hid tp; replace R : Hid (Bx w' w.heap.size exZ 35) := Lib.hid (Bx.kept2 R.out (show Qw _ _ by repeat (first | exact Qw.refl _ | refine Qw.al ?_ _ | refine Qw.dr ?_ | refine Qw.dn ?_ _)) q (by omega)); have rl := R.out.lt; have s0 := R.out.free 0; have s1 := R.out.free 1; have s2 := R.out.free 2; have u0 := R.out.cell' 0 _ rfl; have u1 := R.out.cell' 1 _ rfl; have u2 := R.out.cell' 2 _ rfl; replace L := Lib.hid (Bx.kept2 L.out (show Qw _ _ by repeat (first | exact Qw.refl _ | refine Qw.al ?_ _ | refine Qw.dr ?_ | refine Qw.dn ?_ _)) q (by omega)); have ho := HL.out _ _ _ L.out; have Ll := L.out.lt; have Ln := Nat.ne_of_lt Ll; replace q0 : Hid (Px B w w') := Lib.hid (Px.trans (Px.trans q0.out (Px.of (show Qw _ _ by repeat (first | exact Qw.refl _ | refine Qw.al ?_ _ | refine Qw.dr ?_ | refine Qw.dn ?_ _)))) q); clear tp q K))))
          all_goals go_wp2_with fail
          all_goals exact exaEnd2 (d := d + 1) (x := Sy.un o y) Tryd.results46 rfl rfl rfl rfl rfl (Sy.okx_un' (opsU_ok hm).1 (opsU_ok hm).2 ok) (by rw [Sy.dpt_un]; omega) hB _ R.out (KidsB.one (x := y) (Bx.new _ _ _) R.out.lt (KH.out.alloc _)) TP.out q0.out
        · go_upto_region 15 with (first
            | (go_at_call 29; ((with_reducible refine (C.out _ (by decide) (by decide) _ (TP.out.kept (show Qw _ _ by repeat (first | exact Qw.refl _ | refine Qw.al ?_ _ | refine Qw.dr ?_ | refine Qw.dn ?_ _)))).mono ?_); rintro e w5 ⟨r2, rfl, r20, r21, tp, q⟩; obtain ⟨o, hm, hl⟩ := lit_all (cs := #[.int .i64 3, .int .i64 4, .int .i64 5, .int .i64 6, .int .i64 7, .int .i64 11, .int .i64 17, .int .i64 18, .int .i64 19, .int .i64 20, .int .i64 21, .int .i64 22, .int .i64 23, .int .i64 24, .int .i64 25, .int .i64 3, .int .i64 4, .int .i64 5]) r2 opsB rfl r20 r21; have ho := hl _ _ _ (Bx.kept2 (Bx.new _ _ _) (show Qw _ _ by repeat (first | exact Qw.refl _ | refine Qw.al ?_ _ | refine Qw.dr ?_ | refine Qw.dn ?_ _)) q (Nat.ne_of_gt TP.out.lt)); replace TP := Lib.hid tp; replace R : Hid (Bx w5 w.heap.size exZ 35) := Lib.hid (Bx.kept2 R.out (show Qw _ _ by repeat (first | exact Qw.refl _ | refine Qw.al ?_ _ | refine Qw.dr ?_ | refine Qw.dn ?_ _)) q (by omega)); have rl := R.out.lt; have s0 := R.out.free 0; have s1 := R.out.free 1; have s2 := R.out.free 2; have u0 := R.out.cell' 0 _ rfl; have u1 := R.out.cell' 1 _ rfl; have u2 := R.out.cell' 2 _ rfl; replace q0 : Hid (Px B w w5) := Lib.hid (Px.trans (Px.trans q0.out (Px.of (show Qw _ _ by repeat (first | exact Qw.refl _ | refine Qw.al ?_ _ | refine Qw.dr ?_ | refine Qw.dn ?_ _)))) q); clear tp q hl))
            | (go_at_call 46; ((with_reducible refine (IH.out _ (by omega) (by omega) (TP.out.kept (show Qw _ _ by repeat (first | exact Qw.refl _ | refine Qw.al ?_ _ | refine Qw.dr ?_ | refine Qw.dn ?_ _)))).mono ?_); rintro e w6 ⟨y, ka, kc, rfl, ok, dp, K, tp, q⟩; have KH : Hid (KidsB w6 (fun b => w.heap.size < b) ka kc y.ks) := Lib.hid (K.mono fun b hb => Nat.lt_of_lt_of_le R.out.lt hb); replace TP := Lib.hid tp; replace R : Hid (Bx w6 w.heap.size exZ 35) := Lib.hid (Bx.kept2 R.out (show Qw _ _ by repeat (first | exact Qw.refl _ | refine Qw.al ?_ _ | refine Qw.dr ?_ | refine Qw.dn ?_ _)) q (by omega)); have rl := R.out.lt; have s0 := R.out.free 0; have s1 := R.out.free 1; have s2 := R.out.free 2; have u0 := R.out.cell' 0 _ rfl; have u1 := R.out.cell' 1 _ rfl; have u2 := R.out.cell' 2 _ rfl; replace q0 : Hid (Px B w w6) := Lib.hid (Px.trans (Px.trans q0.out (Px.of (show Qw _ _ by repeat (first | exact Qw.refl _ | refine Qw.al ?_ _ | refine Qw.dr ?_ | refine Qw.dn ?_ _)))) q); clear tp q K)))
          have lB : B < w6.heap.size := TP.out.lt
          refine code_of (fun w2 => Hid (Bx w2 w.heap.size exZ 35) ∧ Hid (Bx w2 w6.heap.size #[.int .i64 y.op, .int .i64 y.n, .slice ka y.ks.length kc] 35) ∧ Hid (KidsB w2 (fun b => w.heap.size < b) ka kc y.ks) ∧ Hid (TpB w2 B v zs) ∧ Hid (Px B w w2)) ⟨Lib.hid (R.out.alloc _), Lib.hid (Bx.new _ _ _), Lib.hid (KH.out.alloc _), Lib.hid (TP.out.kept ((Below.refl _ _).alloc (Nat.le_refl _) _)), Lib.hid (q0.out.alloc _)⟩ ?_
          clear R TP q0 KH u0 u1 u2 s0 s1 s2 rl
          rintro w2 ⟨R, X, KH, TP, q0⟩
          have rl := R.out.lt
          have s0 := R.out.free 0
          have s1 := R.out.free 1
          have s2 := R.out.free 2
          have u0 := R.out.cell' 0 _ rfl
          have u1 := R.out.cell' 1 _ rfl
          have u2 := R.out.cell' 2 _ rfl
          have xl := X.out.lt
          have x0 := X.out.cell' 0 _ rfl
          have x1 := X.out.cell' 1 _ rfl
          have x2 := X.out.cell' 2 _ rfl
          have hwd : IntKind.i64.wrap (d : Int) = (d : Int) := IntWalk.i64_in _ (by omega)
          go_region_law (go_simp; go_wp2_with (go_at_call 46; ((with_reducible refine (IH.out _ (by omega) (by omega) (TP.out.kept (show Qw _ _ by repeat (first | exact Qw.refl _ | refine Qw.al ?_ _ | refine Qw.dr ?_ | refine Qw.dn ?_ _)))).mono ?_); rintro e w' ⟨z, kb, kd, rfl, ok2, dp2, K, tp, q⟩; have KH2 : Hid (KidsB w' (fun b => w.heap.size < b) kb kd z.ks) := Lib.hid (K.mono fun b hb => Nat.lt_of_lt_of_le R.out.lt hb); replace KH : Hid (KidsB w' (fun b => w.heap.size < b) ka kc y.ks) := Lib.hid ((KH.out.kept (show Qw _ _ by repeat (first | exact Qw.refl _ | refine Qw.al ?_ _ | refine Qw.dr ?_ | refine Qw.dn ?_ _))).px (fun b hb => by omega) q); replace TP := Lib.hid tp; replace R : Hid (Bx w' w.heap.size exZ 35) := Lib.hid (Bx.kept2 R.out (show Qw _ _ by repeat (first | exact Qw.refl _ | refine Qw.al ?_ _ | refine Qw.dr ?_ | refine Qw.dn ?_ _)) q (by omega)); have rl := R.out.lt; have s0 := R.out.free 0; have s1 := R.out.free 1; have s2 := R.out.free 2; have u0 := R.out.cell' 0 _ rfl; have u1 := R.out.cell' 1 _ rfl; have u2 := R.out.cell' 2 _ rfl; replace X := Lib.hid (Bx.kept2 X.out (show Qw _ _ by repeat (first | exact Qw.refl _ | refine Qw.al ?_ _ | refine Qw.dr ?_ | refine Qw.dn ?_ _)) q (by omega)); have xl := X.out.lt; have x0 := X.out.cell' 0 _ rfl; have x1 := X.out.cell' 1 _ rfl; have x2 := X.out.cell' 2 _ rfl; replace q0 : Hid (Px B w w') := Lib.hid (Px.trans (Px.trans q0.out (Px.of (show Qw _ _ by repeat (first | exact Qw.refl _ | refine Qw.al ?_ _ | refine Qw.dr ?_ | refine Qw.dn ?_ _)))) q); clear tp q K)))
          all_goals go_wp2_with fail
          all_goals exact exaEnd2 (d := d + 1) (x := Sy.bin o y z) Tryd.results46 rfl rfl rfl rfl rfl (Sy.okx_bin' (opsB_ok hm).1 (opsB_ok hm).2 ok ok2) (by rw [Sy.dpt_bin]; omega) hB _ R.out (KidsB.two (x := y) (y := z) (Bx.new _ _ _) R.out.lt (KH.out.alloc _) (KH2.out.alloc _)) TP.out q0.out
end Go.Proofs.YtlgdjbabbfdngaaDoor

