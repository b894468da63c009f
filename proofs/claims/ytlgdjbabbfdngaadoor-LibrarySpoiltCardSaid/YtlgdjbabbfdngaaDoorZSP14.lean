import Derived.Test.YtlgdjbabbfdngaaDoorZSP0
import Derived.Test.YtlgdjbabbfdngaaDoorZSP5
import Derived.Test.YtlgdjbabbfdngaaDoorZSP6
import Derived.Test.YtlgdjbabbfdngaaDoorZSP9
import Derived.Test.YtlgdjbabbfdngaaDoorZSP12
import Derived.Test.YtlgdjbabbfdngaaDoorZSP13
set_option linter.unusedVariables false
set_option linter.unusedSimpArgs false
namespace Go.Proofs.YtlgdjbabbfdngaaDoor
namespace Sy
structure Fwn (b : Bl) : Prop where
  v : vldb b = true
  dl : dpt b.left ≤ 4
  dx : dpt b.x ≤ 4
  wl : b.words.length ≤ 4
  dw : ∀ w ∈ b.words, dpt w.2 ≤ 2
theorem lab_any {lab : Int} (h : 0 ≤ lab ∧ lab ≤ 99999) : (decide (lab = 0) || cnt lab 99999) = true := by
  simp [cnt]; omega
theorem vld_parts {b : Bl} (h : vldb b = true) : okb b = true ∧ limb b = true := by
  unfold vldb at h; simpa using h
theorem okb_lab {b : Bl} (h : okb b = true) (lab : Int) (hl : 0 ≤ lab ∧ lab ≤ 99999) : okb { b with label := lab } = true := by
  unfold okb at h ⊢
  simp only [Bool.and_eq_true] at h ⊢
  exact ⟨lab_any hl, h.2⟩
theorem vldb_lab {b : Bl} (h : vldb b = true) (lab : Int) (hl : 0 ≤ lab ∧ lab ≤ 99999) : vldb { b with label := lab } = true := by
  obtain ⟨h1, h2⟩ := vld_parts h
  unfold vldb
  rw [okb_lab h1 lab hl, Bool.true_and]
  exact h2
theorem Dwn.lab {b : Bl} (h : Dwn b) (lab : Int) (hl : 0 ≤ lab ∧ lab ≤ 99999) : Fwn { b with label := lab } := ⟨vldb_lab h.v lab hl, h.dl, h.dx, by have := h.wl; show b.words.length ≤ 4; omega, h.dw⟩
theorem Fwn.loop {b : Bl} (h : Fwn b) (hk : b.kind = 4 ∨ b.kind = 5) {n : Int} (n1 : 1 ≤ n) (n3 : n ≤ 3) : Fwn { b with n := n } := by
  obtain ⟨h1, h2⟩ := vld_parts h.v
  refine ⟨?_, h.dl, h.dx, h.wl, h.dw⟩
  unfold vldb
  have : okb { b with n := n } = true := by
    unfold okb at h1 ⊢
    simp only [Bool.and_eq_true] at h1 ⊢
    refine ⟨h1.1, ?_⟩
    have h3 := h1.2
    have c : cnt n 3 = true := by simp [cnt]; omega
    rcases hk with hk | hk
    · simp only [hk] at h3 ⊢
      simp at h3 ⊢
      exact ⟨h3.1, h3.2.1, c⟩
    · simp only [hk] at h3 ⊢
      simp at h3 ⊢
      exact ⟨h3.1, h3.2.1, c⟩
  rw [this]
  exact h2
theorem num_of {x : Ex} (h : okx x = true) (h0 : x.op = 0) : ∃ n, x = num n := by
  have f := form h
  cases f with
  | num n _ _ => exact ⟨n, rfl⟩
  | un o x _ ho => exact absurd h0 (by show ((o : Nat) : Int) ≠ 0; omega)
  | bin o x y _ _ ho => exact absurd h0 (by show ((o : Nat) : Int) ≠ 0; omega)
theorem Fwn.goto_ {b : Bl} (h : Fwn b) (hk : b.kind = 2) {m : Int} (m0 : 0 ≤ m) (m1 : m < 1000000000000000) : Fwn { b with x := num m } := by
  obtain ⟨h1, h2⟩ := vld_parts h.v
  have o := okx_num' m0 m1
  refine ⟨?_, h.dl, by show dpt (num m) ≤ 4; rw [dpt_num]; decide, h.wl, h.dw⟩
  unfold vldb
  have e1 : okb { b with x := num m } = true := by
    unfold okb at h1 ⊢
    simp only [Bool.and_eq_true] at h1 ⊢
    refine ⟨h1.1, ?_⟩
    have h3 := h1.2
    simp only [hk] at h3 ⊢
    simp at h3 ⊢
    exact ⟨h3.1, ⟨h3.2.1.1, o⟩, h3.2.2⟩
  have e2 : limb { b with x := num m } = true := by
    unfold limb at h2 ⊢
    simp only [Bool.and_eq_true] at h2 ⊢
    exact ⟨h2.1, by unfold depB; rw [dpt_num]; rfl⟩
  rw [e1, e2]; rfl
theorem Fwn.if_ {b : Bl} (h : Fwn b) (hk : b.kind = 3) {m : Int} (m0 : 0 ≤ m) (m1 : m < 1000000000000000) : Fwn { b with left := num m } := by
  obtain ⟨h1, h2⟩ := vld_parts h.v
  have o := okx_num' m0 m1
  refine ⟨?_, by show dpt (num m) ≤ 4; rw [dpt_num]; decide, h.dx, h.wl, h.dw⟩
  unfold vldb
  have e1 : okb { b with left := num m } = true := by
    unfold okb at h1 ⊢
    simp only [Bool.and_eq_true] at h1 ⊢
    refine ⟨h1.1, ?_⟩
    have h3 := h1.2
    simp only [hk] at h3 ⊢
    simp at h3 ⊢
    exact ⟨h3.1, ⟨o, h3.2.1.2⟩, h3.2.2⟩
  have e2 : limb { b with left := num m } = true := by
    unfold limb at h2 ⊢
    simp only [Bool.and_eq_true] at h2 ⊢
    exact ⟨⟨h2.1.1, by unfold depB; rw [dpt_num]; rfl⟩, h2.2⟩
  rw [e1, e2]; rfl
theorem Fwn.words_ {b : Bl} (h : Fwn b) (hk : b.kind = 0) {ws : List (Int × Ex)} (hl : ws.length ≤ 4) (hw : ∀ w ∈ ws, isw w.1 = true ∧ okx w.2 = true ∧ dpt w.2 ≤ 2) : Fwn { b with words := ws } := by
  obtain ⟨h1, h2⟩ := vld_parts h.v
  refine ⟨?_, h.dl, h.dx, hl, fun w hm => (hw w hm).2.2⟩
  unfold vldb
  have e1 : okb { b with words := ws } = true := by
    unfold okb at h1 ⊢
    simp only [Bool.and_eq_true] at h1 ⊢
    refine ⟨h1.1, ?_⟩
    have h3 := h1.2
    simp only [hk] at h3 ⊢
    simp at h3 ⊢
    exact ⟨⟨⟨fun c x hm => ⟨(hw _ hm).1, (hw _ hm).2.1⟩, h3.1.1.2⟩, h3.1.2⟩, h3.2⟩
  have e2 : limb { b with words := ws } = true := by
    unfold limb at h2 ⊢
    simp only [Bool.and_eq_true, List.all_eq_true] at h2 ⊢
    refine ⟨⟨⟨by simp; omega, fun w hm => ?_⟩, h2.1.2⟩, h2.2⟩
    unfold depB
    have := (hw w hm).2.2
    exact decide_eq_true (by omega)
  rw [e1, e2]; rfl
theorem fwn_zero : Fwn ⟨0, 0, false, [], zx, zx, 0⟩ := ⟨by
  unfold vldb okb limb
  simp [cnt, noneB_zx, dpt_zx], by rw [show dpt zx = 1 from dpt_zx']; decide, by rw [show dpt zx = 1 from dpt_zx']; decide, by simp, by simp⟩
theorem fwn_end {n : Int} (n1 : 1 ≤ n) (n3 : n ≤ 3) : Fwn ⟨5, 0, false, [], zx, zx, n⟩ := ⟨by
  unfold vldb okb limb
  have : cnt n 3 = true := by simp [cnt]; omega
  simp [this, noneB_zx, dpt_zx], by rw [show dpt zx = 1 from dpt_zx']; decide, by rw [show dpt zx = 1 from dpt_zx']; decide, by simp, by simp⟩
theorem fwn_prog {n : Int} (n1 : 1 ≤ n) (n3 : n ≤ 99999) : Fwn ⟨6, 0, false, [], zx, zx, n⟩ := ⟨by
  unfold vldb okb limb
  have : cnt n 99999 = true := by simp [cnt]; omega
  simp [this, noneB_zx, dpt_zx], by rw [show dpt zx = 1 from dpt_zx']; decide, by rw [show dpt zx = 1 from dpt_zx']; decide, by simp, by simp⟩
end Sy
end Go.Proofs.YtlgdjbabbfdngaaDoor
set_option linter.unusedVariables false
set_option linter.unusedSimpArgs false
namespace Go.Proofs.YtlgdjbabbfdngaaDoor
open Go.RowKit
structure LibX (w : World) (S : Nat → Prop) (B : Nat) (ba : Option Addr) (bc : Nat) (pa : Option Addr) (pc : Nat) (ma : Option Addr) (mc : Nat) (bs : List Sy.Bl) (s : Lb.St) : Prop where
  b : BlksB w S ba bc bs
  p : OwnG B w 76 3 (.slice pa s.pg.length pc) (s.pg.map pcell)
  m : OwnG B w 3 1 (.slice ma s.mate.length mc) (s.mate.map icell)
theorem LibX.kept {w w' : World} {S : Nat → Prop} {B : Nat} {ba pa ma : Option Addr} {bc pc mc : Nat} {bs : List Sy.Bl} {s : Lb.St} (h : LibX w S B ba bc pa pc ma mc bs s) (q : Qw w w') : LibX w' S B ba bc pa pc ma mc bs s := ⟨h.b.kept q, h.p.go fun g _ hl => q.block g hl, h.m.go fun g _ hl => q.block g hl⟩
def BdY (w : World) (bs : List Sy.Bl) (s : Lb.St) (e : Ending) (w' : World) : Prop := ∃ ba bc pa pc ma mc, e = .returned (.tuple #[.agg #[.slice ba bs.length bc, .slice pa s.pg.length pc, .slice ma s.mate.length mc], .int .i64 (bs.length : Nat), .int .i64 0]) ∧ LibX w' (fun b => w.heap.size ≤ b) w.heap.size ba bc pa pc ma mc bs s ∧ Qw w w'
def BdN (w : World) (j : Nat) (er : Int) (e : Ending) (w' : World) : Prop := e = .returned (.tuple #[.agg #[.slice none 0 0, .slice none 0 0, .slice none 0 0], .int .i64 (j : Nat), .int .i64 er]) ∧ Qw w w'
theorem build_ok {bs : List Sy.Bl} {s : Lb.St} (hb : Lb.build bs = .ok s) (a : Option Addr) (cap : Nat) (S : Nat → Prop) (w : World) (hO : Ow w) (h : BlksB w S a cap bs) : Calls Tryd.prog 17 #[.slice a bs.length cap] w (BdY w bs s) := (lb_build bs a cap S w hO h).mono (by
  rintro e w' ⟨h1, q⟩
  rw [hb] at h1
  obtain ⟨v, rfl, ba, bc, pv, mv, rfl, k1, k2, k3⟩ := h1
  obtain ⟨pa, pc, rfl, _⟩ := k2.form
  obtain ⟨ma, mc, rfl, _⟩ := k3.form
  rw [List.length_map] at k2 k3
  refine ⟨ba, bc, pa, pc, ma, mc, ?_, ⟨k1, k2, k3⟩, q⟩
  simp only [List.length_map])
theorem build_bad {bs : List Sy.Bl} {j : Nat} {er : Int} (hb : Lb.build bs = .bad j er) (a : Option Addr) (cap : Nat) (S : Nat → Prop) (w : World) (hO : Ow w) (h : BlksB w S a cap bs) : Calls Tryd.prog 17 #[.slice a bs.length cap] w (BdN w j er) := (lb_build bs a cap S w hO h).mono (by
  rintro e w' ⟨h1, q⟩
  rw [hb] at h1
  exact ⟨h1, q⟩)
def plB (k n : Int) (x : Sy.Ex) : Bi := ⟨⟨k, 0, false, [], Sy.zx, x, n⟩, none, 0, none, 0, none, 0⟩
theorem lit_blocks {w : World} {g : Nat} {ds : List Bi} {cs : Array Value} {t : TypeId} {cap : Nat} (X : Bx w g cs t) (hc : ∀ i (h : i < ds.length) j u, (bicell ds[i])[j]? = some u → cs[i * 11 + j]? = some u) (h0 : ∀ d ∈ ds, d.b.words = [] ∧ d.b.left.ks = [] ∧ d.b.x.ks = [] ∧ d.wa = none ∧ d.wc = 0 ∧ d.la = none ∧ d.lc = 0 ∧ d.xa = none ∧ d.xc = 0) (hcap : ds.length ≤ cap) (hcl : cap ≤ 9223372036854775807) : BlksB w (fun b => b < w.heap.size) (some ⟨g, 0, none⟩) cap (ds.map Bi.b) := by
  refine ⟨by rw [List.length_map]; exact hcap, hcl, .inr ⟨g, 0, fun i => ds.getD i default, rfl, X.lt, fun i hi => ?_⟩⟩
  have hi' : i < ds.length := by simpa using hi
  have e1 : ds.getD i default = ds[i] := by rw [List.getD_eq_getElem?_getD, List.getElem?_eq_getElem hi']; rfl
  dsimp only
  rw [e1, Nat.zero_add]
  obtain ⟨a1, a2, a3, a4, a5, a6, a7, a8, a9⟩ := h0 _ (List.getElem_mem hi')
  refine ⟨by simp, ⟨?_, ?_, ?_⟩, fun j u hj => X.cell' _ u (hc i hi' j u hj)⟩
  · rw [a1, a4, a5]; exact WordsB.nil _ _
  · rw [a2, a6, a7]; exact KidsB.nl none 0 (by decide)
  · rw [a3, a8, a9]; exact KidsB.nl none 0 (by decide)
theorem build_nil : Lb.build [] = .ok Lb.st0 := by
  unfold Lb.build
  rw [if_neg (by simp)]
  rfl
theorem build_end : Lb.build [(plB 5 1 Sy.zx).b] = .bad 0 11 := by
  unfold Lb.build
  rw [if_neg (by simp), Lb.inv_none (by intro b hb; rw [List.mem_singleton.1 hb]; exact (Sy.fwn_end (n := 1) (by decide) (by decide)).v)]
  rfl
theorem end_call (w : World) (hO : Ow w) (g : Nat) {t : TypeId} (X : Bx w g #[.int .i64 5, .int .i64 0, .bool false, .slice none 0 0, .int .i64 0, .int .i64 0, .slice none 0 0, .int .i64 0, .int .i64 0, .slice none 0 0, .int .i64 1] t) : Calls Tryd.prog 17 #[.slice (some ⟨g, 0, none⟩) 1 1] w (BdN w 0 11) :=
  build_bad build_end (some ⟨g, 0, none⟩) 1 _ w hO (lit_blocks (ds := [plB 5 1 Sy.zx]) X (by
    intro i hi j u hj
    obtain rfl : i = 0 := by simpa using hi
    rw [Nat.zero_mul, Nat.zero_add]
    show (bicell (plB 5 1 Sy.zx)).toArray[j]? = some u
    rw [List.getElem?_toArray]
    exact hj) (by intro d hd; rw [List.mem_singleton.1 hd]; exact ⟨rfl, rfl, rfl, rfl, rfl, rfl, rfl, rfl, rfl⟩) (by decide) (by decide))
def NilR (w : World) (e : Ending) (w' : World) : Prop := ∃ ba bc pa pc ma mc, e = .returned (.tuple #[.agg #[.slice ba 0 bc, .slice pa 1 pc, .slice ma 0 mc], .int .i64 0, .int .i64 0]) ∧ Qw w w'
theorem nil_call (w : World) (hO : Ow w) : Calls Tryd.prog 17 #[.slice none 0 0] w (NilR w) := (build_ok build_nil none 0 (fun _ => True) w hO (BlksB.nil _ _)).mono (by
  intro e w' h
  obtain ⟨ba, bc, pa, pc, ma, mc, rfl, _, q⟩ := h
  exact ⟨ba, bc, pa, pc, ma, mc, rfl, q⟩)
set_option maxRecDepth 100000 in
set_option maxHeartbeats 4000000 in
theorem awake9 (w : World) (hO : Ow w) : Calls Tryd.prog 11 #[] w fun e w' => e = .returned (.bool true) ∧ Qw w w' := by
  have C1 := Lib.hid (nil_call w hO)
  have C2 := Lib.hid (fun w2 (q : Qw w w2) g t X => end_call w2 (hO.kept q) g (t := t) X)
  clear hO
  go_enter Tryd.func11, Tryd.ntmps11
  go_wp2_with (go_at_call 17; refine C1.out.mono ?_)
  intro e w1 h1
  obtain ⟨ba, bc, pa, pc, ma, mc, rfl, q1⟩ := h1
  have Q1 := Lib.hid q1
  clear q1
  have sz : ∀ o : Obj, (w1.alloc o).heap.size = w1.heap.size + 1 := fun o => by simp
  have XE := Bx.new (w1.alloc (.cells #[.slice ba 0 bc, .slice pa 1 pc, .slice ma 0 mc] 41)) #[.int .i64 5, .int .i64 0, .bool false, .slice none 0 0, .int .i64 0, .int .i64 0, .slice none 0 0, .int .i64 0, .int .i64 0, .slice none 0 0, .int .i64 1] 37
  rw [sz] at XE
  have C3 := Lib.hid (C2.out _ (Qw.al (Qw.al Q1.out _) _) _ _ XE)
  clear XE sz
  go_wp2_with (go_at_call 17; refine C3.out.mono ?_)
  intro e w2 h2
  obtain ⟨rfl, q2⟩ := h2
  have X1 := ((Bx.new w1 #[.slice ba 0 bc, .slice pa 1 pc, .slice ma 0 mc] 41).alloc (.cells #[.int .i64 5, .int .i64 0, .bool false, .slice none 0 0, .int .i64 0, .int .i64 0, .slice none 0 0, .int .i64 0, .int .i64 0, .slice none 0 0, .int .i64 1] 37)).kept q2
  have x1 := X1.cell' 1 (.slice pa 1 pc) rfl
  have hl := X1.lt
  have hn : w1.heap.size ≠ w2.heap.size := by omega
  have QF : Hid (Qw w w2) := Lib.hid (Qw.trans (Qw.al (Qw.al Q1.out _) _) q2)
  clear X1 C1 C2 q2
  go_wp2
  go_ret
  exact ⟨rfl, (by repeat (first | exact QF.out | refine Qw.al ?_ _))⟩
end Go.Proofs.YtlgdjbabbfdngaaDoor
set_option linter.unusedVariables false
set_option linter.unusedSimpArgs false
namespace Go.Proofs.YtlgdjbabbfdngaaDoor
open Go.RowKit
namespace Lb
theorem fnd_drop (l : List Pg) (n : Int) {k : Nat} (h : k < l.length) : fnd (l.drop k) n k = if l[k].num = n then some k else fnd (l.drop (k + 1)) n (k + 1) := by
  rw [List.drop_eq_getElem_cons h]; rfl
theorem fnd_end (l : List Pg) (n : Int) : fnd (l.drop l.length) n l.length = none := by rw [List.drop_length]; rfl
end Lb
theorem LibX.prog {w : World} {S : Nat → Prop} {B : Nat} {ba pa ma : Option Addr} {bc pc mc : Nat} {bs : List Sy.Bl} {s : Lb.St} (h : LibX w S B ba bc pa pc ma mc bs s) {k : Nat} (hk : k < s.pg.length) : ∃ g, pa = some ⟨g, 0, none⟩ ∧ g < w.heap.size ∧ w.cell? ⟨g, k * 3, none⟩ = some (.int .i64 s.pg[k].num) ∧ w.cell? ⟨g, k * 3 + 1, none⟩ = some (.int .i64 (s.pg[k].first : Nat)) ∧ w.cell? ⟨g, k * 3 + 2, none⟩ = some (.int .i64 (s.pg[k].fin : Nat)) := by
  obtain ⟨a, cap, e, _, _, kg⟩ := h.p.form
  obtain ⟨g, rfl, _, g2⟩ := kg (by intro e; have := congrArg List.length e; simp at this; rw [this] at hk; simp at hk)
  obtain ⟨rfl, _⟩ : pa = some ⟨g, 0, none⟩ ∧ True := by simp at e; exact ⟨e.1, trivial⟩
  have c := fun j u hj => h.p.at (g := g) rfl (i := k) (by simpa using hk) (j := j) (u := u) hj
  exact ⟨g, rfl, g2, c 0 _ (by rw [List.getElem_map]; rfl), c 1 _ (by rw [List.getElem_map]; rfl), c 2 _ (by rw [List.getElem_map]; rfl)⟩
def fdV (r : Option Nat) : Value := .tuple #[.int .i64 ((r.getD 0 : Nat) : Int), .bool r.isSome]
section
variable {w : World} {S : Nat → Prop} {B : Nat} {ba pa ma : Option Addr} {bc pc mc : Nat} {bs : List Sy.Bl} {s : Lb.St}
end
end Go.Proofs.YtlgdjbabbfdngaaDoor
set_option linter.unusedVariables false
set_option linter.unusedSimpArgs false
namespace Go.Proofs.YtlgdjbabbfdngaaDoor
open Go.RowKit
section
variable {w : World} {S : Nat → Prop} {B : Nat} {ba pa ma : Option Addr} {bc pc mc : Nat} {bs : List Sy.Bl} {s : Lb.St}
set_option maxRecDepth 100000 in
set_option maxHeartbeats 4000000 in
theorem rf_find (h : LibX w S B ba bc pa pc ma mc bs s) (hl : s.pg.length ≤ 5000) (n : Int) : Calls Tryd.prog 21 #[.agg #[.slice ba bs.length bc, .slice pa s.pg.length pc, .slice ma s.mate.length mc], .int .i64 n] w fun e w' => e = .returned (fdV (Lb.fnd s.pg n 0)) ∧ Qw w w' := by
  have HL := Lib.hid h
  clear h
  go_enter Tryd.func21, Tryd.ntmps21
  go_wp2
  go_loopw [6] (fun iv wr => ∃ k : Nat, k ≤ s.pg.length ∧ iv = .int .i64 (k : Int) ∧ Hid (Lb.fnd s.pg n 0 = Lb.fnd (s.pg.drop k) n k) ∧ Hid (Qw w wr) ∧ Hid (Bx wr w.heap.size #[.slice ba bs.length bc, .slice pa s.pg.length pc, .slice ma s.mate.length mc] 41)) (fun iv _ => s.pg.length - (intOf iv).toNat)
  case atStart => exact ⟨0, by omega, rfl, Lib.hid rfl, Lib.hid (Qw.al (Qw.refl w) _), Lib.hid (Bx.new w _ _)⟩
  case round =>
    obtain ⟨k, hk, rfl, HE, HQ, HX⟩ := hrel
    have x1 := HX.out.cell' 1 (.slice pa s.pg.length pc) rfl
    have h63 : (k : Int) ≤ 9223372036854775806 := by omega
    by_cases hlt : k < s.pg.length
    · obtain ⟨g, hpa, gl, c0, c1, c2⟩ := (HL.out.kept HQ.out).prog hlt
      subst hpa
      have gn : g ≠ wr.heap.size := by omega
      have hlt' : (k : Int) < (s.pg.length : Int) := by omega
      have st := Lb.fnd_drop s.pg n hlt
      by_cases e : s.pg[k].num = n
      · have R : Hid (Lb.fnd s.pg n 0 = some k) := Lib.hid (by rw [HE.out, st, if_pos e])
        rw [e] at c0
        clear st e HE
        generalize s.pg[k].first = j1 at c1
        generalize s.pg[k].fin = j2 at c2
        go_wp2
        exact bodyPost_ret (v := .tuple #[.int .i64 (k : Nat), .bool true]) (by simp [results, Tryd.results21, go_sem]) rfl ⟨by rw [R.out]; rfl, HQ.out⟩
      · have R : Hid (Lb.fnd s.pg n 0 = Lb.fnd (s.pg.drop (k + 1)) n (k + 1)) := Lib.hid (by rw [HE.out, st, if_neg e])
        clear st HE
        generalize s.pg[k].num = j0 at c0 e
        generalize s.pg[k].first = j1 at c1
        generalize s.pg[k].fin = j2 at c2
        go_wp2
        go_roundw
        case measure => simp [intOf]; omega
        case rel => exact ⟨k + 1, by omega, by go_num, R, HQ, HX⟩
    · obtain rfl : k = s.pg.length := by omega
      have hb : ¬ (s.pg.length : Int) < (s.pg.length : Int) := by omega
      have R : Hid (Lb.fnd s.pg n 0 = none) := Lib.hid (by rw [HE.out, Lb.fnd_end])
      clear HE
      go_wp2
      exact bodyPost_ret (v := .tuple #[.int .i64 0, .bool false]) (by simp [results, Tryd.results21, go_sem]) rfl ⟨by rw [R.out]; rfl, HQ.out⟩
end
end Go.Proofs.YtlgdjbabbfdngaaDoor
set_option linter.unusedVariables false
set_option linter.unusedSimpArgs false
namespace Go.Proofs.YtlgdjbabbfdngaaDoor.Sy
def wdv (w : Int × Ex) : Bool := isw w.1 && rgt w.2
def rvl (b : Bl) : Bool :=
  (decide (0 ≤ b.kind) && decide (b.kind ≤ 6) && decide (0 ≤ b.label) && decide (b.label ≤ 99999) && decide (b.words.length ≤ 24) && (decide (b.kind = 0) || decide (b.words.length = 0))) && (b.words.all wdv && ((if b.kind = 1 ∨ b.kind = 3 then rgt b.left else noneB b.left) && (if b.kind = 1 ∨ b.kind = 3 ∨ b.kind = 2 ∨ b.kind = 4 then rgt b.x else noneB b.x) && (if b.kind = 4 ∨ b.kind = 5 then cnt b.n 3 else if b.kind = 6 then cnt b.n 99999 else decide (b.n = 0))))
theorem none_dep (x : Ex) : (noneB x && depB x) = noneB x := by
  cases h : noneB x with
  | false => rfl
  | true => rw [noneB_eq h]; exact dpt_zx
theorem all_wdv (ws : List (Int × Ex)) : ws.all wdv = (ws.all (fun w => isw w.1 && okx w.2) && ws.all (fun w => depB w.2)) := by
  induction ws with
  | nil => rfl
  | cons w ws ih =>
    rw [List.all_cons, List.all_cons, List.all_cons, ih]
    unfold wdv rgt
    cases isw w.1 <;> cases okx w.2 <;> cases depB w.2 <;> simp
theorem lab_eq (l : Int) : (decide (l = 0) || cnt l 99999) = (decide (0 ≤ l) && decide (l ≤ 99999)) := by
  unfold cnt
  rw [Bool.eq_iff_iff]
  simp only [Bool.or_eq_true, Bool.and_eq_true, decide_eq_true_eq]
  omega
theorem len0 (ws : List (Int × Ex)) : decide (ws = []) = decide (ws.length = 0) := by cases ws <;> simp
set_option maxHeartbeats 4000000 in
theorem rvl_eq (b : Bl) : rvl b = vldb b := by
  obtain ⟨kind, label, skip, words, left, x, n⟩ := b
  unfold rvl vldb okb limb
  simp only [lab_eq, all_wdv, len0]
  have e1 := none_dep left
  have e2 := none_dep x
  unfold rgt
  generalize noneB left = nl at *
  generalize noneB x = nx at *
  generalize depB left = dl at *
  generalize depB x = dx at *
  generalize okx left = ol at *
  generalize okx x = ox at *
  generalize (words.all fun w => depB w.2) = wd at *
  have e3 : decide (words.length = 0) = true → words.all (fun w => isw w.1 && okx w.2) = true := by
    intro h; have := of_decide_eq_true h; rw [List.length_eq_zero_iff.1 this]; rfl
  have e4 : decide (words.length = 0) = true → decide (words.length ≤ 24) = true := by
    intro h; have := of_decide_eq_true h; exact decide_eq_true (by omega)
  generalize (words.all fun w => isw w.1 && okx w.2) = wo at *
  generalize decide (words.length = 0) = w0 at *
  generalize decide (words.length ≤ 24) = w24 at *
  generalize decide (0 ≤ label) = l0 at *
  generalize decide (label ≤ 99999) = l9 at *
  by_cases h0 : kind = 0
  · subst h0
    simp
    generalize decide (n = 0) = n0
    skip
    revert e1 e2 e3 e4
    cases nl <;> cases nx <;> cases dl <;> cases dx <;> cases wd <;> cases wo <;> cases w0 <;> cases w24 <;> cases l0 <;> cases l9 <;> cases n0 <;> decide
  by_cases h1 : kind = 1
  · subst h1
    simp
    generalize decide (n = 0) = n0
    clear e1 e2
    revert e3 e4
    cases ol <;> cases ox <;> cases dl <;> cases dx <;> cases wd <;> cases wo <;> cases w0 <;> cases w24 <;> cases l0 <;> cases l9 <;> cases n0 <;> decide
  by_cases h2 : kind = 2
  · subst h2
    simp
    generalize decide (n = 0) = n0
    clear e2
    revert e1 e3 e4
    cases nl <;> cases dl <;> cases ox <;> cases dx <;> cases wd <;> cases wo <;> cases w0 <;> cases w24 <;> cases l0 <;> cases l9 <;> cases n0 <;> decide
  by_cases h3 : kind = 3
  · subst h3
    simp
    generalize decide (n = 0) = n0
    clear e1 e2
    revert e3 e4
    cases ol <;> cases ox <;> cases dl <;> cases dx <;> cases wd <;> cases wo <;> cases w0 <;> cases w24 <;> cases l0 <;> cases l9 <;> cases n0 <;> decide
  by_cases h4 : kind = 4
  · subst h4
    simp
    generalize cnt n 3 = n0
    clear e2
    revert e1 e3 e4
    cases nl <;> cases dl <;> cases ox <;> cases dx <;> cases wd <;> cases wo <;> cases w0 <;> cases w24 <;> cases l0 <;> cases l9 <;> cases n0 <;> decide
  by_cases h5 : kind = 5
  · subst h5
    simp
    generalize cnt n 3 = n0
    skip
    revert e1 e2 e3 e4
    cases nl <;> cases nx <;> cases dl <;> cases dx <;> cases wd <;> cases wo <;> cases w0 <;> cases w24 <;> cases l0 <;> cases l9 <;> cases n0 <;> decide
  by_cases h6 : kind = 6
  · subst h6
    simp
    generalize cnt n 99999 = n0
    skip
    revert e1 e2 e3 e4
    cases nl <;> cases nx <;> cases dl <;> cases dx <;> cases wd <;> cases wo <;> cases w0 <;> cases w24 <;> cases l0 <;> cases l9 <;> cases n0 <;> decide
  · have a : (decide (0 ≤ kind) && decide (kind ≤ 6)) = false := by
      rw [Bool.and_eq_false_iff]
      by_cases h : 0 ≤ kind
      · right; exact decide_eq_false (by omega)
      · left; exact decide_eq_false h
    simp only [a, Bool.false_and, h0, h1, h2, h3, h4, h5, h6, if_false, or_self, Bool.and_false]
end Go.Proofs.YtlgdjbabbfdngaaDoor.Sy
set_option linter.unusedVariables false
set_option linter.unusedSimpArgs false
namespace Go.Proofs.YtlgdjbabbfdngaaDoor
open Go.RowKit
theorem rw_kids0 {op : Int} (h : op = 0) (w : World) : Calls Tryd.prog 68 #[.int .i64 op] w fun e w' => e = .returned (.int .i64 0) ∧ w = w' := by
  subst h
  go_enter Tryd.func68, Tryd.ntmps68
  go_wp2_with fail
  go_ret
  exact ⟨rfl, rfl⟩
theorem rw_kids1 {op : Int} (h : op = 11) (w : World) : Calls Tryd.prog 68 #[.int .i64 op] w fun e w' => e = .returned (.int .i64 2) ∧ w = w' := by
  subst h
  go_enter Tryd.func68, Tryd.ntmps68
  go_wp2_with fail
  go_ret
  exact ⟨rfl, rfl⟩
theorem rw_kids2 {op : Int} (h : op = 1) (w : World) : Calls Tryd.prog 68 #[.int .i64 op] w fun e w' => e = .returned (.int .i64 1) ∧ w = w' := by
  subst h
  go_enter Tryd.func68, Tryd.ntmps68
  go_wp2_with fail
  go_ret
  exact ⟨rfl, rfl⟩
theorem rw_kids3 {op : Int} (h : op = 2) (w : World) : Calls Tryd.prog 68 #[.int .i64 op] w fun e w' => e = .returned (.int .i64 1) ∧ w = w' := by
  subst h
  go_enter Tryd.func68, Tryd.ntmps68
  go_wp2_with fail
  go_ret
  exact ⟨rfl, rfl⟩
theorem rw_kids4 {op : Int} (h : 3 ≤ op ∧ op ≤ 7) (w : World) : Calls Tryd.prog 68 #[.int .i64 op] w fun e w' => e = .returned (.int .i64 2) ∧ w = w' := by
  obtain ⟨h1, h2⟩ := h
  have b0 : (op == 0) = false := beq_eq_false_iff_ne.2 (by omega)
  go_enter Tryd.func68, Tryd.ntmps68
  go_wp2_with fail
  go_ret
  exact ⟨rfl, rfl⟩
theorem rw_kids5 {op : Int} (h : 17 ≤ op ∧ op ≤ 25) (w : World) : Calls Tryd.prog 68 #[.int .i64 op] w fun e w' => e = .returned (.int .i64 2) ∧ w = w' := by
  obtain ⟨h1, h2⟩ := h
  have b0 : (op == 0) = false := beq_eq_false_iff_ne.2 (by omega)
  have b1 : (op == 11) = false := beq_eq_false_iff_ne.2 (by omega)
  have h3 : (3 : Int) ≤ op := by omega
  have h4 : ¬ op ≤ 7 := by omega
  go_enter Tryd.func68, Tryd.ntmps68
  go_wp2_with fail
  go_ret
  exact ⟨rfl, rfl⟩
theorem rw_kids6 {op : Int} (h : 8 ≤ op ∧ op ≤ 10) (w : World) : Calls Tryd.prog 68 #[.int .i64 op] w fun e w' => e = .returned (.int .i64 1) ∧ w = w' := by
  obtain ⟨h1, h2⟩ := h
  have b0 : (op == 0) = false := beq_eq_false_iff_ne.2 (by omega)
  have b1 : (op == 11) = false := beq_eq_false_iff_ne.2 (by omega)
  have h3 : (3 : Int) ≤ op := by omega
  have h4 : ¬ op ≤ 7 := by omega
  have h5 : ¬ (17 : Int) ≤ op := by omega
  go_enter Tryd.func68, Tryd.ntmps68
  go_wp2_with fail
  go_ret
  exact ⟨rfl, rfl⟩
theorem rw_kids7 {op : Int} (h : 12 ≤ op ∧ op ≤ 16) (w : World) : Calls Tryd.prog 68 #[.int .i64 op] w fun e w' => e = .returned (.int .i64 1) ∧ w = w' := by
  obtain ⟨h1, h2⟩ := h
  have b0 : (op == 0) = false := beq_eq_false_iff_ne.2 (by omega)
  have b1 : (op == 11) = false := beq_eq_false_iff_ne.2 (by omega)
  have h3 : (3 : Int) ≤ op := by omega
  have h4 : ¬ op ≤ 7 := by omega
  have h5 : ¬ (17 : Int) ≤ op := by omega
  go_enter Tryd.func68, Tryd.ntmps68
  go_wp2_with fail
  go_ret
  exact ⟨rfl, rfl⟩
theorem rw_kids (o : Nat) (ho : o < 26) (w : World) : Calls Tryd.prog 68 #[.int .i64 (o : Int)] w fun e w' => e = .returned (.int .i64 (Sy.kds o : Nat)) ∧ w = w' := by
  rcases Sy.kds_le o ho with k | k | k
  · have := Sy.kds_0 o ho k
    rw [k]; exact rw_kids0 (by omega) w
  · rw [k]
    rcases Sy.kds_1 o ho k with h | h | h | h
    · exact rw_kids2 (by omega) w
    · exact rw_kids3 (by omega) w
    · exact rw_kids6 (by omega) w
    · exact rw_kids7 (by omega) w
  · rw [k]
    rcases Sy.kds_2 o ho k with h | h | h
    · exact rw_kids4 (by omega) w
    · exact rw_kids1 (by omega) w
    · exact rw_kids5 (by omega) w
end Go.Proofs.YtlgdjbabbfdngaaDoor
set_option linter.unusedVariables false
set_option linter.unusedSimpArgs false
namespace Go.Proofs.YtlgdjbabbfdngaaDoor
open Go.RowKit
set_option maxRecDepth 100000 in
set_option maxHeartbeats 4000000 in
theorem rw_rightWithin (k : Nat) : ∀ (op n : Int) (ks : List Sy.Ex) (a : Option Addr) (cap : Nat) (S : Nat → Prop) (w : World), k ≤ 16 → KidsB w S a cap ks →
    Calls Tryd.prog 67 #[.agg #[.int .i64 op, .int .i64 n, .slice a ks.length cap], .int .i64 (k : Int)] w fun e w' => e = .returned (.bool (Sy.rgw k (.mk op n ks))) ∧ Qw w w' := by
  induction k with
  | zero =>
    intro op n ks a cap S w _ hk
    obtain ⟨l1, l2⟩ := hk.cap
    have KD : Hid (∀ w : World, Calls Tryd.prog 68 #[.int .i64 0] w fun e w' => e = .returned (.int .i64 0) ∧ w = w') := Lib.hid fun w => rw_kids0 rfl w
    clear hk
    go_enter Tryd.func67, Tryd.ntmps67
    go_wp2_with fail
    refine region_deep (by kernel_rfl) (by as_aux_lemma => kernel_rfl) ?_
    repeat (go_big_quiet_step ((go_at_call 68; exact Calls.quiet_of_same ((KD.out _).mono fun _ _ ⟨h1, h2⟩ => ⟨h1, h2.symm⟩))))
    refine wpQuiet_nil ?_
    intro _ hw'
    obtain ⟨nq, hw''⟩ := hw'
    subst hw''
    go_wp2_with fail
    go_ret
    exact ⟨rfl, Qz⟩
  | succ k ih =>
    intro op n ks a cap S w hk16 hk
    obtain ⟨l1, l2⟩ := hk.cap
    have k1 : ((k + 1 : Nat) : Int) = (k : Int) + 1 := by omega
    rw [k1]
    have b0 : decide ((k : Int) + 1 < 1) = false := decide_eq_false (by omega)
    by_cases c1 : op < 0
    · have e : Sy.rgw (k + 1) (.mk op n ks) = false := by rw [Sy.rgw]; show (Sy.nodeB op n ks.length && _) = _; rw [node_no (.inl c1)]; rfl
      rw [e]
      have d1 : decide (op < 0) = true := decide_eq_true c1
      have KD : Hid (∀ w : World, Calls Tryd.prog 68 #[.int .i64 0] w fun e w' => e = .returned (.int .i64 0) ∧ w = w') := Lib.hid fun w => rw_kids0 rfl w
      clear e hk ih k1
      go_enter Tryd.func67, Tryd.ntmps67
      go_wp2_with fail
      refine region_deep (by kernel_rfl) (by as_aux_lemma => kernel_rfl) ?_
      repeat (go_big_quiet_step ((go_at_call 68; exact Calls.quiet_of_same ((KD.out _).mono fun _ _ ⟨h1, h2⟩ => ⟨h1, h2.symm⟩))))
      refine wpQuiet_nil ?_
      intro _ hw'
      obtain ⟨nq, hw''⟩ := hw'
      subst hw''
      go_wp2_with fail
      go_ret
      exact ⟨rfl, Qz⟩
    · have d1 : decide (op < 0) = false := decide_eq_false c1
      by_cases c2 : 25 < op
      · have e : Sy.rgw (k + 1) (.mk op n ks) = false := by rw [Sy.rgw]; show (Sy.nodeB op n ks.length && _) = _; rw [node_no (.inr (by omega))]; rfl
        rw [e]
        have d2 : decide (25 < op) = true := decide_eq_true c2
        have KD : Hid (∀ w : World, Calls Tryd.prog 68 #[.int .i64 0] w fun e w' => e = .returned (.int .i64 0) ∧ w = w') := Lib.hid fun w => rw_kids0 rfl w
        clear e hk ih k1
        go_enter Tryd.func67, Tryd.ntmps67
        go_wp2_with fail
        refine region_deep (by kernel_rfl) (by as_aux_lemma => kernel_rfl) ?_
        repeat (go_big_quiet_step ((go_at_call 68; exact Calls.quiet_of_same ((KD.out _).mono fun _ _ ⟨h1, h2⟩ => ⟨h1, h2.symm⟩))))
        refine wpQuiet_nil ?_
        intro _ hw'
        obtain ⟨nq, hw''⟩ := hw'
        subst hw''
        go_wp2_with fail
        go_ret
        exact ⟨rfl, Qz⟩
      · have d2 : decide (25 < op) = false := decide_eq_false c2
        obtain ⟨o, rfl⟩ : ∃ o : Nat, op = (o : Int) := ⟨op.toNat, by omega⟩
        have ho : o < 26 := by omega
        have KD : Hid (∀ w : World, Calls Tryd.prog 68 #[.int .i64 (o : Int)] w fun e w' => e = .returned (.int .i64 (Sy.kds o : Nat)) ∧ w = w') := Lib.hid fun w => rw_kids o ho w
        clear c1 c2
        by_cases c3 : ks.length = Sy.kds o
        · have d3 : ((ks.length : Int) != (Sy.kds o : Nat)) = false := by rw [c3]; simp
          by_cases cn : n < 0
          · by_cases c5 : o = 0
            · have f0 : ((o : Int) != 0) = false := by rw [c5]; rfl
              have f2 : decide (n < 0) = true := decide_eq_true cn
              have e : Sy.rgw (k + 1) (.mk (o : Int) n ks) = false := by rw [Sy.rgw]; show (Sy.nodeB (o : Int) n ks.length && _) = _; rw [node_num (by omega) (.inr (.inl cn))]; rfl
              rw [e]
              clear e hk ih k1 c5 c3
              go_enter Tryd.func67, Tryd.ntmps67
              go_wp2_with fail
              refine region_deep (by kernel_rfl) (by as_aux_lemma => kernel_rfl) ?_
              repeat (go_big_quiet_step ((go_at_call 68; exact Calls.quiet_of_same ((KD.out _).mono fun _ _ ⟨h1, h2⟩ => ⟨h1, h2.symm⟩))))
              refine wpQuiet_nil ?_
              intro _ hw'
              obtain ⟨nq, hw''⟩ := hw'
              subst hw''
              go_wp2_with fail
              go_ret
              exact ⟨rfl, Qz⟩
            · have f0 : ((o : Int) != 0) = true := by simpa using c5
              have f1 : (n != 0) = true := by simp; omega
              have e : Sy.rgw (k + 1) (.mk (o : Int) n ks) = false := by rw [Sy.rgw]; show (Sy.nodeB (o : Int) n ks.length && _) = _; rw [node_num (by omega) (.inr (.inl cn))]; rfl
              rw [e]
              clear e hk ih k1 c5 c3
              go_enter Tryd.func67, Tryd.ntmps67
              go_wp2_with fail
              refine region_deep (by kernel_rfl) (by as_aux_lemma => kernel_rfl) ?_
              repeat (go_big_quiet_step ((go_at_call 68; exact Calls.quiet_of_same ((KD.out _).mono fun _ _ ⟨h1, h2⟩ => ⟨h1, h2.symm⟩))))
              refine wpQuiet_nil ?_
              intro _ hw'
              obtain ⟨nq, hw''⟩ := hw'
              subst hw''
              go_wp2_with fail
              go_ret
              exact ⟨rfl, Qz⟩
          · have f2 : decide (n < 0) = false := decide_eq_false cn
            by_cases c7 : 1000000000000000 ≤ n
            · have f3 : decide (1000000000000000 ≤ n) = true := decide_eq_true c7
              have e : Sy.rgw (k + 1) (.mk (o : Int) n ks) = false := by rw [Sy.rgw]; show (Sy.nodeB (o : Int) n ks.length && _) = _; rw [node_num (by omega) (.inr (.inr c7))]; rfl
              rw [e]
              by_cases c5 : o = 0
              · have f0 : ((o : Int) != 0) = false := by rw [c5]; rfl
                clear e hk ih k1 c5 c3
                go_enter Tryd.func67, Tryd.ntmps67
                go_wp2_with fail
                refine region_deep (by kernel_rfl) (by as_aux_lemma => kernel_rfl) ?_
                repeat (go_big_quiet_step ((go_at_call 68; exact Calls.quiet_of_same ((KD.out _).mono fun _ _ ⟨h1, h2⟩ => ⟨h1, h2.symm⟩))))
                refine wpQuiet_nil ?_
                intro _ hw'
                obtain ⟨nq, hw''⟩ := hw'
                subst hw''
                go_wp2_with fail
                go_ret
                exact ⟨rfl, Qz⟩
              · have f0 : ((o : Int) != 0) = true := by simpa using c5
                have f1 : (n != 0) = true := by simp; omega
                clear e hk ih k1 c5 c3
                go_enter Tryd.func67, Tryd.ntmps67
                go_wp2_with fail
                refine region_deep (by kernel_rfl) (by as_aux_lemma => kernel_rfl) ?_
                repeat (go_big_quiet_step ((go_at_call 68; exact Calls.quiet_of_same ((KD.out _).mono fun _ _ ⟨h1, h2⟩ => ⟨h1, h2.symm⟩))))
                refine wpQuiet_nil ?_
                intro _ hw'
                obtain ⟨nq, hw''⟩ := hw'
                subst hw''
                go_wp2_with fail
                go_ret
                exact ⟨rfl, Qz⟩
            · have f3 : decide (1000000000000000 ≤ n) = false := decide_eq_false c7
              by_cases cz : o ≠ 0 ∧ n ≠ 0
              · obtain ⟨c5, c4⟩ := cz
                have f0 : ((o : Int) != 0) = true := by simpa using c5
                have f1 : (n != 0) = true := by simpa using c4
                have e : Sy.rgw (k + 1) (.mk (o : Int) n ks) = false := by rw [Sy.rgw]; show (Sy.nodeB (o : Int) n ks.length && _) = _; rw [node_num c4 (.inl c5)]; rfl
                rw [e]
                clear e hk ih k1 c5 c4 c3
                go_enter Tryd.func67, Tryd.ntmps67
                go_wp2_with fail
                refine region_deep (by kernel_rfl) (by as_aux_lemma => kernel_rfl) ?_
                repeat (go_big_quiet_step ((go_at_call 68; exact Calls.quiet_of_same ((KD.out _).mono fun _ _ ⟨h1, h2⟩ => ⟨h1, h2.symm⟩))))
                refine wpQuiet_nil ?_
                intro _ hw'
                obtain ⟨nq, hw''⟩ := hw'
                subst hw''
                go_wp2_with fail
                go_ret
                exact ⟨rfl, Qz⟩
              · have hn : Sy.nodeB (o : Int) n ks.length = true := node_yes ho c3 (by
                  rcases Nat.decEq o 0 with h | h
                  · exact .inl (Classical.byContradiction fun h2 => cz ⟨h, h2⟩)
                  · by_cases h2 : n = 0
                    · exact .inl h2
                    · exact .inr ⟨h, by omega, by omega⟩)
                have hR : Sy.rgw (k + 1) (.mk (o : Int) n ks) = ks.all (Sy.rgw k) := by rw [Sy.rgw]; show (Sy.nodeB (o : Int) n ks.length && _) = _; rw [hn]; rfl
                rw [hR]
                have HK := Lib.hid hk
                have IH := Lib.hid ih
                have fz : ((o : Int) != 0) = false ∨ (((o : Int) != 0) = true ∧ (n != 0) = false) := by
                  by_cases h : o = 0
                  · exact .inl (by rw [h]; rfl)
                  · refine .inr ⟨by simpa using h, ?_⟩
                    have : n = 0 := Classical.byContradiction fun h2 => cz ⟨h, h2⟩
                    rw [this]; rfl
                clear hR hn hk ih k1 c3 cz
                rcases fz with f0 | ⟨f0, f1⟩
                all_goals
                  go_enter Tryd.func67, Tryd.ntmps67
                  go_wp2_with fail
                  refine region_deep (by kernel_rfl) (by as_aux_lemma => kernel_rfl) ?_
                  repeat (go_big_quiet_step ((go_at_call 68; exact Calls.quiet_of_same ((KD.out _).mono fun _ _ ⟨h1, h2⟩ => ⟨h1, h2.symm⟩))))
                  refine wpQuiet_nil ?_
                  intro _ hw'
                  obtain ⟨nq, hw''⟩ := hw'
                  subst hw''
                  go_wp2_with fail
                  have QS : Hid (Qw w ((w.alloc (.cells #[.int .i64 (o : Int), .int .i64 n, .slice a ks.length cap] 35)).drewN nq)) := Lib.hid (bel_drewN ((Below.refl _ _).alloc (Nat.le_refl _) _) _)
                  have XS : Hid (Bx ((w.alloc (.cells #[.int .i64 (o : Int), .int .i64 n, .slice a ks.length cap] 35)).drewN nq) w.heap.size #[.int .i64 (o : Int), .int .i64 n, .slice a ks.length cap] 35) := Lib.hid (Bx.new w _ _)
                  go_loopg [5] ks.length (fun g iv wr => ∃ i : Nat, i ≤ ks.length ∧ g = ks.length - i ∧ iv = .int .i64 (i : Int) ∧ Hid ((ks.take i).all (Sy.rgw k) = true) ∧ Hid (Bx wr w.heap.size #[.int .i64 (o : Int), .int .i64 n, .slice a ks.length cap] 35) ∧ Qw w wr)
                  case atStart => exact ⟨0, Nat.zero_le _, rfl, rfl, Lib.hid (by simp), XS, QS.out⟩
                  case round =>
                    clear XS QS
                    obtain ⟨i, hi, rfl, rfl, hT, X, hQ⟩ := hrel
                    have q0 := Lib.hid hQ
                    have xc := X.out.cell' 2 _ rfl
                    by_cases hlt : i < ks.length
                    · have hKr := HK.out.kept hQ
                      clear hQ
                      cases hKr with
                      | nl => simp at hlt
                      | mk b off cap ks ad cc hS h1 h2 hc hkk =>
                        obtain ⟨z0, z1, z2⟩ := hc i hlt
                        have KK := Lib.hid (hkk i hlt)
                        have hi2 : (i : Int) < (ks.length : Int) := by omega
                        have cr := fun w1 (h : KidsB w1 S (ad i) (cc i) ks[i].ks) => IH.out ks[i].op ks[i].n ks[i].ks (ad i) (cc i) S w1 (by omega) h
                        have eX : Sy.rgw k (.mk ks[i].op ks[i].n ks[i].ks) = Sy.rgw k ks[i] := by cases ks[i]; rfl
                        rw [eX] at cr
                        have bl := cell_lt z0
                        cases eR : Sy.rgw k ks[i] with
                        | false =>
                          rw [eR] at cr
                          have eA : Hid (ks.all (Sy.rgw k) = false) := Lib.hid (by rw [List.all_eq_false]; exact ⟨ks[i], List.getElem_mem hlt, by rw [eR]; decide⟩)
                          have CR := Lib.hid cr
                          clear cr eX eR hc hkk
                          go_wp2_with (go_at_call 67; ((with_reducible refine (CR.out _ (KidsB.kept KK.out Qz)).mono ?_); rintro e w' ⟨rfl, q⟩; replace q0 : Hid (Qw w w') := Lib.hid (Qw.trans Qz q); clear q))
                          go_ret
                          exact ⟨ret_bool5 eA.out.symm, q0.out⟩
                        | true =>
                          rw [eR] at cr
                          have hT' : Hid ((ks.take (i + 1)).all (Sy.rgw k) = true) := Lib.hid (by rw [List.take_succ_eq_append_getElem hlt, List.all_append, hT.out]; simp [eR])
                          have CR := Lib.hid cr
                          clear cr eX eR hc hkk hT
                          go_wp2_with (go_at_call 67; ((with_reducible refine (CR.out _ (KidsB.kept KK.out Qz)).mono ?_); rintro e w' ⟨rfl, q⟩; replace X := Lib.hid (Bx.kept X.out q); replace q0 : Hid (Qw w w') := Lib.hid (Qw.trans Qz q); clear q))
                          go_roundg (ks.length - (i + 1))
                          case measure => omega
                          case rel => exact ⟨i + 1, by omega, rfl, by go_num, hT', X, q0.out⟩
                    · obtain rfl : i = ks.length := by omega
                      clear hQ
                      have hb : ¬ (ks.length : Int) < (ks.length : Int) := by omega
                      go_wp2_with fail
                      go_ret
                      exact ⟨ret_bool5 (by have := hT.out; rw [List.take_length] at this; exact this.symm), q0.out⟩
        · have d3 : ((ks.length : Int) != (Sy.kds o : Nat)) = true := by simp; omega
          have e : Sy.rgw (k + 1) (.mk (o : Int) n ks) = false := by rw [Sy.rgw]; show (Sy.nodeB (o : Int) n ks.length && _) = _; rw [node_len c3]; rfl
          rw [e]
          clear e hk ih k1 c3
          go_enter Tryd.func67, Tryd.ntmps67
          go_wp2_with fail
          refine region_deep (by kernel_rfl) (by as_aux_lemma => kernel_rfl) ?_
          repeat (go_big_quiet_step ((go_at_call 68; exact Calls.quiet_of_same ((KD.out _).mono fun _ _ ⟨h1, h2⟩ => ⟨h1, h2.symm⟩))))
          refine wpQuiet_nil ?_
          intro _ hw'
          obtain ⟨nq, hw''⟩ := hw'
          subst hw''
          go_wp2_with fail
          go_ret
          exact ⟨rfl, Qz⟩
theorem rw_right (op n : Int) (ks : List Sy.Ex) (a : Option Addr) (cap : Nat) (S : Nat → Prop) (w : World) (hk : KidsB w S a cap ks) :
    Calls Tryd.prog 60 #[.agg #[.int .i64 op, .int .i64 n, .slice a ks.length cap]] w fun e w' => e = .returned (.bool (Sy.rgt (.mk op n ks))) ∧ Qw w w' := by
  have c := fun w1 (h : KidsB w1 S a cap ks) => rw_rightWithin 16 op n ks a cap S w1 (Nat.le_refl _) h
  rw [Sy.rgt_eq] at c
  generalize Sy.rgt (.mk op n ks) = b at *
  have HK := Lib.hid hk
  have C1 : Hid (∀ w1, KidsB w1 S a cap ks → Calls Tryd.prog 67 #[.agg #[.int .i64 op, .int .i64 n, .slice a ks.length cap], .int .i64 16] w1 fun e w' => e = .returned (.bool b) ∧ Qw w1 w') := Lib.hid c
  clear c hk
  have q0 : Hid (Qw w w) := Lib.hid (Qw.refl w)
  go_enter Tryd.func60, Tryd.ntmps60
  go_wp2_with (go_at_call 67; ((with_reducible refine (C1.out _ (KidsB.kept HK.out Qz)).mono ?_); rintro e w' ⟨rfl, q⟩; replace q0 : Hid (Qw w w') := Lib.hid (Qw.trans Qz q); clear q))
  go_ret
  exact ⟨rfl, q0.out⟩
end Go.Proofs.YtlgdjbabbfdngaaDoor

