import Derived.Test.YtfijmdaeaahodaaDoorZN0
import Derived.Test.YtfijmdaeaahodaaDoorZN1
import Derived.Test.YtfijmdaeaahodaaDoorZN2
import Derived.Test.YtfijmdaeaahodaaDoorZN3
import Derived.Test.YtfijmdaeaahodaaDoorZN6
import Derived.Test.YtfijmdaeaahodaaDoorZN9
import Derived.Test.YtfijmdaeaahodaaDoorRows
import Derived.WalkSmall
import Derived.OwnWalk
import Derived.Outline
import Derived.IntWalk
import Derived.Lib.MinMax
import Derived.WalkMore
import Derived.Deep.QuietTactic
import Derived.BigQuiet
import Derived.Maps.AppendAt
import Derived.OneCell
import Derived.Lib.Join
import Derived.Deep.Cut
import Derived.Defers
import Derived.Recover
import Derived.BigRegion
import Derived.Deep.RegionLaw
import Derived.Laws.IdiomStrings
set_option linter.unusedVariables false
set_option linter.unusedSimpArgs false
namespace Go.Proofs.YtfijmdaeaahodaaDoor
open Go.RowKit
namespace Sy
def dw (k : Nat) (ks : List Ex) (i : Nat) : Nat := 1 + dmx ((ks.take i).map (fun x => min (dpt x) k))
end Sy
end Go.Proofs.YtfijmdaeaahodaaDoor
set_option linter.unusedVariables false
set_option linter.unusedSimpArgs false
namespace Go.Proofs.YtfijmdaeaahodaaDoor
open Go.RowKit
def cells (ds : List Int) : List Value := ds.map (Value.int .u64)
end Go.Proofs.YtfijmdaeaahodaaDoor
set_option linter.unusedVariables false
set_option linter.unusedSimpArgs false
namespace Go.Proofs.YtfijmdaeaahodaaDoor
namespace Lx
def Tok.mv (d : Nat) (t : Tok) : Tok := ⟨t.k, t.n, t.p + d, t.x⟩
end Lx
end Go.Proofs.YtfijmdaeaahodaaDoor
set_option linter.unusedVariables false
set_option linter.unusedSimpArgs false
namespace Go.Proofs.YtfijmdaeaahodaaDoor
def un : Nat → Int
  | 0 => 100000 | 1 => 10000 | 2 => 1000 | 3 => 100 | 4 => 10 | 5 => 1 | _ => 0
def um : Nat → Int
  | 0 => 1000000 | 1 => 100000 | 2 => 10000 | 3 => 1000 | 4 => 100 | 5 => 10 | _ => 1
theorem k6 {k : Nat} (h : k ≤ 6) : k = 0 ∨ k = 1 ∨ k = 2 ∨ k = 3 ∨ k = 4 ∨ k = 5 ∨ k = 6 := by omega
def dn (f : Int) (k : Nat) : Int := f % um k / un k
def kf (f : Int) : Nat := if f % 100000 = 0 then 1 else if f % 10000 = 0 then 2 else if f % 1000 = 0 then 3 else if f % 100 = 0 then 4 else if f % 10 = 0 then 5 else 6
end Go.Proofs.YtfijmdaeaahodaaDoor
set_option linter.unusedVariables false
set_option linter.unusedSimpArgs false
namespace Go.Proofs.YtfijmdaeaahodaaDoor
open Go.RowKit
theorem Bx.grown {w w' : World} {b B : Nat} {cs : Array Value} {t : TypeId} (h : Bx w b cs t) (q : w.grownBy w' (some B)) (hb : b ≠ B) : Bx w' b cs t := (q.block b h.lt (by simpa using hb)).trans h
end Go.Proofs.YtfijmdaeaahodaaDoor
set_option linter.unusedVariables false
set_option linter.unusedSimpArgs false
namespace Go.Proofs.YtfijmdaeaahodaaDoor
namespace Sy
open Lx
def sz : Ex → Nat
  | .mk op n ks => 1 + (ks.attach.map (fun ⟨k, h⟩ => sz k)).sum
theorem sz_mk (op n : Int) (ks : List Ex) : sz (.mk op n ks) = 1 + (ks.map sz).sum := by
  rw [sz]; simp
theorem sz_num (n : Int) : sz (num n) = 1 := by rw [num, sz_mk]; rfl
theorem sz_un (o : Int) (x : Ex) : sz (un o x) = 1 + sz x := by rw [un, sz_mk]; simp
theorem sz_bin (o : Int) (x y : Ex) : sz (bin o x y) = 1 + sz x + sz y := by rw [bin, sz_mk]; simp; omega
def SzR (i : Nat) (r : Rs Ex) : Prop := match r with
  | .ok x j => i + sz x ≤ j
  | .bad _ => True
theorem SzR.shut {ts : List Lx.Tok} {i : Nat} {r : Rs Ex} (h : SzR i r) : SzR i (shut ts r) := by
  cases r with
  | bad j => trivial
  | ok x j =>
    unfold Sy.shut; simp only
    by_cases e : tx ts j = [93]
    · rw [if_pos e]; unfold SzR at *; simp only at *; omega
    · rw [if_neg e]; trivial
theorem SzR.wrapU {i : Nat} {o : Int} {r : Rs Ex} (h : SzR (i + 1) r) : SzR i (wrapU o r) := by
  cases r with
  | bad j => trivial
  | ok x j => unfold SzR at *; simp only [Sy.wrapU, sz_un] at *; omega
theorem SzR.wrapB {i k : Nat} {o : Int} {x : Ex} {r : Rs Ex} (hx : i + 1 + sz x ≤ k) (h : SzR k r) : SzR i (wrapB o x r) := by
  cases r with
  | bad j => trivial
  | ok y j => unfold SzR at *; simp only [Sy.wrapB, sz_bin] at *; omega
theorem SzR.later {i k : Nat} {r : Rs Ex} (h : SzR k r) (g : i ≤ k) : SzR i r := by
  cases r with
  | bad j => trivial
  | ok y j => unfold SzR at *; simp only at *; omega
structure SzAll (ts : List Lx.Tok) (f : Nat) : Prop where
  e : ∀ l i, SzR i (pE ts f l i)
  l : ∀ l x i y j, pL ts f l x i = .ok y j → sz y + i ≤ sz x + j
  p : ∀ i, SzR i (pP ts f i)
  c : ∀ i, SzR i (pC ts f i)
  b : ∀ i, SzR i (pB ts f i)
theorem szr (ts : List Lx.Tok) : ∀ f, SzAll ts f
  | 0 => ⟨fun l i => by unfold pE; trivial, fun l x i y j e => by unfold pL at e; (cases e), fun i => by unfold pP; trivial, fun i => by unfold pC; trivial, fun i => by unfold pB; trivial⟩
  | f + 1 => by
    have ih := szr ts f
    refine ⟨fun l i => ?_, fun l x i y j e => ?_, fun i => ?_, fun i => ?_, fun i => ?_⟩
    · unfold pE
      split
      · split
        · exact SzR.wrapU (ih.e 5 (i + 1))
        · split
          · exact (ih.e 5 (i + 1)).later (by omega)
          · exact ih.p i
      · have g := ih.e (l + 1) i
        cases e : pE ts f (l + 1) i with
        | bad j => trivial
        | ok x j =>
          rw [e] at g
          unfold SzR at g
          simp only at g ⊢
          cases e2 : pL ts f l x j with
          | bad k => trivial
          | ok y k =>
            have k2 := ih.l l x j y k e2
            unfold SzR; simp only; omega
    · unfold pL at e
      cases e0 : lop l (tx ts i) with
      | none => rw [e0] at e; cases e; exact Nat.le_refl _
      | some o =>
        rw [e0] at e
        simp only at e
        have g := ih.e (l + 1) (i + 1)
        cases e1 : pE ts f (l + 1) (i + 1) with
        | bad k => rw [e1] at e; cases e
        | ok z k =>
          rw [e1] at e g
          unfold SzR at g
          simp only at e g
          by_cases h2 : l = 2
          · rw [if_pos h2] at e; cases e; rw [sz_bin]; omega
          · rw [if_neg h2] at e
            have k2 := ih.l l _ _ _ _ e
            rw [sz_bin] at k2; omega
    · unfold pP
      split
      · have g := ih.b (i + 1)
        cases e1 : pB ts f (i + 1) with
        | bad j => trivial
        | ok x j =>
          rw [e1] at g
          unfold SzR at g
          simp only at g ⊢
          by_cases e2 : tx ts j = [47]
          · rw [if_pos e2]
            exact SzR.wrapB (k := j) (by omega) ((ih.b (j + 1)).later (by omega))
          · rw [if_neg e2]; trivial
      · cases e1 : fun1 (tx ts i) with
        | none => exact ih.c i
        | some o => exact SzR.wrapU (ih.b (i + 1))
    · unfold pC
      split
      · unfold SzR; simp only [sz_num]; omega
      · split
        · exact SzR.wrapU (ih.c (i + 1))
        · exact ih.b i
    · unfold pB
      split
      · exact SzR.shut ((ih.e 0 (i + 1)).later (by omega))
      · trivial
end Sy
end Go.Proofs.YtfijmdaeaahodaaDoor
set_option linter.unusedVariables false
set_option linter.unusedSimpArgs false
namespace Go.Proofs.YtfijmdaeaahodaaDoor
namespace Sy
structure Fwn (b : Bl) : Prop where
  v : vldb b = true
  dl : dpt b.left ≤ 4
  dx : dpt b.x ≤ 4
  wl : b.words.length ≤ 4
  dw : ∀ w ∈ b.words, dpt w.2 ≤ 2
theorem vld_parts {b : Bl} (h : vldb b = true) : okb b = true ∧ limb b = true := by
  unfold vldb at h; simpa using h
theorem Fwn.loop {b : Bl} (h : Fwn b) (hk : b.kind = 4 ∨ b.kind = 5) {n : Int} (n1 : 1 ≤ n) (n3 : n ≤ 3) : Fwn { b with n := n } := by
  obtain ⟨h1, h2⟩ := vld_parts h.v
  refine ⟨?_, h.dl, h.dx, h.wl, h.dw⟩
  unfold vldb
  have : okb { b with n := n } = true := by
    unfold okb at h1 ⊢
    simp only [Bool.and_eq_true] at h1 ⊢
    refine ⟨h1.1, ?_⟩
    have h3 := h1.2
    have c : cnt n 3 = true := by simp [cnt]; omega
    rcases hk with hk | hk
    · simp only [hk] at h3 ⊢
      simp at h3 ⊢
      exact ⟨h3.1, h3.2.1, c⟩
    · simp only [hk] at h3 ⊢
      simp at h3 ⊢
      exact ⟨h3.1, h3.2.1, c⟩
  rw [this]
  exact h2
theorem fwn_end {n : Int} (n1 : 1 ≤ n) (n3 : n ≤ 3) : Fwn ⟨5, 0, false, [], zx, zx, n⟩ := ⟨by
  unfold vldb okb limb
  have : cnt n 3 = true := by simp [cnt]; omega
  simp [this, noneB_zx, dpt_zx], by rw [show dpt zx = 1 from dpt_zx']; decide, by rw [show dpt zx = 1 from dpt_zx']; decide, by simp, by simp⟩
end Sy
end Go.Proofs.YtfijmdaeaahodaaDoor
set_option linter.unusedVariables false
set_option linter.unusedSimpArgs false
namespace Go.Proofs.YtfijmdaeaahodaaDoor
open Go.RowKit
structure LibX (w : World) (S : Nat → Prop) (B : Nat) (ba : Option Addr) (bc : Nat) (pa : Option Addr) (pc : Nat) (ma : Option Addr) (mc : Nat) (bs : List Sy.Bl) (s : Lb.St) : Prop where
  b : BlksB w S ba bc bs
  p : OwnG B w 56 3 (.slice pa s.pg.length pc) (s.pg.map pcell)
  m : OwnG B w 3 1 (.slice ma s.mate.length mc) (s.mate.map icell)
theorem LibX.kept {w w' : World} {S : Nat → Prop} {B : Nat} {ba pa ma : Option Addr} {bc pc mc : Nat} {bs : List Sy.Bl} {s : Lb.St} (h : LibX w S B ba bc pa pc ma mc bs s) (q : Qw w w') : LibX w' S B ba bc pa pc ma mc bs s := ⟨h.b.kept q, h.p.go fun g _ hl => q.block g hl, h.m.go fun g _ hl => q.block g hl⟩
def BdY (w : World) (bs : List Sy.Bl) (s : Lb.St) (e : Ending) (w' : World) : Prop := ∃ ba bc pa pc ma mc, e = .returned (.tuple #[.agg #[.slice ba bs.length bc, .slice pa s.pg.length pc, .slice ma s.mate.length mc], .int .i64 (bs.length : Nat), .int .i64 0]) ∧ LibX w' (fun b => w.heap.size ≤ b) w.heap.size ba bc pa pc ma mc bs s ∧ Qw w w'
def BdN (w : World) (j : Nat) (er : Int) (e : Ending) (w' : World) : Prop := e = .returned (.tuple #[.agg #[.slice none 0 0, .slice none 0 0, .slice none 0 0], .int .i64 (j : Nat), .int .i64 er]) ∧ Qw w w'
theorem build_ok {bs : List Sy.Bl} {s : Lb.St} (hb : Lb.build bs = .ok s) (a : Option Addr) (cap : Nat) (S : Nat → Prop) (w : World) (hO : Ow w) (h : BlksB w S a cap bs) : Calls Tryd.prog 20 #[.slice a bs.length cap] w (BdY w bs s) := (lb_build bs a cap S w hO h).mono (by
  rintro e w' ⟨h1, q⟩
  rw [hb] at h1
  obtain ⟨v, rfl, ba, bc, pv, mv, rfl, k1, k2, k3⟩ := h1
  obtain ⟨pa, pc, rfl, _⟩ := k2.form
  obtain ⟨ma, mc, rfl, _⟩ := k3.form
  rw [List.length_map] at k2 k3
  refine ⟨ba, bc, pa, pc, ma, mc, ?_, ⟨k1, k2, k3⟩, q⟩
  simp only [List.length_map])
theorem build_bad {bs : List Sy.Bl} {j : Nat} {er : Int} (hb : Lb.build bs = .bad j er) (a : Option Addr) (cap : Nat) (S : Nat → Prop) (w : World) (hO : Ow w) (h : BlksB w S a cap bs) : Calls Tryd.prog 20 #[.slice a bs.length cap] w (BdN w j er) := (lb_build bs a cap S w hO h).mono (by
  rintro e w' ⟨h1, q⟩
  rw [hb] at h1
  exact ⟨h1, q⟩)
def plB (k n : Int) (x : Sy.Ex) : Bi := ⟨⟨k, 0, false, [], Sy.zx, x, n⟩, none, 0, none, 0, none, 0⟩
theorem lit_blocks {w : World} {g : Nat} {ds : List Bi} {cs : Array Value} {t : TypeId} {cap : Nat} (X : Bx w g cs t) (hc : ∀ i (h : i < ds.length) j u, (bicell ds[i])[j]? = some u → cs[i * 11 + j]? = some u) (h0 : ∀ d ∈ ds, d.b.words = [] ∧ d.b.left.ks = [] ∧ d.b.x.ks = [] ∧ d.wa = none ∧ d.wc = 0 ∧ d.la = none ∧ d.lc = 0 ∧ d.xa = none ∧ d.xc = 0) (hcap : ds.length ≤ cap) (hcl : cap ≤ 9223372036854775807) : BlksB w (fun b => b < w.heap.size) (some ⟨g, 0, none⟩) cap (ds.map Bi.b) := by
  refine ⟨by rw [List.length_map]; exact hcap, hcl, .inr ⟨g, 0, fun i => ds.getD i default, rfl, X.lt, fun i hi => ?_⟩⟩
  have hi' : i < ds.length := by simpa using hi
  have e1 : ds.getD i default = ds[i] := by rw [List.getD_eq_getElem?_getD, List.getElem?_eq_getElem hi']; rfl
  dsimp only
  rw [e1, Nat.zero_add]
  obtain ⟨a1, a2, a3, a4, a5, a6, a7, a8, a9⟩ := h0 _ (List.getElem_mem hi')
  refine ⟨by simp, ⟨?_, ?_, ?_⟩, fun j u hj => X.cell' _ u (hc i hi' j u hj)⟩
  · rw [a1, a4, a5]; exact WordsB.nil _ _
  · rw [a2, a6, a7]; exact KidsB.nl none 0 (by decide)
  · rw [a3, a8, a9]; exact KidsB.nl none 0 (by decide)
theorem build_nil : Lb.build [] = .ok Lb.st0 := by
  unfold Lb.build
  rw [if_neg (by simp)]
  rfl
theorem build_end : Lb.build [(plB 5 1 Sy.zx).b] = .bad 0 11 := by
  unfold Lb.build
  rw [if_neg (by simp), Lb.inv_none (by intro b hb; rw [List.mem_singleton.1 hb]; exact (Sy.fwn_end (n := 1) (by decide) (by decide)).v)]
  rfl
theorem end_call (w : World) (hO : Ow w) (g : Nat) {t : TypeId} (X : Bx w g #[.int .i64 5, .int .i64 0, .bool false, .slice none 0 0, .int .i64 0, .int .i64 0, .slice none 0 0, .int .i64 0, .int .i64 0, .slice none 0 0, .int .i64 1] t) : Calls Tryd.prog 20 #[.slice (some ⟨g, 0, none⟩) 1 1] w (BdN w 0 11) :=
  build_bad build_end (some ⟨g, 0, none⟩) 1 _ w hO (lit_blocks (ds := [plB 5 1 Sy.zx]) X (by
    intro i hi j u hj
    obtain rfl : i = 0 := by simpa using hi
    rw [Nat.zero_mul, Nat.zero_add]
    show (bicell (plB 5 1 Sy.zx)).toArray[j]? = some u
    rw [List.getElem?_toArray]
    exact hj) (by intro d hd; rw [List.mem_singleton.1 hd]; exact ⟨rfl, rfl, rfl, rfl, rfl, rfl, rfl, rfl, rfl⟩) (by decide) (by decide))
def NilR (w : World) (e : Ending) (w' : World) : Prop := ∃ ba bc pa pc ma mc, e = .returned (.tuple #[.agg #[.slice ba 0 bc, .slice pa 1 pc, .slice ma 0 mc], .int .i64 0, .int .i64 0]) ∧ Qw w w'
theorem nil_call (w : World) (hO : Ow w) : Calls Tryd.prog 20 #[.slice none 0 0] w (NilR w) := (build_ok build_nil none 0 (fun _ => True) w hO (BlksB.nil _ _)).mono (by
  intro e w' h
  obtain ⟨ba, bc, pa, pc, ma, mc, rfl, _, q⟩ := h
  exact ⟨ba, bc, pa, pc, ma, mc, rfl, q⟩)
set_option maxRecDepth 100000 in
set_option maxHeartbeats 4000000 in
theorem awake9 (w : World) (hO : Ow w) : Calls Tryd.prog 14 #[] w fun e w' => e = .returned (.bool true) ∧ Qw w w' := by
  have C1 := Lib.hid (nil_call w hO)
  have C2 := Lib.hid (fun w2 (q : Qw w w2) g t X => end_call w2 (hO.kept q) g (t := t) X)
  clear hO
  go_enter Tryd.func14, Tryd.ntmps14
  go_wp2_with (go_at_call 20; refine C1.out.mono ?_)
  intro e w1 h1
  obtain ⟨ba, bc, pa, pc, ma, mc, rfl, q1⟩ := h1
  have Q1 := Lib.hid q1
  clear q1
  have sz : ∀ o : Obj, (w1.alloc o).heap.size = w1.heap.size + 1 := fun o => by simp
  have XE := Bx.new (w1.alloc (.cells #[.slice ba 0 bc, .slice pa 1 pc, .slice ma 0 mc] 41)) #[.int .i64 5, .int .i64 0, .bool false, .slice none 0 0, .int .i64 0, .int .i64 0, .slice none 0 0, .int .i64 0, .int .i64 0, .slice none 0 0, .int .i64 1] 37
  rw [sz] at XE
  have C3 := Lib.hid (C2.out _ (Qw.al (Qw.al Q1.out _) _) _ _ XE)
  clear XE sz
  go_wp2_with (go_at_call 20; refine C3.out.mono ?_)
  intro e w2 h2
  obtain ⟨rfl, q2⟩ := h2
  have X1 := ((Bx.new w1 #[.slice ba 0 bc, .slice pa 1 pc, .slice ma 0 mc] 41).alloc (.cells #[.int .i64 5, .int .i64 0, .bool false, .slice none 0 0, .int .i64 0, .int .i64 0, .slice none 0 0, .int .i64 0, .int .i64 0, .slice none 0 0, .int .i64 1] 37)).kept q2
  have x1 := X1.cell' 1 (.slice pa 1 pc) rfl
  have hl := X1.lt
  have hn : w1.heap.size ≠ w2.heap.size := by omega
  have QF : Hid (Qw w w2) := Lib.hid (Qw.trans (Qw.al (Qw.al Q1.out _) _) q2)
  clear X1 C1 C2 q2
  go_wp2
  go_ret
  exact ⟨rfl, (by repeat (first | exact QF.out | refine Qw.al ?_ _))⟩
end Go.Proofs.YtfijmdaeaahodaaDoor

