import Derived.Test.YtlgdjbabbfdngaaDoorRows
import Derived.WalkKit
import Derived.BigQuiet
import Derived.Deep.QuietTactic
import Derived.Lib.Hide
import Derived.Laws.Externs
import Derived.Lib.ItoaNum
import Derived.Below
import Derived.Lib.Bytealg
import Derived.Deep.MidRow
import Derived.Lib.Strings
import Derived.Outline
import Derived.IntWalk
import Derived.Lib.MinMax
import Derived.Lib.QuietBelow
import Derived.StillTailTactics
import Derived.WalkLawsBesides
import Derived.OwnWalk
import Derived.OneCell
set_option linter.unusedVariables false
set_option linter.unusedSimpArgs false
namespace Go.Proofs.YtlgdjbabbfdngaaDoor.Mth
def isq : Nat → Nat
  | 0 => 0
  | n + 1 => if (isq n + 1) * (isq n + 1) ≤ n + 1 then isq n + 1 else isq n
def rt (n : Int) : Int := (isq n.toNat : Int)
end Go.Proofs.YtlgdjbabbfdngaaDoor.Mth
set_option linter.unusedVariables false
set_option linter.unusedSimpArgs false
namespace Go.Proofs.YtlgdjbabbfdngaaDoor
open Go.RowKit
theorem ret_i64 {a b : Int} (h : a = b) : Ending.returned (.int .i64 a) = .returned (.int .i64 b) := by rw [h]
def restR (q o l n : Int) : Int := if o = 0 ∧ l = 0 then 0 else if o < q ∨ o = q ∧ 4 * l < n then 1 else if o = q ∧ 4 * l = n then 2 else 3
end Go.Proofs.YtlgdjbabbfdngaaDoor
set_option linter.unusedVariables false
set_option linter.unusedSimpArgs false
namespace Go.Proofs.YtlgdjbabbfdngaaDoor
open Go.RowKit
def dr (hi lo y : Int) : Int := (hi * 18446744073709551616 + lo) % y
end Go.Proofs.YtlgdjbabbfdngaaDoor
set_option linter.unusedVariables false
set_option linter.unusedSimpArgs false
namespace Go.Proofs.YtlgdjbabbfdngaaDoor
open Go.RowKit
def rr (N n : Int) : Int := restR (Mth.rt (N / n)) (N / n - Mth.rt (N / n) * Mth.rt (N / n)) (N % n) n
end Go.Proofs.YtlgdjbabbfdngaaDoor
set_option linter.unusedVariables false
set_option linter.unusedSimpArgs false
namespace Go.Proofs.YtlgdjbabbfdngaaDoor
open Go.RowKit
def Qw (w w' : World) : Prop := Below w.heap.size w w'
theorem Qw.refl (w : World) : Qw w w := Below.refl _ _
theorem Qw.trans {a b c : World} (h : Qw a b) (k : Qw b c) : Qw a c := Below.trans h (Below.mono k h.size)
theorem Qw.drewN (w : World) (n : Nat) : Qw w (w.drewN n) := ⟨rfl, rfl, rfl, Nat.le_refl _, fun _ _ => rfl⟩
theorem tmod_of (v n : Int) (n1 : 1 ≤ n) : 0 ≤ v % n ∧ v % n < n ∧ (v.tmod n = v % n ∨ v < 0 ∧ v.tmod n = v % n - n) ∧ (0 ≤ v → v.tmod n = v % n) ∧ (v < 0 → v.tmod n ≤ 0) := by
  have m0 : 0 ≤ v % n := Int.emod_nonneg _ (by omega)
  have m1 : v % n < n := Int.emod_lt_of_pos _ (by omega)
  have e := Int.tmod_eq_emod (a := v) (b := n)
  refine ⟨m0, m1, ?_, ?_, ?_⟩
  · by_cases h : 0 ≤ v ∨ n ∣ v
    · left; rw [if_pos h] at e; omega
    · right; rw [if_neg h] at e; omega
  · intro h; rw [if_pos (.inl h)] at e; omega
  · intro h
    by_cases h2 : 0 ≤ v ∨ n ∣ v
    · rw [if_pos h2] at e
      have := Int.emod_eq_zero_of_dvd (h2.resolve_left (by omega))
      omega
    · rw [if_neg h2] at e; omega
theorem modW (v n : Int) (v1 : -9223372036854775808 ≤ v) (v2 : v ≤ 9223372036854775807) (n1 : 1 ≤ n) (n2 : n ≤ 9223372036854775807) (w : World) :
    Calls Tryd.prog 16 #[.int .i64 v, .int .i64 n] w fun e w' => e = .returned (.int .i64 (v % n)) ∧ w = w' := by
  have nz : (n == 0) = false := beq_eq_false_iff_ne.2 (by omega)
  have m0 : 0 ≤ v % n := Int.emod_nonneg _ (by omega)
  have m1 : v % n < n := Int.emod_lt_of_pos _ (by omega)
  go_enter Tryd.func16, Tryd.ntmps16
  go_wp2
  all_goals
    go_ret
    refine ⟨ret_i64 ?_, rfl⟩
  · rename_i h
    have := tmod_of v n n1
    unfold wrap64
    omega
  · rename_i h
    have := tmod_of v n n1
    omega
end Go.Proofs.YtlgdjbabbfdngaaDoor
set_option linter.unusedVariables false
set_option linter.unusedSimpArgs false
namespace Go.Proofs.YtlgdjbabbfdngaaDoor
open Go.RowKit
def vld (n : Int) : Bool := decide (-1000000000000000 ≤ n ∧ n ≤ 1000000000000000)
def whole (a : Int) : Bool := vld a && decide (a % 1000000 = 0)
def ln (a u : Int) : Int := if u = 20 then (2 * (a * 254) + 10000) / 20000 else (2 * a + 1000) / 2000
end Go.Proofs.YtlgdjbabbfdngaaDoor
set_option linter.unusedVariables false
set_option linter.unusedSimpArgs false
namespace Go.Proofs.YtlgdjbabbfdngaaDoor
def isd (c : UInt8) : Bool := decide (48 ≤ (c.toNat : Int) ∧ (c.toNat : Int) ≤ 57)
def vl (n : Int) : List UInt8 → Int
  | [] => n
  | c :: l => vl (n * 10 + ((c.toNat : Int) - 48)) l
def rk : List UInt8 → Nat → Nat
  | [], _ => 0
  | _ :: _, 0 => 0
  | c :: l, k + 1 => if isd c = true then rk l k + 1 else 0
def pw (l : List UInt8) : Nat := rk l 9
def pdot (l : List UInt8) : Bool := decide (pw l < l.length) && (l.getD (pw l) 0 == 46)
def pf (l : List UInt8) : Nat := if pdot l = true then rk (l.drop (pw l + 1)) 6 else 0
def pend (l : List UInt8) : Nat := if pdot l = true then pw l + 1 + pf l else pw l
def pok (l : List UInt8) : Bool := decide (pend l = l.length) && decide (pw l + pf l ≠ 0)
def pnum (l : List UInt8) : Int := vl (vl 0 (l.take (pw l))) ((l.drop (pw l + 1)).take (pf l)) * 10 ^ (6 - pf l)
end Go.Proofs.YtlgdjbabbfdngaaDoor
set_option linter.unusedVariables false
set_option linter.unusedSimpArgs false
namespace Go.Proofs.YtlgdjbabbfdngaaDoor
namespace Lx
structure Tok where
  k : Int
  n : Int
  p : Nat
  x : List UInt8
def nms : List (List UInt8) := [[73, 70], [71, 79, 84, 79], [87, 72, 73, 76, 69], [68, 79], [69, 78, 68], [69, 81], [78, 69], [71, 84], [71, 69], [76, 84], [76, 69], [65, 78, 68], [79, 82], [88, 79, 82], [77, 79, 68], [83, 73, 78], [67, 79, 83], [84, 65, 78], [65, 84, 65, 78], [83, 81, 82, 84], [65, 66, 83], [82, 79, 85, 78, 68], [70, 73, 88], [70, 85, 80]]
def nm (i : Nat) : List UInt8 := nms.getD i []
def pfx (n l : List UInt8) : Bool := decide (n.length ≤ l.length) && decide (l.take n.length = n)
def nstep (l b n : List UInt8) : List UInt8 := if (decide (b.length < n.length) && pfx n l) = true then n else b
def nfold (l : List UInt8) (k : Nat) : List UInt8 := (nms.take k).foldl (nstep l) []
def fnm (l : List UInt8) : List UInt8 := nfold l 24
def isn (c : UInt8) : Bool := isd c || (c == 46)
def isu (c : UInt8) : Bool := decide (65 ≤ (c.toNat : Int) ∧ (c.toNat : Int) ≤ 90)
def sgs : List UInt8 := [43, 45, 42, 47, 61, 35, 91, 93]
def isg (c : UInt8) : Bool := decide ((0 : Int) ≤ Lib.indexByte sgs c)
def ws (c : UInt8) : Bool := c == 32 || c == 9 || c == 13
def nrun : List UInt8 → Nat
  | [] => 0
  | c :: l => if isn c = true then nrun l + 1 else 0
structure F where
  k : Int
  n : Int
  x : List UInt8
  m : Nat
def fnum (l : List UInt8) : F := if pok (l.take (nrun l)) = true then ⟨2, pnum (l.take (nrun l)), [], nrun l⟩ else ⟨0, 0, [], 0⟩
def fst (l : List UInt8) : F :=
  if isn (l.getD 0 0) = true then fnum l
  else if isu (l.getD 0 0) = true then (if fnm l = [] then ⟨1, (l.getD 0 0).toNat, [], 1⟩ else ⟨3, 0, fnm l, (fnm l).length⟩)
  else if isg (l.getD 0 0) = true then ⟨4, 0, [l.getD 0 0], 1⟩ else ⟨0, 0, [], 0⟩
inductive Ac where
  | bad
  | skip (k : Nat)
  | tok (f : F)
def act (c : UInt8) (t : List UInt8) : Ac :=
  if ws c = true then .skip 0
  else if c = 59 then .skip t.length
  else if c = 40 then (if Lib.indexByte t 41 = -1 then .bad else .skip ((Lib.indexByte t 41).toNat + 1))
  else if (fst (c :: t)).m = 0 then .bad else .tok (fst (c :: t))
end Lx
end Go.Proofs.YtlgdjbabbfdngaaDoor
set_option linter.unusedVariables false
set_option linter.unusedSimpArgs false
namespace Go.Proofs.YtlgdjbabbfdngaaDoor
namespace Sy
open Lx
inductive Ex where
  | mk (op n : Int) (ks : List Ex)
def Ex.op : Ex → Int | .mk o _ _ => o
def Ex.n : Ex → Int | .mk _ n _ => n
def Ex.ks : Ex → List Ex | .mk _ _ k => k
theorem Ex.ind {P : Ex → Prop} (h : ∀ op n ks, (∀ k ∈ ks, P k) → P (.mk op n ks)) : ∀ x, P x
  | .mk op n ks => h op n ks (fun k _ => Ex.ind h k)
def onms : List (List UInt8) := [[], [35], [45], [43], [45], [42], [47], [77, 79, 68], [83, 73, 78], [67, 79, 83], [84, 65, 78], [65, 84, 65, 78], [83, 81, 82, 84], [65, 66, 83], [82, 79, 85, 78, 68], [70, 73, 88], [70, 85, 80], [69, 81], [78, 69], [71, 84], [71, 69], [76, 84], [76, 69], [65, 78, 68], [79, 82], [88, 79, 82]]
def onm (i : Nat) : List UInt8 := onms.getD i []
def fop (x : List UInt8) : Nat → Nat → Option Nat
  | _, 0 => none
  | lo, k + 1 => if x = onm lo then some lo else fop x (lo + 1) k
def lo : Nat → Nat
  | 0 => 24 | 1 => 23 | 2 => 17 | 3 => 3 | _ => 5
def cn : Nat → Nat
  | 0 => 2 | 1 => 1 | 2 => 6 | 3 => 2 | _ => 3
def lop (l : Nat) (x : List UInt8) : Option Nat := fop x (lo l) (cn l)
def fun1 (x : List UInt8) : Option Nat := match fop x 8 3 with
  | some o => some o
  | none => fop x 12 5
def kd (ts : List Lx.Tok) (i : Nat) : Int := match ts[i]? with | some t => t.k | none => 0
def tn (ts : List Lx.Tok) (i : Nat) : Int := match ts[i]? with | some t => t.n | none => 0
def tx (ts : List Lx.Tok) (i : Nat) : List UInt8 := match ts[i]? with | some t => t.x | none => []
def tp (ts : List Lx.Tok) (len i : Nat) : Nat := match ts[i]? with | some t => t.p | none => len
inductive Rs (α : Type) where
  | ok (x : α) (i : Nat)
  | bad (i : Nat)
def num (n : Int) : Ex := .mk 0 n []
def un (o : Int) (x : Ex) : Ex := .mk o 0 [x]
def bin (o : Int) (x y : Ex) : Ex := .mk o 0 [x, y]
def shut (ts : List Lx.Tok) : Rs Ex → Rs Ex
  | .bad j => .bad j
  | .ok x j => if tx ts j = [93] then .ok x (j + 1) else .bad j
def wrapU (o : Int) : Rs Ex → Rs Ex
  | .bad j => .bad j
  | .ok x j => .ok (un o x) j
def wrapB (o : Int) (x : Ex) : Rs Ex → Rs Ex
  | .bad j => .bad j
  | .ok y j => .ok (bin o x y) j
mutual
def pE (ts : List Lx.Tok) : Nat → Nat → Nat → Rs Ex
  | 0, _, i => .bad i
  | f + 1, l, i =>
    if l = 5 then
      if tx ts i = [45] then wrapU 2 (pE ts f 5 (i + 1))
      else if tx ts i = [43] then pE ts f 5 (i + 1)
      else pP ts f i
    else match pE ts f (l + 1) i with
      | .bad j => .bad j
      | .ok x j => pL ts f l x j
def pL (ts : List Lx.Tok) : Nat → Nat → Ex → Nat → Rs Ex
  | 0, _, _, i => .bad i
  | f + 1, l, x, i => match lop l (tx ts i) with
    | none => .ok x i
    | some o => match pE ts f (l + 1) (i + 1) with
      | .bad j => .bad j
      | .ok y j => if l = 2 then .ok (bin o x y) j else pL ts f l (bin o x y) j
def pP (ts : List Lx.Tok) : Nat → Nat → Rs Ex
  | 0, i => .bad i
  | f + 1, i =>
    if tx ts i = [65, 84, 65, 78] then match pB ts f (i + 1) with
      | .bad j => .bad j
      | .ok x j => if tx ts j = [47] then wrapB 11 x (pB ts f (j + 1)) else .bad j
    else match fun1 (tx ts i) with
      | some o => wrapU o (pB ts f (i + 1))
      | none => pC ts f i
def pC (ts : List Lx.Tok) : Nat → Nat → Rs Ex
  | 0, i => .bad i
  | f + 1, i =>
    if kd ts i = 2 then .ok (num (tn ts i)) (i + 1)
    else if tx ts i = [35] then wrapU 1 (pC ts f (i + 1))
    else pB ts f i
def pB (ts : List Lx.Tok) : Nat → Nat → Rs Ex
  | 0, i => .bad i
  | f + 1, i => if tx ts i = [91] then shut ts (pE ts f 0 (i + 1)) else .bad i
end
def fuel (ts : List Lx.Tok) : Nat := 16 * ts.length + 40
def isw (c : Int) : Bool := decide (65 ≤ c) && decide (c ≤ 90) && decide (c ≠ 78) && decide (c ≠ 79)
structure Bl where
  kind : Int
  label : Int
  skip : Bool
  words : List (Int × Ex)
  left : Ex
  x : Ex
  n : Int
def zx : Ex := .mk 0 0 []
end Sy
end Go.Proofs.YtlgdjbabbfdngaaDoor
set_option linter.unusedVariables false
set_option linter.unusedSimpArgs false
namespace Go.Proofs.YtlgdjbabbfdngaaDoor
namespace Sy
open Lx
def kdsl : List Nat := [0, 1, 1, 2, 2, 2, 2, 2, 1, 1, 1, 2, 1, 1, 1, 1, 1, 2, 2, 2, 2, 2, 2, 2, 2, 2]
def kds (o : Nat) : Nat := kdsl.getD o 0
def nodeB (op n : Int) (k : Nat) : Bool := decide (0 ≤ op) && decide (op ≤ 25) && decide (k = kds op.toNat) && (decide (n = 0) || (decide (op = 0) && decide (0 ≤ n) && decide (n < 1000000000000000)))
def okx : Ex → Bool
  | .mk op n ks => nodeB op n ks.length && ks.attach.all (fun ⟨k, h⟩ => okx k)
theorem okx_mk (op n : Int) (ks : List Ex) : okx (.mk op n ks) = (nodeB op n ks.length && ks.all okx) := by
  rw [okx]; simp
def dmx : List Nat → Nat
  | [] => 0
  | d :: l => max d (dmx l)
def dpt : Ex → Nat
  | .mk op n ks => 1 + dmx (ks.attach.map (fun ⟨k, h⟩ => dpt k))
theorem dpt_mk (op n : Int) (ks : List Ex) : dpt (.mk op n ks) = 1 + dmx (ks.map dpt) := by
  rw [dpt]; simp
inductive Form : Ex → Prop where
  | num (n : Int) (h0 : 0 ≤ n) (h1 : n < 1000000000000000) : Form (num n)
  | un (o : Nat) (x : Ex) (hx : okx x = true) (h : o = 1 ∨ o = 2 ∨ (8 ≤ o ∧ o ≤ 10) ∨ (12 ≤ o ∧ o ≤ 16)) : Form (un o x)
  | bin (o : Nat) (x y : Ex) (hx : okx x = true) (hy : okx y = true) (h : (3 ≤ o ∧ o ≤ 7) ∨ o = 11 ∨ (17 ≤ o ∧ o ≤ 25)) : Form (bin o x y)
theorem kds_0 : ∀ o, o < 26 → kds o = 0 → o = 0 := by decide
theorem kds_1 : ∀ o, o < 26 → kds o = 1 → (o = 1 ∨ o = 2 ∨ (8 ≤ o ∧ o ≤ 10) ∨ (12 ≤ o ∧ o ≤ 16)) := by decide
theorem kds_2 : ∀ o, o < 26 → kds o = 2 → ((3 ≤ o ∧ o ≤ 7) ∨ o = 11 ∨ (17 ≤ o ∧ o ≤ 25)) := by decide
theorem kds_le : ∀ o, o < 26 → kds o = 0 ∨ kds o = 1 ∨ kds o = 2 := by decide
theorem form {x : Ex} (h : okx x = true) : Form x := by
  obtain ⟨op, n, ks⟩ := x
  rw [okx_mk] at h
  simp only [nodeB, Bool.and_eq_true, Bool.or_eq_true, decide_eq_true_eq] at h
  obtain ⟨⟨⟨⟨h0, h1⟩, hk⟩, hn⟩, ha⟩ := h
  have hb : op.toNat < 26 := by omega
  have ho : (op.toNat : Int) = op := by omega
  rcases kds_le op.toNat hb with k | k | k
  · have e := kds_0 _ hb k
    rw [k] at hk
    obtain rfl := List.eq_nil_of_length_eq_zero hk
    have : op = 0 := by omega
    subst this
    exact Form.num n (by omega) (by omega)
  · have e := kds_1 _ hb k
    rw [k] at hk
    have hn0 : n = 0 := by rcases hn with hn | ⟨⟨hn, _⟩, _⟩ <;> omega
    subst hn0
    obtain ⟨x, rfl⟩ := List.length_eq_one_iff.1 hk
    have := Form.un op.toNat x (by simpa using ha) e
    rw [Sy.un, ho] at this; exact this
  · have e := kds_2 _ hb k
    rw [k] at hk
    have hn0 : n = 0 := by rcases hn with hn | ⟨⟨hn, _⟩, _⟩ <;> omega
    subst hn0
    obtain ⟨x, y, rfl⟩ : ∃ x y, ks = [x, y] := by
      match ks, hk with
      | [x, y], _ => exact ⟨x, y, rfl⟩
    simp at ha
    have := Form.bin op.toNat x y ha.1 ha.2 e
    rw [Sy.bin, ho] at this; exact this
def smp (x : Ex) : Bool := decide (x.op = 0) || decide (x.op = 1)
end Sy
end Go.Proofs.YtlgdjbabbfdngaaDoor
set_option linter.unusedVariables false
set_option linter.unusedSimpArgs false
namespace Go.Proofs.YtlgdjbabbfdngaaDoor
namespace Sy
open Lx
def noneB (x : Ex) : Bool := decide (x.op = 0) && decide (x.n = 0) && decide (x.ks.length = 0)
theorem noneB_eq {x : Ex} (h : noneB x = true) : x = zx := by
  obtain ⟨o, n, ks⟩ := x
  unfold noneB at h
  simp only [Bool.and_eq_true] at h
  obtain ⟨⟨h1, h2⟩, h3⟩ := h
  have k1 : o = 0 := of_decide_eq_true h1
  have k2 : n = 0 := of_decide_eq_true h2
  have k3 : ks.length = 0 := of_decide_eq_true h3
  rw [k1, k2, List.eq_nil_of_length_eq_zero k3]; rfl
theorem noneB_zx : noneB zx = true := rfl
def depB (x : Ex) : Bool := decide (dpt x ≤ 16)
def rgt (x : Ex) : Bool := okx x && depB x
def cnt (n : Int) (m : Nat) : Bool := decide (1 ≤ n) && decide (n ≤ m)
def okb (b : Bl) : Bool :=
  (decide (b.label = 0) || cnt b.label 99999) &&
  (if b.kind = 0 then b.words.all (fun w => isw w.1 && okx w.2) && noneB b.left && noneB b.x && decide (b.n = 0)
  else decide (b.words = []) &&
    (if b.kind = 1 ∨ b.kind = 3 then okx b.left && okx b.x && decide (b.n = 0)
    else if b.kind = 2 then noneB b.left && okx b.x && decide (b.n = 0)
    else if b.kind = 4 then noneB b.left && okx b.x && cnt b.n 3
    else if b.kind = 5 then noneB b.left && noneB b.x && cnt b.n 3
    else if b.kind = 6 then noneB b.left && noneB b.x && cnt b.n 99999
    else false))
def limb (b : Bl) : Bool := decide (b.words.length ≤ 24) && b.words.all (fun w => depB w.2) && depB b.left && depB b.x
def vldb (b : Bl) : Bool := okb b && limb b
theorem dpt_zx : depB zx = true := by unfold depB zx; rw [dpt_mk]; decide
def cIF : List UInt8 := [73, 70]
def cGOTO : List UInt8 := [71, 79, 84, 79]
def cWHILE : List UInt8 := [87, 72, 73, 76, 69]
def cDO : List UInt8 := [68, 79]
def cEND : List UInt8 := [69, 78, 68]
theorem okx_num' {n : Int} (h0 : 0 ≤ n) (h1 : n < 1000000000000000) : okx (num n) = true := by
  unfold num; rw [okx_mk]; unfold nodeB; simp [kds, kdsl]; omega
theorem okx_un' {o : Int} {x : Ex} (h : 0 ≤ o ∧ o ≤ 25) (k : kds o.toNat = 1) (hx : okx x = true) : okx (un o x) = true := by
  unfold un; rw [okx_mk]; unfold nodeB; simp [k, hx]; omega
theorem okx_bin' {o : Int} {x y : Ex} (h : 0 ≤ o ∧ o ≤ 25) (k : kds o.toNat = 2) (hx : okx x = true) (hy : okx y = true) : okx (bin o x y) = true := by
  unfold bin; rw [okx_mk]; unfold nodeB; simp [k, hx, hy]; omega
theorem dpt_num (n : Int) : dpt (num n) = 1 := by unfold num; rw [dpt_mk]; rfl
theorem dpt_un (o : Int) (x : Ex) : dpt (un o x) = 1 + dpt x := by unfold un; rw [dpt_mk]; simp [dmx]
theorem dpt_bin (o : Int) (x y : Ex) : dpt (bin o x y) = 1 + max (dpt x) (dpt y) := by unfold bin; rw [dpt_mk]; simp [dmx]
theorem dpt_zx' : dpt zx = 1 := by unfold zx; rw [dpt_mk]; rfl
end Sy
end Go.Proofs.YtlgdjbabbfdngaaDoor
set_option linter.unusedVariables false
set_option linter.unusedSimpArgs false
namespace Go.Proofs.YtlgdjbabbfdngaaDoor
open Go.RowKit
theorem ret_bl {a b : Bool} (h : a = b) : Ending.returned (.bool a) = .returned (.bool b) := by rw [h]
end Go.Proofs.YtlgdjbabbfdngaaDoor
set_option linter.unusedVariables false
set_option linter.unusedSimpArgs false
namespace Go.Proofs.YtlgdjbabbfdngaaDoor
open Go.RowKit
theorem ret_bool5 {a b : Bool} (h : a = b) : Ending.returned (.bool a) = .returned (.bool b) := by rw [h]
def bs (l : List UInt8) : ByteArray := ⟨l.toArray⟩
theorem bs_of (s : ByteArray) : bs s.data.toList = s := by unfold bs; simp
def nb (j : Nat) : ByteArray := bs (Lx.nm j)
end Go.Proofs.YtlgdjbabbfdngaaDoor
set_option linter.unusedVariables false
namespace Go.Proofs.YtlgdjbabbfdngaaDoor
open Go Go.RowKit
structure Kept (w : World) where
  v : World
  h : Qw w v
instance (w : World) : Nonempty (Kept w) := ⟨⟨w, Qw.refl w⟩⟩
theorem qw_drew1 (w : World) : Qw w w.drew := ⟨rfl, rfl, rfl, Nat.le_refl _, fun _ _ => rfl⟩
theorem Kept.call {P : Program} {w : World} {f : FuncId} {args : Array Value} {n : Kept w} {v : Value} (h : Calls P f args n.v fun e w' => e = .returned v ∧ Qw n.v w') :
    Calls P f args n.v fun e w'' => e = .returned v ∧ ∃ p : Kept w, w'' = p.v :=
  h.mono fun _ w'' ⟨he, hq⟩ => ⟨he, ⟨w'', n.h.trans hq⟩, rfl⟩
theorem Kept.same {P : Program} {w : World} {f : FuncId} {args : Array Value} {n : Kept w} {v : Value} (h : Calls P f args n.v fun e w' => e = .returned v ∧ n.v = w') :
    Calls P f args n.v fun e w'' => e = .returned v ∧ ∃ p : Kept w, w'' = p.v :=
  h.mono fun _ _ ⟨he, hq⟩ => ⟨he, n, hq.symm⟩
theorem region_kept {P : Program} {id : Nat} {Q : Exit → Act → World → Prop} {a : Act} {w : World} {l : List Oper} (hm : P.follows .mixedOrders = true) (hB : Region.lexB .any l.toArray = true)
    (h : wpQuiet P l.toArray (fun w' => ∃ p : Kept w, w' = p.v) (fun a' => ∀ w', Qw w w' → Q .normal a' w') l a) : (Code.region id l.toArray true).wp P Q a w := by
  have hh : wpQuiet P l.toArray (fun w' => ∃ p : Kept w, w' = p.v) (fun a' => ∀ w', (∃ p : Kept w, w' = p.v) → Q .normal a' w') l a := by
    have key : (fun a' => ∀ w', (∃ p : Kept w, w' = p.v) → Q .normal a' w') = (fun a' => ∀ w', Qw w w' → Q .normal a' w') := by
      funext a'
      exact propext ⟨fun k w' hq => k w' ⟨⟨w', hq⟩, rfl⟩, fun k w' ⟨p, e⟩ => k w' (e ▸ p.h)⟩
    rw [key]; exact h
  exact wp_region_quiet (C := fun w' => ∃ p : Kept w, w' = p.v) hm hB ⟨⟨_, qw_drew1 w⟩, rfl⟩ (by simpa using hh)
theorem code_of {P : Program} {c : Code} {Q : Exit → Act → World → Prop} {a : Act} {w : World} (S : World → Prop) (h : S w) (k : ∀ w', S w' → c.wp P Q a w') : c.wp P Q a w := k w h
def Bx (w : World) (b : Nat) (cs : Array Value) (t : TypeId) : Prop := w.heap[b]? = some (.cells cs t (0, 0))
section
variable {w w' : World} {b : Nat} {cs : Array Value} {t : TypeId}
theorem Bx.lt (h : Bx w b cs t) : b < w.heap.size := (Array.getElem?_eq_some_iff.1 h).1
theorem Bx.kept (h : Bx w b cs t) (q : Qw w w') : Bx w' b cs t := (q.block b h.lt).trans h
theorem Bx.below {B : Nat} (h : Bx w b cs t) (q : Below B w w') (hb : b < B) : Bx w' b cs t := (q.block b hb).trans h
theorem Bx.cell (h : Bx w b cs t) (i : Nat) : w.cell? ⟨b, i, none⟩ = cs[i]? := by simp only [Bx] at h; simp [World.cell?, h]
theorem Bx.free (h : Bx w b cs t) (i : Nat) : w.frozen? ⟨b, i, none⟩ = false := by simp only [Bx] at h; simp [World.frozen?, h]
theorem Bx.new (w : World) (cs : Array Value) (t : TypeId) : Bx (w.alloc (.cells cs t)) w.heap.size cs t := by
  show (w.heap.push _)[w.heap.size]? = _
  simp
theorem Bx.alloc (h : Bx w b cs t) (o : Obj) : Bx (w.alloc o) b cs t := (Below.heap_alloc w o b h.lt).trans h
theorem Bx.set (h : Bx w b cs t) (i : Nat) (v : Value) : Bx (w.setCell ⟨b, i, none⟩ v) b (cs.setIfInBounds i v) t := by
  simp only [Bx] at h ⊢
  simp only [World.setCell, Array.getElem?_modify, if_true, h, Option.map_some]
  rfl
theorem Bx.other (h : Bx w b cs t) {a : Addr} (hb : b ≠ a.block) (v : Value) : Bx (w.setCell a v) b cs t := (Below.heap_setCell w a v b hb).trans h
theorem Bx.kcell (h : Bx w b cs t) (i : Nat) (v : Value) (hv : cs[i]? = some v) : ∀ p : Kept w, p.v.cell? ⟨b, i, none⟩ = some v := fun p => ((h.kept p.h).cell i).trans hv
theorem Bx.cell' (h : Bx w b cs t) (i : Nat) (v : Value) (hv : cs[i]? = some v) : w.cell? ⟨b, i, none⟩ = some v := (h.cell i).trans hv
end
end Go.Proofs.YtlgdjbabbfdngaaDoor
set_option linter.unusedVariables false
set_option linter.unusedSimpArgs false
namespace Go.Proofs.YtlgdjbabbfdngaaDoor
open Go.RowKit
structure Px (P : Nat) (w w' : World) : Prop where
  os : w'.os = w.os
  tape : w'.tape = w.tape
  output : w'.output = w.output
  size : w.heap.size ≤ w'.heap.size
  block : ∀ k, k < w.heap.size → k ≠ P → w'.heap[k]? = w.heap[k]?
theorem Px.refl (P : Nat) (w : World) : Px P w w := ⟨rfl, rfl, rfl, Nat.le_refl _, fun _ _ _ => rfl⟩
theorem Px.of {P : Nat} {w w' : World} (q : Qw w w') : Px P w w' := ⟨q.os, q.tape, q.output, q.size, fun k h _ => q.block k h⟩
theorem Px.trans {P : Nat} {a b c : World} (h : Px P a b) (k : Px P b c) : Px P a c :=
  ⟨k.os.trans h.os, k.tape.trans h.tape, k.output.trans h.output, Nat.le_trans h.size k.size, fun i hi hp => (k.block i (Nat.lt_of_lt_of_le hi h.size) hp).trans (h.block i hi hp)⟩
theorem Px.set (P : Nat) (w : World) (o : Nat) (u : Value) : Px P w (w.setCell ⟨P, o, none⟩ u) :=
  ⟨rfl, rfl, rfl, by simp [World.setCell], fun k _ hp => Below.heap_setCell _ _ _ _ hp⟩
theorem Px.below {P : Nat} {w w' : World} (h : Px P w w') (hP : P ≤ w.heap.size) : Below P w w' := ⟨h.os, h.tape, h.output, h.size, fun k hk => h.block k (by omega) (by omega)⟩
theorem Px.alloc {P : Nat} {a w : World} (h : Px P a w) (o : Obj) : Px P a (w.alloc o) :=
  h.trans ⟨rfl, rfl, rfl, by simp, fun k hk _ => Below.heap_alloc _ _ _ hk⟩
theorem Px.setP {P : Nat} {a w : World} (h : Px P a w) (o : Nat) (u : Value) : Px P a (w.setCell ⟨P, o, none⟩ u) := h.trans (Px.set P w o u)
theorem Px.setNew {P : Nat} {a w : World} (h : Px P a w) {p : Addr} (hp : a.heap.size ≤ p.block) (u : Value) : Px P a (w.setCell p u) :=
  ⟨h.os, h.tape, h.output, by have := h.size; simpa [World.setCell] using this, fun k hk hP => (Below.heap_setCell _ _ _ _ (by omega)).trans (h.block k hk hP)⟩
theorem Px.drew {P : Nat} {a w : World} (h : Px P a w) : Px P a w.drew := ⟨h.os, h.tape, h.output, h.size, h.block⟩
theorem Px.drewN {P : Nat} {a w : World} (h : Px P a w) (n : Nat) : Px P a (w.drewN n) := h.trans ⟨rfl, rfl, rfl, Nat.le_refl _, fun _ _ _ => rfl⟩
theorem Bx.px {P : Nat} {w w' : World} {b : Nat} {cs : Array Value} {t : TypeId} (h : Bx w b cs t) (q : Px P w w') (hb : b ≠ P) : Bx w' b cs t := (q.block b h.lt hb).trans h
theorem Qw.al {a w : World} (h : Qw a w) (o : Obj) : Qw a (w.alloc o) := Below.alloc h h.size o
theorem Qw.dr {a w : World} (h : Qw a w) : Qw a w.drew := Below.drew h
theorem Qw.dn {a w : World} (h : Qw a w) (n : Nat) : Qw a (w.drewN n) := Below.trans h ⟨rfl, rfl, rfl, Nat.le_refl _, fun _ _ => rfl⟩
theorem Qw.sc {a w : World} (h : Qw a w) {p : Addr} (hp : a.heap.size ≤ p.block) (u : Value) : Qw a (w.setCell p u) := Below.setCell h hp u
theorem Qw.le {w w' : World} (h : Qw w w') : w.heap.size ≤ w'.heap.size := h.size
theorem Qw.bel {w w' : World} (h : Qw w w') : Below w.heap.size w w' := h
def Ow (w : World) : Prop := 0 < w.heap.size ∧ ∀ j, j < 26 → w.cell? ⟨0, j * 2, none⟩ = some (.string (bs (Sy.onm j))) ∧ w.cell? ⟨0, j * 2 + 1, none⟩ = some (.int .i64 (Sy.kds j : Nat))
theorem Ow.cong {w w' : World} (h : Ow w) (hs : w.heap.size ≤ w'.heap.size) (hb : w'.heap[0]? = w.heap[0]?) : Ow w' :=
  ⟨Nat.lt_of_lt_of_le h.1 hs, fun j hj => by
    have k : ∀ o, w'.cell? ⟨0, o, none⟩ = w.cell? ⟨0, o, none⟩ := fun o => World.cell?_of_block (w := w) hb
    rw [k, k]; exact h.2 j hj⟩
theorem Ow.kept {w w' : World} (h : Ow w) (q : Qw w w') : Ow w' := h.cong q.size (q.block _ h.1)
theorem bel_drewN {B : Nat} {a w : World} (h : Below B a w) (n : Nat) : Below B a (w.drewN n) := h.trans ⟨rfl, rfl, rfl, Nat.le_refl _, fun _ _ => rfl⟩
theorem ret_ex {fn : Func} {s : Nat} {a : Act} {w : World} {b : Nat} {v0 v1 v2 : Value} {t : TypeId} (hr : fn.results = #[.cell s 35]) (hs : a.tmps[s]?.getD undef = .pointer (some ⟨b, 0, none⟩)) (X : Bx w b #[v0, v1, v2] t) :
    (results fn a.tmps).run Tryd.prog w = .ok (.agg #[v0, v1, v2]) w := by
  have c0 : w.cell? ⟨b, 0, none⟩ = some v0 := X.cell' 0 _ rfl
  have c1 : w.cell? ⟨b, 1, none⟩ = some v1 := X.cell' 1 _ rfl
  have c2 : w.cell? ⟨b, 2, none⟩ = some v2 := X.cell' 2 _ rfl
  simp [results, hr, hs, go_sem, c0, c1, c2]
theorem ret_blk {fn : Func} {s : Nat} {a : Act} {w : World} {b : Nat} {v0 v1 v2 v3 v4 v5 v6 v7 v8 v9 v10 : Value} {t : TypeId} (hr : fn.results = #[.cell s 37]) (hs : a.tmps[s]?.getD undef = .pointer (some ⟨b, 0, none⟩)) (X : Bx w b #[v0, v1, v2, v3, v4, v5, v6, v7, v8, v9, v10] t) :
    (results fn a.tmps).run Tryd.prog w = .ok (.agg #[v0, v1, v2, v3, v4, v5, v6, v7, v8, v9, v10]) w := by
  have c0 : w.cell? ⟨b, 0, none⟩ = some v0 := X.cell' 0 _ rfl
  have c1 : w.cell? ⟨b, 1, none⟩ = some v1 := X.cell' 1 _ rfl
  have c2 : w.cell? ⟨b, 2, none⟩ = some v2 := X.cell' 2 _ rfl
  have c3 : w.cell? ⟨b, 3, none⟩ = some v3 := X.cell' 3 _ rfl
  have c4 : w.cell? ⟨b, 4, none⟩ = some v4 := X.cell' 4 _ rfl
  have c5 : w.cell? ⟨b, 5, none⟩ = some v5 := X.cell' 5 _ rfl
  have c6 : w.cell? ⟨b, 6, none⟩ = some v6 := X.cell' 6 _ rfl
  have c7 : w.cell? ⟨b, 7, none⟩ = some v7 := X.cell' 7 _ rfl
  have c8 : w.cell? ⟨b, 8, none⟩ = some v8 := X.cell' 8 _ rfl
  have c9 : w.cell? ⟨b, 9, none⟩ = some v9 := X.cell' 9 _ rfl
  have c10 : w.cell? ⟨b, 10, none⟩ = some v10 := X.cell' 10 _ rfl
  simp [results, hr, hs, go_sem, c0, c1, c2, c3, c4, c5, c6, c7, c8, c9, c10]
theorem Qz {w w' : World} (h : Qw w w' := by repeat (first | exact q0.out | exact Qw.refl _ | refine Qw.al ?_ _ | refine Qw.dr ?_ | refine Qw.dn ?_ _ | refine Qw.sc ?_ (by first | (simp; done) | omega | (have := q0.out.size; first | omega | (simp; omega))) _)) : Qw w w' := h
theorem Pz {P : Nat} {w w' : World} (h : Px P w w' := by repeat (first | exact q0.out | exact Px.of q0.out | exact Px.refl _ _ | refine Px.setP ?_ _ _ | refine Px.alloc ?_ _ | refine Px.drewN ?_ _ | refine Px.drew ?_ | refine Px.setNew ?_ (by first | (simp; done) | omega | (have := q0.out.size; first | omega | (simp; omega))) _)) : Px P w w' := h
end Go.Proofs.YtlgdjbabbfdngaaDoor
set_option linter.unusedVariables false
set_option linter.unusedSimpArgs false
namespace Go.Proofs.YtlgdjbabbfdngaaDoor
open Go.RowKit
def IntsB (B : Nat) (w : World) (v : Value) (zs : List Int) : Prop :=
  ∃ (a : Option Addr) (cap : Nat), v = .slice a zs.length cap ∧ zs.length ≤ cap ∧ cap ≤ 9223372036854775807 ∧ (zs = [] ∨ ∃ b off, a = some ⟨b, off, none⟩ ∧ b < B ∧
    ∀ i, i < zs.length → w.cell? ⟨b, off + i, none⟩ = some (.int .i64 (zs.getD i 0)) ∧ -9223372036854775808 ≤ zs.getD i 0 ∧ zs.getD i 0 ≤ 9223372036854775807)
theorem IntsB.kept {B C : Nat} {w w' : World} {v : Value} {zs : List Int} (h : IntsB B w v zs) (hb : Below C w w') (hC : B ≤ C) : IntsB B w' v zs := by
  obtain ⟨a, cap, h1, h2, h3, h4⟩ := h
  refine ⟨a, cap, h1, h2, h3, ?_⟩
  rcases h4 with h4 | ⟨b, off, e, hB, h⟩
  · exact .inl h4
  · refine .inr ⟨b, off, e, hB, fun i hi => ?_⟩
    rw [hb.cell (p := ⟨b, off + i, none⟩) (by show b < C; omega)]
    exact h i hi
theorem IntsB.mono {B C : Nat} {w : World} {v : Value} {zs : List Int} (h : IntsB B w v zs) (hC : B ≤ C) : IntsB C w v zs := by
  obtain ⟨a, cap, h1, h2, h3, h4⟩ := h
  refine ⟨a, cap, h1, h2, h3, ?_⟩
  rcases h4 with h4 | ⟨b, off, e, hB, h⟩
  · exact .inl h4
  · exact .inr ⟨b, off, e, by omega, h⟩
theorem IntsB.len {B : Nat} {w : World} {v : Value} {zs : List Int} (h : IntsB B w v zs) : ∃ a cap, v = .slice a zs.length cap ∧ zs.length ≤ 9223372036854775807 := by
  obtain ⟨a, cap, h1, h2, h3, _⟩ := h
  exact ⟨a, cap, h1, by omega⟩
theorem lightF (v : Value) (zs : List Int) (B : Nat) (w : World) (h : IntsB B w v zs) :
    Calls Tryd.prog 10 #[v] w fun e w' => e = .returned (.bool (decide (zs.length ≤ 120))) ∧ w = w' := by
  obtain ⟨a, cap, rfl, _⟩ := h.len
  clear h
  go_enter Tryd.func10, Tryd.ntmps10
  go_wp2
  go_ret
  exact ⟨ret_bl (decide_eq_decide.2 (by omega)), rfl⟩
def TapeAt (w : World) (B : Nat) (v : Value) (zs : List Int) (k : Nat) : Prop :=
  w.heap[B]? = some (.cells #[v, .int .i64 k] 60 (0, 0)) ∧ IntsB B w v zs ∧ k ≤ zs.length
theorem TapeAt.kept {B : Nat} {w w' : World} {v : Value} {zs : List Int} {k : Nat} (h : TapeAt w B v zs k) (q : Qw w w') : TapeAt w' B v zs k := by
  obtain ⟨h1, h2, h3⟩ := h
  have l := lt_of_block h1
  exact ⟨by rw [q.block B l]; exact h1, h2.kept q (by omega), h3⟩
def nxt (zs : List Int) (k : Nat) (n : Int) : Int := if k < zs.length then zs.getD k 0 % n else 0
def adv (zs : List Int) (k : Nat) : Nat := if k < zs.length then k + 1 else k
theorem nxt_bd (zs : List Int) (k : Nat) (n : Int) (h : 1 ≤ n) : 0 ≤ nxt zs k n ∧ nxt zs k n < n := by
  unfold nxt
  split
  · exact ⟨Int.emod_nonneg _ (by omega), Int.emod_lt_of_pos _ (by omega)⟩
  · omega
theorem cells_of_two {w : World} {b : Nat} {x y : Value} {t : TypeId} (h : w.heap[b]? = some (.cells #[x, y] t (0, 0))) :
    w.cell? ⟨b, 0, none⟩ = some x ∧ w.cell? ⟨b, 1, none⟩ = some y ∧ w.frozen? ⟨b, 1, none⟩ = false := by simp [World.cell?, World.frozen?, h]
theorem two_setCell {w : World} {b : Nat} {x y u : Value} {t : TypeId} (h : w.heap[b]? = some (.cells #[x, y] t (0, 0))) : (w.setCell ⟨b, 1, none⟩ u).heap[b]? = some (.cells #[x, u] t (0, 0)) := by
  have hlt := lt_of_block h
  have h' : w.heap[b] = .cells #[x, y] t (0, 0) := by simpa [Array.getElem?_eq_getElem hlt] using h
  show (w.heap.modify b _)[b]? = _
  rw [Array.getElem?_eq_getElem (by simpa using hlt), Array.getElem_modify_self, h']
  rfl
theorem newF (v : Value) (zs : List Int) (w : World) (h : IntsB w.heap.size w v zs) :
    Calls Tryd.prog 14 #[v] w fun e w' => e = .returned (.pointer (some ⟨w.heap.size, 0, none⟩)) ∧ TapeAt w' w.heap.size v zs 0 ∧ Qw w w' := by
  have H := Lib.hid h
  obtain ⟨a, cap, rfl, _⟩ := h.len
  clear h
  go_enter Tryd.func14, Tryd.ntmps14
  go_wp2
  go_ret
  exact ⟨rfl, ⟨by first | exact heap_alloc_new _ _ | simp, H.out.kept (Below.alloc (Below.refl w.heap.size w) (Nat.le_refl _) _) (Nat.le_refl _), Nat.zero_le _⟩, (Below.refl _ _).alloc (Nat.le_refl _) _⟩
end Go.Proofs.YtlgdjbabbfdngaaDoor

