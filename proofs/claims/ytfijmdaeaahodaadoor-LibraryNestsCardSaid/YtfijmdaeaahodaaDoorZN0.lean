import Derived.Test.YtfijmdaeaahodaaDoorRows
import Derived.Test.YtfijmdaeaahodaaDoorCards
import Derived.Test.YtfijmdaeaahodaaDoorTie
import Derived.WalkKit
import Derived.BigQuiet
import Derived.Deep.QuietTactic
import Derived.Lib.Hide
import Derived.Laws.Externs
import Derived.Lib.ItoaNum
import Derived.Below
import Derived.Lib.Bytealg
import Derived.Deep.MidRow
import Derived.Lib.Strings
import Derived.Outline
import Derived.IntWalk
import Derived.Lib.MinMax
import Derived.Lib.QuietBelow
import Derived.StillTailTactics
import Derived.WalkLawsBesides
import Derived.OwnWalk
import Derived.ProofKit
import Derived.OpenShut
import Derived.Deep.DeepHandedRow
import Derived.Lib.LaidTab
import Derived.Stop.LaidErr
import Derived.Carry
import Derived.ChangeMaps5
import Derived.OneCell
set_option linter.unusedVariables false
set_option linter.unusedSimpArgs false
namespace Go.Proofs.YtfijmdaeaahodaaDoor.Mth
def isq : Nat → Nat
  | 0 => 0
  | n + 1 => if (isq n + 1) * (isq n + 1) ≤ n + 1 then isq n + 1 else isq n
def rt (n : Int) : Int := (isq n.toNat : Int)
end Go.Proofs.YtfijmdaeaahodaaDoor.Mth
set_option linter.unusedVariables false
set_option linter.unusedSimpArgs false
namespace Go.Proofs.YtfijmdaeaahodaaDoor
open Go.RowKit
theorem ret_i64 {a b : Int} (h : a = b) : Ending.returned (.int .i64 a) = .returned (.int .i64 b) := by rw [h]
def restR (q o l n : Int) : Int := if o = 0 ∧ l = 0 then 0 else if o < q ∨ o = q ∧ 4 * l < n then 1 else if o = q ∧ 4 * l = n then 2 else 3
end Go.Proofs.YtfijmdaeaahodaaDoor
set_option linter.unusedVariables false
set_option linter.unusedSimpArgs false
namespace Go.Proofs.YtfijmdaeaahodaaDoor
open Go.RowKit
def dr (hi lo y : Int) : Int := (hi * 18446744073709551616 + lo) % y
end Go.Proofs.YtfijmdaeaahodaaDoor
set_option linter.unusedVariables false
set_option linter.unusedSimpArgs false
namespace Go.Proofs.YtfijmdaeaahodaaDoor
open Go.RowKit
def rr (N n : Int) : Int := restR (Mth.rt (N / n)) (N / n - Mth.rt (N / n) * Mth.rt (N / n)) (N % n) n
end Go.Proofs.YtfijmdaeaahodaaDoor
set_option linter.unusedVariables false
set_option linter.unusedSimpArgs false
namespace Go.Proofs.YtfijmdaeaahodaaDoor
open Go.RowKit
def Qw (w w' : World) : Prop := Below w.heap.size w w'
theorem Qw.refl (w : World) : Qw w w := Below.refl _ _
theorem Qw.trans {a b c : World} (h : Qw a b) (k : Qw b c) : Qw a c := Below.trans h (Below.mono k h.size)
theorem Qw.drewN (w : World) (n : Nat) : Qw w (w.drewN n) := ⟨rfl, rfl, rfl, Nat.le_refl _, fun _ _ => rfl⟩
theorem tmod_of (v n : Int) (n1 : 1 ≤ n) : 0 ≤ v % n ∧ v % n < n ∧ (v.tmod n = v % n ∨ v < 0 ∧ v.tmod n = v % n - n) ∧ (0 ≤ v → v.tmod n = v % n) ∧ (v < 0 → v.tmod n ≤ 0) := by
  have m0 : 0 ≤ v % n := Int.emod_nonneg _ (by omega)
  have m1 : v % n < n := Int.emod_lt_of_pos _ (by omega)
  have e := Int.tmod_eq_emod (a := v) (b := n)
  refine ⟨m0, m1, ?_, ?_, ?_⟩
  · by_cases h : 0 ≤ v ∨ n ∣ v
    · left; rw [if_pos h] at e; omega
    · right; rw [if_neg h] at e; omega
  · intro h; rw [if_pos (.inl h)] at e; omega
  · intro h
    by_cases h2 : 0 ≤ v ∨ n ∣ v
    · rw [if_pos h2] at e
      have := Int.emod_eq_zero_of_dvd (h2.resolve_left (by omega))
      omega
    · rw [if_neg h2] at e; omega
theorem modW (v n : Int) (v1 : -9223372036854775808 ≤ v) (v2 : v ≤ 9223372036854775807) (n1 : 1 ≤ n) (n2 : n ≤ 9223372036854775807) (w : World) :
    Calls Tryd.prog 19 #[.int .i64 v, .int .i64 n] w fun e w' => e = .returned (.int .i64 (v % n)) ∧ w = w' := by
  have nz : (n == 0) = false := beq_eq_false_iff_ne.2 (by omega)
  have m0 : 0 ≤ v % n := Int.emod_nonneg _ (by omega)
  have m1 : v % n < n := Int.emod_lt_of_pos _ (by omega)
  go_enter Tryd.func19, Tryd.ntmps19
  go_wp2
  all_goals
    go_ret
    refine ⟨ret_i64 ?_, rfl⟩
  · rename_i h
    have := tmod_of v n n1
    unfold wrap64
    omega
  · rename_i h
    have := tmod_of v n n1
    omega
end Go.Proofs.YtfijmdaeaahodaaDoor
set_option linter.unusedVariables false
set_option linter.unusedSimpArgs false
namespace Go.Proofs.YtfijmdaeaahodaaDoor
open Go.RowKit
def vld (n : Int) : Bool := decide (-1000000000000000 ≤ n ∧ n ≤ 1000000000000000)
def whole (a : Int) : Bool := vld a && decide (a % 1000000 = 0)
def ln (a u : Int) : Int := if u = 20 then (2 * (a * 254) + 10000) / 20000 else (2 * a + 1000) / 2000
end Go.Proofs.YtfijmdaeaahodaaDoor
set_option linter.unusedVariables false
set_option linter.unusedSimpArgs false
namespace Go.Proofs.YtfijmdaeaahodaaDoor
def isd (c : UInt8) : Bool := decide (48 ≤ (c.toNat : Int) ∧ (c.toNat : Int) ≤ 57)
def vl (n : Int) : List UInt8 → Int
  | [] => n
  | c :: l => vl (n * 10 + ((c.toNat : Int) - 48)) l
def rk : List UInt8 → Nat → Nat
  | [], _ => 0
  | _ :: _, 0 => 0
  | c :: l, k + 1 => if isd c = true then rk l k + 1 else 0
def pw (l : List UInt8) : Nat := rk l 9
def pdot (l : List UInt8) : Bool := decide (pw l < l.length) && (l.getD (pw l) 0 == 46)
def pf (l : List UInt8) : Nat := if pdot l = true then rk (l.drop (pw l + 1)) 6 else 0
def pend (l : List UInt8) : Nat := if pdot l = true then pw l + 1 + pf l else pw l
def pok (l : List UInt8) : Bool := decide (pend l = l.length) && decide (pw l + pf l ≠ 0)
def pnum (l : List UInt8) : Int := vl (vl 0 (l.take (pw l))) ((l.drop (pw l + 1)).take (pf l)) * 10 ^ (6 - pf l)
end Go.Proofs.YtfijmdaeaahodaaDoor
set_option linter.unusedVariables false
set_option linter.unusedSimpArgs false
namespace Go.Proofs.YtfijmdaeaahodaaDoor
namespace Lx
structure Tok where
  k : Int
  n : Int
  p : Nat
  x : List UInt8
def nms : List (List UInt8) := [[73, 70], [71, 79, 84, 79], [87, 72, 73, 76, 69], [68, 79], [69, 78, 68], [69, 81], [78, 69], [71, 84], [71, 69], [76, 84], [76, 69], [65, 78, 68], [79, 82], [88, 79, 82], [77, 79, 68], [83, 73, 78], [67, 79, 83], [84, 65, 78], [65, 84, 65, 78], [83, 81, 82, 84], [65, 66, 83], [82, 79, 85, 78, 68], [70, 73, 88], [70, 85, 80]]
def nm (i : Nat) : List UInt8 := nms.getD i []
def pfx (n l : List UInt8) : Bool := decide (n.length ≤ l.length) && decide (l.take n.length = n)
def nstep (l b n : List UInt8) : List UInt8 := if (decide (b.length < n.length) && pfx n l) = true then n else b
def nfold (l : List UInt8) (k : Nat) : List UInt8 := (nms.take k).foldl (nstep l) []
def fnm (l : List UInt8) : List UInt8 := nfold l 24
def isn (c : UInt8) : Bool := isd c || (c == 46)
def isu (c : UInt8) : Bool := decide (65 ≤ (c.toNat : Int) ∧ (c.toNat : Int) ≤ 90)
def sgs : List UInt8 := [43, 45, 42, 47, 61, 35, 91, 93]
def isg (c : UInt8) : Bool := decide ((0 : Int) ≤ Lib.indexByte sgs c)
def ws (c : UInt8) : Bool := c == 32 || c == 9 || c == 13
def nrun : List UInt8 → Nat
  | [] => 0
  | c :: l => if isn c = true then nrun l + 1 else 0
structure F where
  k : Int
  n : Int
  x : List UInt8
  m : Nat
def fnum (l : List UInt8) : F := if pok (l.take (nrun l)) = true then ⟨2, pnum (l.take (nrun l)), [], nrun l⟩ else ⟨0, 0, [], 0⟩
def fst (l : List UInt8) : F :=
  if isn (l.getD 0 0) = true then fnum l
  else if isu (l.getD 0 0) = true then (if fnm l = [] then ⟨1, (l.getD 0 0).toNat, [], 1⟩ else ⟨3, 0, fnm l, (fnm l).length⟩)
  else if isg (l.getD 0 0) = true then ⟨4, 0, [l.getD 0 0], 1⟩ else ⟨0, 0, [], 0⟩
end Lx
end Go.Proofs.YtfijmdaeaahodaaDoor
set_option linter.unusedVariables false
set_option linter.unusedSimpArgs false
namespace Go.Proofs.YtfijmdaeaahodaaDoor
namespace Sy
open Lx
inductive Ex where
  | mk (op n : Int) (ks : List Ex)
def Ex.op : Ex → Int | .mk o _ _ => o
def Ex.n : Ex → Int | .mk _ n _ => n
def Ex.ks : Ex → List Ex | .mk _ _ k => k
theorem Ex.ind {P : Ex → Prop} (h : ∀ op n ks, (∀ k ∈ ks, P k) → P (.mk op n ks)) : ∀ x, P x
  | .mk op n ks => h op n ks (fun k _ => Ex.ind h k)
def onms : List (List UInt8) := [[], [35], [45], [43], [45], [42], [47], [77, 79, 68], [83, 73, 78], [67, 79, 83], [84, 65, 78], [65, 84, 65, 78], [83, 81, 82, 84], [65, 66, 83], [82, 79, 85, 78, 68], [70, 73, 88], [70, 85, 80], [69, 81], [78, 69], [71, 84], [71, 69], [76, 84], [76, 69], [65, 78, 68], [79, 82], [88, 79, 82]]
def onm (i : Nat) : List UInt8 := onms.getD i []
def fop (x : List UInt8) : Nat → Nat → Option Nat
  | _, 0 => none
  | lo, k + 1 => if x = onm lo then some lo else fop x (lo + 1) k
def lo : Nat → Nat
  | 0 => 24 | 1 => 23 | 2 => 17 | 3 => 3 | _ => 5
def cn : Nat → Nat
  | 0 => 2 | 1 => 1 | 2 => 6 | 3 => 2 | _ => 3
def lop (l : Nat) (x : List UInt8) : Option Nat := fop x (lo l) (cn l)
def fun1 (x : List UInt8) : Option Nat := match fop x 8 3 with
  | some o => some o
  | none => fop x 12 5
def kd (ts : List Lx.Tok) (i : Nat) : Int := match ts[i]? with | some t => t.k | none => 0
def tn (ts : List Lx.Tok) (i : Nat) : Int := match ts[i]? with | some t => t.n | none => 0
def tx (ts : List Lx.Tok) (i : Nat) : List UInt8 := match ts[i]? with | some t => t.x | none => []
inductive Rs (α : Type) where
  | ok (x : α) (i : Nat)
  | bad (i : Nat)
def num (n : Int) : Ex := .mk 0 n []
def un (o : Int) (x : Ex) : Ex := .mk o 0 [x]
def bin (o : Int) (x y : Ex) : Ex := .mk o 0 [x, y]
def shut (ts : List Lx.Tok) : Rs Ex → Rs Ex
  | .bad j => .bad j
  | .ok x j => if tx ts j = [93] then .ok x (j + 1) else .bad j
def wrapU (o : Int) : Rs Ex → Rs Ex
  | .bad j => .bad j
  | .ok x j => .ok (un o x) j
def wrapB (o : Int) (x : Ex) : Rs Ex → Rs Ex
  | .bad j => .bad j
  | .ok y j => .ok (bin o x y) j
mutual
def pE (ts : List Lx.Tok) : Nat → Nat → Nat → Rs Ex
  | 0, _, i => .bad i
  | f + 1, l, i =>
    if l = 5 then
      if tx ts i = [45] then wrapU 2 (pE ts f 5 (i + 1))
      else if tx ts i = [43] then pE ts f 5 (i + 1)
      else pP ts f i
    else match pE ts f (l + 1) i with
      | .bad j => .bad j
      | .ok x j => pL ts f l x j
def pL (ts : List Lx.Tok) : Nat → Nat → Ex → Nat → Rs Ex
  | 0, _, _, i => .bad i
  | f + 1, l, x, i => match lop l (tx ts i) with
    | none => .ok x i
    | some o => match pE ts f (l + 1) (i + 1) with
      | .bad j => .bad j
      | .ok y j => if l = 2 then .ok (bin o x y) j else pL ts f l (bin o x y) j
def pP (ts : List Lx.Tok) : Nat → Nat → Rs Ex
  | 0, i => .bad i
  | f + 1, i =>
    if tx ts i = [65, 84, 65, 78] then match pB ts f (i + 1) with
      | .bad j => .bad j
      | .ok x j => if tx ts j = [47] then wrapB 11 x (pB ts f (j + 1)) else .bad j
    else match fun1 (tx ts i) with
      | some o => wrapU o (pB ts f (i + 1))
      | none => pC ts f i
def pC (ts : List Lx.Tok) : Nat → Nat → Rs Ex
  | 0, i => .bad i
  | f + 1, i =>
    if kd ts i = 2 then .ok (num (tn ts i)) (i + 1)
    else if tx ts i = [35] then wrapU 1 (pC ts f (i + 1))
    else pB ts f i
def pB (ts : List Lx.Tok) : Nat → Nat → Rs Ex
  | 0, i => .bad i
  | f + 1, i => if tx ts i = [91] then shut ts (pE ts f 0 (i + 1)) else .bad i
end
def fuel (ts : List Lx.Tok) : Nat := 16 * ts.length + 40
def isw (c : Int) : Bool := decide (65 ≤ c) && decide (c ≤ 90) && decide (c ≠ 78) && decide (c ≠ 79)
structure Bl where
  kind : Int
  label : Int
  skip : Bool
  words : List (Int × Ex)
  left : Ex
  x : Ex
  n : Int
def zx : Ex := .mk 0 0 []
end Sy
end Go.Proofs.YtfijmdaeaahodaaDoor
set_option linter.unusedVariables false
set_option linter.unusedSimpArgs false
namespace Go.Proofs.YtfijmdaeaahodaaDoor
namespace Sy
open Lx
def kdsl : List Nat := [0, 1, 1, 2, 2, 2, 2, 2, 1, 1, 1, 2, 1, 1, 1, 1, 1, 2, 2, 2, 2, 2, 2, 2, 2, 2]
def kds (o : Nat) : Nat := kdsl.getD o 0
def nodeB (op n : Int) (k : Nat) : Bool := decide (0 ≤ op) && decide (op ≤ 25) && decide (k = kds op.toNat) && (decide (n = 0) || (decide (op = 0) && decide (0 ≤ n) && decide (n < 1000000000000000)))
def okx : Ex → Bool
  | .mk op n ks => nodeB op n ks.length && ks.attach.all (fun ⟨k, h⟩ => okx k)
theorem okx_mk (op n : Int) (ks : List Ex) : okx (.mk op n ks) = (nodeB op n ks.length && ks.all okx) := by
  rw [okx]; simp
def dmx : List Nat → Nat
  | [] => 0
  | d :: l => max d (dmx l)
def dpt : Ex → Nat
  | .mk op n ks => 1 + dmx (ks.attach.map (fun ⟨k, h⟩ => dpt k))
theorem dpt_mk (op n : Int) (ks : List Ex) : dpt (.mk op n ks) = 1 + dmx (ks.map dpt) := by
  rw [dpt]; simp
inductive Form : Ex → Prop where
  | num (n : Int) (h0 : 0 ≤ n) (h1 : n < 1000000000000000) : Form (num n)
  | un (o : Nat) (x : Ex) (hx : okx x = true) (h : o = 1 ∨ o = 2 ∨ (8 ≤ o ∧ o ≤ 10) ∨ (12 ≤ o ∧ o ≤ 16)) : Form (un o x)
  | bin (o : Nat) (x y : Ex) (hx : okx x = true) (hy : okx y = true) (h : (3 ≤ o ∧ o ≤ 7) ∨ o = 11 ∨ (17 ≤ o ∧ o ≤ 25)) : Form (bin o x y)
theorem kds_0 : ∀ o, o < 26 → kds o = 0 → o = 0 := by decide
theorem kds_1 : ∀ o, o < 26 → kds o = 1 → (o = 1 ∨ o = 2 ∨ (8 ≤ o ∧ o ≤ 10) ∨ (12 ≤ o ∧ o ≤ 16)) := by decide
theorem kds_2 : ∀ o, o < 26 → kds o = 2 → ((3 ≤ o ∧ o ≤ 7) ∨ o = 11 ∨ (17 ≤ o ∧ o ≤ 25)) := by decide
theorem kds_le : ∀ o, o < 26 → kds o = 0 ∨ kds o = 1 ∨ kds o = 2 := by decide
theorem form {x : Ex} (h : okx x = true) : Form x := by
  obtain ⟨op, n, ks⟩ := x
  rw [okx_mk] at h
  simp only [nodeB, Bool.and_eq_true, Bool.or_eq_true, decide_eq_true_eq] at h
  obtain ⟨⟨⟨⟨h0, h1⟩, hk⟩, hn⟩, ha⟩ := h
  have hb : op.toNat < 26 := by omega
  have ho : (op.toNat : Int) = op := by omega
  rcases kds_le op.toNat hb with k | k | k
  · have e := kds_0 _ hb k
    rw [k] at hk
    obtain rfl := List.eq_nil_of_length_eq_zero hk
    have : op = 0 := by omega
    subst this
    exact Form.num n (by omega) (by omega)
  · have e := kds_1 _ hb k
    rw [k] at hk
    have hn0 : n = 0 := by rcases hn with hn | ⟨⟨hn, _⟩, _⟩ <;> omega
    subst hn0
    obtain ⟨x, rfl⟩ := List.length_eq_one_iff.1 hk
    have := Form.un op.toNat x (by simpa using ha) e
    rw [Sy.un, ho] at this; exact this
  · have e := kds_2 _ hb k
    rw [k] at hk
    have hn0 : n = 0 := by rcases hn with hn | ⟨⟨hn, _⟩, _⟩ <;> omega
    subst hn0
    obtain ⟨x, y, rfl⟩ : ∃ x y, ks = [x, y] := by
      match ks, hk with
      | [x, y], _ => exact ⟨x, y, rfl⟩
    simp at ha
    have := Form.bin op.toNat x y ha.1 ha.2 e
    rw [Sy.bin, ho] at this; exact this
end Sy
end Go.Proofs.YtfijmdaeaahodaaDoor
set_option linter.unusedVariables false
set_option linter.unusedSimpArgs false
namespace Go.Proofs.YtfijmdaeaahodaaDoor
namespace Sy
open Lx
def noneB (x : Ex) : Bool := decide (x.op = 0) && decide (x.n = 0) && decide (x.ks.length = 0)
theorem noneB_eq {x : Ex} (h : noneB x = true) : x = zx := by
  obtain ⟨o, n, ks⟩ := x
  unfold noneB at h
  simp only [Bool.and_eq_true] at h
  obtain ⟨⟨h1, h2⟩, h3⟩ := h
  have k1 : o = 0 := of_decide_eq_true h1
  have k2 : n = 0 := of_decide_eq_true h2
  have k3 : ks.length = 0 := of_decide_eq_true h3
  rw [k1, k2, List.eq_nil_of_length_eq_zero k3]; rfl
theorem noneB_zx : noneB zx = true := rfl
def depB (x : Ex) : Bool := decide (dpt x ≤ 16)
def rgt (x : Ex) : Bool := okx x && depB x
def cnt (n : Int) (m : Nat) : Bool := decide (1 ≤ n) && decide (n ≤ m)
def okb (b : Bl) : Bool :=
  (decide (b.label = 0) || cnt b.label 99999) &&
  (if b.kind = 0 then b.words.all (fun w => isw w.1 && okx w.2) && noneB b.left && noneB b.x && decide (b.n = 0)
  else decide (b.words = []) &&
    (if b.kind = 1 ∨ b.kind = 3 then okx b.left && okx b.x && decide (b.n = 0)
    else if b.kind = 2 then noneB b.left && okx b.x && decide (b.n = 0)
    else if b.kind = 4 then noneB b.left && okx b.x && cnt b.n 3
    else if b.kind = 5 then noneB b.left && noneB b.x && cnt b.n 3
    else if b.kind = 6 then noneB b.left && noneB b.x && cnt b.n 99999
    else false))
def limb (b : Bl) : Bool := decide (b.words.length ≤ 24) && b.words.all (fun w => depB w.2) && depB b.left && depB b.x
def vldb (b : Bl) : Bool := okb b && limb b
theorem dpt_zx : depB zx = true := by unfold depB zx; rw [dpt_mk]; decide
theorem dpt_zx' : dpt zx = 1 := by unfold zx; rw [dpt_mk]; rfl
end Sy
end Go.Proofs.YtfijmdaeaahodaaDoor
set_option linter.unusedVariables false
set_option linter.unusedSimpArgs false
namespace Go.Proofs.YtfijmdaeaahodaaDoor
open Go.RowKit
theorem ret_bool5 {a b : Bool} (h : a = b) : Ending.returned (.bool a) = .returned (.bool b) := by rw [h]
def bs (l : List UInt8) : ByteArray := ⟨l.toArray⟩
theorem bs_of (s : ByteArray) : bs s.data.toList = s := by unfold bs; simp
def nb (j : Nat) : ByteArray := bs (Lx.nm j)
end Go.Proofs.YtfijmdaeaahodaaDoor
set_option linter.unusedVariables false
namespace Go.Proofs.YtfijmdaeaahodaaDoor
open Go Go.RowKit
theorem code_of {P : Program} {c : Code} {Q : Exit → Act → World → Prop} {a : Act} {w : World} (S : World → Prop) (h : S w) (k : ∀ w', S w' → c.wp P Q a w') : c.wp P Q a w := k w h
def Bx (w : World) (b : Nat) (cs : Array Value) (t : TypeId) : Prop := w.heap[b]? = some (.cells cs t (0, 0))
section
variable {w w' : World} {b : Nat} {cs : Array Value} {t : TypeId}
theorem Bx.lt (h : Bx w b cs t) : b < w.heap.size := (Array.getElem?_eq_some_iff.1 h).1
theorem Bx.kept (h : Bx w b cs t) (q : Qw w w') : Bx w' b cs t := (q.block b h.lt).trans h
theorem Bx.cell (h : Bx w b cs t) (i : Nat) : w.cell? ⟨b, i, none⟩ = cs[i]? := by simp only [Bx] at h; simp [World.cell?, h]
theorem Bx.free (h : Bx w b cs t) (i : Nat) : w.frozen? ⟨b, i, none⟩ = false := by simp only [Bx] at h; simp [World.frozen?, h]
theorem Bx.new (w : World) (cs : Array Value) (t : TypeId) : Bx (w.alloc (.cells cs t)) w.heap.size cs t := by
  show (w.heap.push _)[w.heap.size]? = _
  simp
theorem Bx.alloc (h : Bx w b cs t) (o : Obj) : Bx (w.alloc o) b cs t := (Below.heap_alloc w o b h.lt).trans h
theorem Bx.set (h : Bx w b cs t) (i : Nat) (v : Value) : Bx (w.setCell ⟨b, i, none⟩ v) b (cs.setIfInBounds i v) t := by
  simp only [Bx] at h ⊢
  simp only [World.setCell, Array.getElem?_modify, if_true, h, Option.map_some]
  rfl
theorem Bx.other (h : Bx w b cs t) {a : Addr} (hb : b ≠ a.block) (v : Value) : Bx (w.setCell a v) b cs t := (Below.heap_setCell w a v b hb).trans h
theorem Bx.cell' (h : Bx w b cs t) (i : Nat) (v : Value) (hv : cs[i]? = some v) : w.cell? ⟨b, i, none⟩ = some v := (h.cell i).trans hv
end
end Go.Proofs.YtfijmdaeaahodaaDoor
set_option linter.unusedVariables false
set_option linter.unusedSimpArgs false
namespace Go.Proofs.YtfijmdaeaahodaaDoor
open Go.RowKit
theorem Qw.al {a w : World} (h : Qw a w) (o : Obj) : Qw a (w.alloc o) := Below.alloc h h.size o
theorem Qw.dr {a w : World} (h : Qw a w) : Qw a w.drew := Below.drew h
theorem Qw.dn {a w : World} (h : Qw a w) (n : Nat) : Qw a (w.drewN n) := Below.trans h ⟨rfl, rfl, rfl, Nat.le_refl _, fun _ _ => rfl⟩
theorem Qw.sc {a w : World} (h : Qw a w) {p : Addr} (hp : a.heap.size ≤ p.block) (u : Value) : Qw a (w.setCell p u) := Below.setCell h hp u
theorem Qw.bel {w w' : World} (h : Qw w w') : Below w.heap.size w w' := h
def Ow (w : World) : Prop := 0 < w.heap.size ∧ ∀ j, j < 26 → w.cell? ⟨0, j * 2, none⟩ = some (.string (bs (Sy.onm j))) ∧ w.cell? ⟨0, j * 2 + 1, none⟩ = some (.int .i64 (Sy.kds j : Nat))
theorem Ow.cong {w w' : World} (h : Ow w) (hs : w.heap.size ≤ w'.heap.size) (hb : w'.heap[0]? = w.heap[0]?) : Ow w' :=
  ⟨Nat.lt_of_lt_of_le h.1 hs, fun j hj => by
    have k : ∀ o, w'.cell? ⟨0, o, none⟩ = w.cell? ⟨0, o, none⟩ := fun o => World.cell?_of_block (w := w) hb
    rw [k, k]; exact h.2 j hj⟩
theorem Ow.kept {w w' : World} (h : Ow w) (q : Qw w w') : Ow w' := h.cong q.size (q.block _ h.1)
theorem bel_drewN {B : Nat} {a w : World} (h : Below B a w) (n : Nat) : Below B a (w.drewN n) := h.trans ⟨rfl, rfl, rfl, Nat.le_refl _, fun _ _ => rfl⟩
theorem Qz {w w' : World} (h : Qw w w' := by repeat (first | exact q0.out | exact Qw.refl _ | refine Qw.al ?_ _ | refine Qw.dr ?_ | refine Qw.dn ?_ _ | refine Qw.sc ?_ (by first | (simp; done) | omega | (have := q0.out.size; first | omega | (simp; omega))) _)) : Qw w w' := h
end Go.Proofs.YtfijmdaeaahodaaDoor
set_option linter.unusedVariables false
set_option linter.unusedSimpArgs false
namespace Go.Proofs.YtfijmdaeaahodaaDoor
open Go.ChangeShapes Go.WideShapes Go.ChangeAt Go.RowKit
theorem i64_of_wf {a : Int} (h : (Lit.int .i64 a).wf = true) : -9223372036854775808 ≤ a ∧ a ≤ 9223372036854775807 := by
  simp [Lit.wf, IntKind.min, IntKind.max, IntKind.signed, IntKind.bits] at h
  omega
theorem ownO : ownKnob Tryd.prog.godebug = none := by kernel_rfl
theorem gStrCells : Tryd.prog.cellsOf 9 = 1 := by kernel_rfl
theorem gOps : Tryd.prog.globalNamed "cnc/syntax.operators" = some 0 := by kernel_rfl
theorem gOpsType : (Tryd.prog.globals[0]?).map (·.type) = some 99 := by kernel_rfl
theorem gOpsCells : Tryd.prog.cellsOf 99 = 52 := by kernel_rfl
theorem gOpCells : Tryd.prog.cellsOf 98 = 2 := by kernel_rfl
theorem gIntCells : Tryd.prog.cellsOf 3 = 1 := by kernel_rfl
def opsData (ls : List (List UInt8 × Int)) : DataW Unit := .agg (ls.map fun l => .agg [.lit (.string l.1), .lit (.int .i64 l.2)])
def opsL : List (List UInt8 × Int) := (List.range 26).map fun j => (Sy.onm j, (Sy.kds j : Int))
theorem opsData_laid : (Rows.laid_cnc_syntax_operators : DataW Unit) = opsData opsL := by kernel_rfl
theorem opsL_get (i : Nat) (h : i < 26) : opsL[i]? = some (Sy.onm i, (Sy.kds i : Int)) := by
  unfold opsL; rw [List.getElem?_map, List.getElem?_range h]; rfl
set_option maxRecDepth 100000 in
theorem ops_of {w : World} {sp : Nat → Bool} {held : Bool} {enc : TypeId × Value → Unit} {base fuel : Nat} {cs : List Value} {p : List MemPlace}
    (h : DataW.trod enc Tryd.prog w base sp held fuel 99 cs = some (opsData opsL, p)) (i : Nat) (hi : i < 26) : cs[i * 2]? = some (.string (bs (Sy.onm i))) ∧ cs[i * 2 + 1]? = some (.int .i64 (Sy.kds i : Nat)) := by
  cases fuel with
  | zero => simp [DataW.trod] at h
  | succ f =>
    simp only [DataW.trod, Tryd.underlying99, gOpCells, gOpsCells] at h
    split at h
    · obtain ⟨xs, hm, hx⟩ := Option.map_eq_some_iff.1 h
      obtain ⟨y, hy, hf⟩ := Lib.mapM_at hm i i (by simp [hi])
      obtain ⟨zs, n, rfl, rfl, hl, hz, hg⟩ := DataW.trod_struct Tryd.underlying98 hf
      have d0 : xs.map (·.1) = opsL.map fun l => (DataW.agg [.lit (.string l.1), .lit (.int .i64 l.2)] : DataW Unit) := by
        have := congrArg Prod.fst hx
        simpa [opsData] using this
      have e0 : (xs.map (·.1))[i]? = some (DataW.agg (zs.map (·.1))) := by rw [List.getElem?_map, hy]; rfl
      rw [d0, List.getElem?_map, opsL_get i hi] at e0
      simp only [Option.map_some, Option.some.injEq, DataW.agg.injEq] at e0
      have g0 := hg 0 _ rfl
      have g1 := hg 1 _ rfl
      match zs, e0, g0, g1 with
      | [z0, z1], e0, g0, g1 =>
        simp only [List.map_cons, List.map_nil, List.cons.injEq, and_true] at e0
        simp only [List.getElem?_cons_zero, List.getElem?_cons_succ, gStrCells, gIntCells] at g0 g1
        obtain ⟨s, hc, hs, _⟩ := DataW.trod_string Tryd.underlying9 g0
        obtain ⟨m, hc1, hs1, _⟩ := DataW.trod_int Tryd.underlying3 g1
        subst hs hs1
        obtain ⟨k0, k1⟩ := e0
        simp only [DataW.lit.injEq, Lit.string.injEq, Lit.int.injEq, true_and] at k0 k1
        have c0 := congrArg (fun l => l[0]?) hc
        have c1 := congrArg (fun l => l[0]?) hc1
        simp [List.getElem?_take, List.getElem?_drop] at c0 c1
        refine ⟨?_, ?_⟩
        · rw [c0.2, k0]; simp only [bs_of]
        · rw [c1.2, ← k1]
    · cases h
def tabsO : List (String × DataW Unit) := [("cnc/syntax.operators", Rows.laid_cnc_syntax_operators)]
theorem laidOps {W : World} {rest : List (String × DataW Unit)} (h1 : laidMet Tryd.prog (("cnc/syntax.operators", opsData opsL) :: rest) W) : Ow W := by
  obtain ⟨ps, ⟨g, t, cs, fuel, p, q, hg, ht, hvar, hd, _, _⟩, _⟩ := h1
  obtain rfl := Option.some.inj (gOps.symm.trans hg)
  obtain rfl := Option.some.inj (gOpsType.symm.trans ht)
  have cells : ∀ j, j < 26 → W.cell? ⟨0, j * 2, none⟩ = some (.string (bs (Sy.onm j))) ∧ W.cell? ⟨0, j * 2 + 1, none⟩ = some (.int .i64 (Sy.kds j : Nat)) := by
    intro j hj
    have c0 := World.var?_cell gOps hvar (j * 2)
    have c1 := World.var?_cell gOps hvar (j * 2 + 1)
    obtain ⟨t0, t1⟩ := ops_of hd j hj
    rw [c0, c1]
    exact ⟨by simpa using t0, by simpa using t1⟩
  refine ⟨?_, cells⟩
  have c := (cells 0 (by decide)).1
  rcases Nat.lt_or_ge 0 W.heap.size with h | h
  · exact h
  · simp [World.cell?, Array.getElem?_eq_none h] at c
theorem tableO {W : World} (h : laidMetH Tryd.prog tabsO W) : Ow W := by
  have h1 : laidMet Tryd.prog tabsO W := h
  unfold tabsO at h1
  rw [opsData_laid] at h1
  exact laidOps h1
def cellsLit : DataW Unit → Value
  | .lit (.string b) => .string ⟨b.toArray⟩
  | .lit (.int k n) => .int k n
  | _ => .bool false
def cellsO : DataW Unit → Array Value
  | .agg l => (l.flatMap fun x => match x with
    | .agg m => m.map cellsLit
    | y => [cellsLit y]).toArray
  | _ => #[]
noncomputable def laidWorldO (os : Os) : World :=
  let h0 := (World.holding Tryd.prog os ⟨#[], #[], []⟩).heap
  let put (x : DataW Unit) (o : Obj) : Obj := match o with
    | .cells _ t frozen => .cells (cellsO x) t frozen
    | o => o
  let h2 := h0.modify 0 (put Rows.laid_cnc_syntax_operators)
  { World.holding Tryd.prog os ⟨#[], #[], []⟩ with heap := h2 }
theorem laid_metO (os : Os) (args : Array Value) : laidMet Tryd.prog tabsO ((laidWorldO os).forCall (fun _ _ => 0) ⟨#[], args, []⟩).memory :=
  laidMet_of_run' 8 (by kernel_rfl) (by kernel_rfl)
end Go.Proofs.YtfijmdaeaahodaaDoor
set_option linter.unusedVariables false
set_option linter.unusedSimpArgs false
namespace Go.Proofs.YtfijmdaeaahodaaDoor
open Go.RowKit
inductive KidsB (w : World) (S : Nat → Prop) : Option Addr → Nat → List Sy.Ex → Prop where
  | nl (a : Option Addr) (cap : Nat) (h : cap ≤ 9223372036854775807) : KidsB w S a cap []
  | mk (b off cap : Nat) (ks : List Sy.Ex) (ad : Nat → Option Addr) (cc : Nat → Nat) (hS : S b) (h1 : ks.length ≤ cap) (h2 : cap ≤ 9223372036854775807)
    (hc : ∀ i (h : i < ks.length), w.cell? ⟨b, off + i * 3, none⟩ = some (.int .i64 ks[i].op) ∧ w.cell? ⟨b, off + i * 3 + 1, none⟩ = some (.int .i64 ks[i].n) ∧ w.cell? ⟨b, off + i * 3 + 2, none⟩ = some (.slice (ad i) ks[i].ks.length (cc i)))
    (hk : ∀ i (h : i < ks.length), KidsB w S (ad i) (cc i) ks[i].ks) : KidsB w S (some ⟨b, off, none⟩) cap ks
theorem KidsB.cap {w : World} {S : Nat → Prop} {a : Option Addr} {cap : Nat} {ks : List Sy.Ex} (h : KidsB w S a cap ks) : ks.length ≤ cap ∧ cap ≤ 9223372036854775807 := by
  cases h with
  | nl a cap h => exact ⟨Nat.zero_le _, h⟩
  | mk b off cap ks ad cc hS h1 h2 hc hk => exact ⟨h1, h2⟩
theorem cell_lt {w : World} {b o : Nat} {v : Value} (h : w.cell? ⟨b, o, none⟩ = some v) : b < w.heap.size := by
  rcases Nat.lt_or_ge b w.heap.size with g | g
  · exact g
  · simp [World.cell?, Array.getElem?_eq_none g] at h
theorem KidsB.go {w w' : World} {S T : Nat → Prop} (hb : ∀ b, S b → b < w.heap.size → w'.heap[b]? = w.heap[b]? ∧ T b) {a : Option Addr} {cap : Nat} {ks : List Sy.Ex} (h : KidsB w S a cap ks) : KidsB w' T a cap ks := by
  induction h with
  | nl a cap h => exact .nl a cap h
  | mk b off cap ks ad cc hS h1 h2 hc hk ih =>
    by_cases h0 : ks = []
    · subst h0; exact .nl _ _ h2
    have g := cell_lt (hc 0 (by cases ks with | nil => exact absurd rfl h0 | cons _ _ => simp)).1
    refine .mk b off cap ks ad cc (hb b hS g).2 h1 h2 (fun i hi => ?_) ih
    have k : ∀ o, w'.cell? ⟨b, o, none⟩ = w.cell? ⟨b, o, none⟩ := fun o => World.cell?_of_block (w := w) (hb b hS g).1
    rw [k, k, k]
    exact hc i hi
theorem KidsB.kept {w w' : World} {S : Nat → Prop} {a : Option Addr} {cap : Nat} {ks : List Sy.Ex} (h : KidsB w S a cap ks) (q : Qw w w') : KidsB w' S a cap ks := h.go fun b hS hb => ⟨q.block b hb, hS⟩
theorem KidsB.mono {w : World} {S T : Nat → Prop} {a : Option Addr} {cap : Nat} {ks : List Sy.Ex} (h : KidsB w S a cap ks) (hT : ∀ b, S b → T b) : KidsB w T a cap ks := h.go fun b hS _ => ⟨rfl, hT b hS⟩
theorem KidsB.set {w : World} {S : Nat → Prop} {a : Option Addr} {cap : Nat} {ks : List Sy.Ex} (h : KidsB w S a cap ks) {p : Addr} (hp : ¬ S p.block) (u : Value) : KidsB (w.setCell p u) S a cap ks :=
  h.go fun b hS hb => ⟨Below.heap_setCell _ _ _ _ (fun e => hp (e ▸ hS)), hS⟩
theorem KidsB.one {w : World} {S : Nat → Prop} {G : Nat} {x : Sy.Ex} {t : TypeId} {ka : Option Addr} {kc : Nat} (X : Bx w G #[.int .i64 x.op, .int .i64 x.n, .slice ka x.ks.length kc] t) (hS : S G) (h : KidsB w S ka kc x.ks) : KidsB w S (some ⟨G, 0, none⟩) 1 [x] := by
  refine .mk G 0 1 [x] (fun _ => ka) (fun _ => kc) hS (Nat.le_refl _) (by decide) (fun i hi => ?_) (fun i hi => ?_)
  · obtain rfl : i = 0 := by simp at hi; exact hi
    exact ⟨X.cell' 0 _ rfl, X.cell' 1 _ rfl, X.cell' 2 _ rfl⟩
  · obtain rfl : i = 0 := by simp at hi; exact hi
    exact h
theorem syCounts (n : Int) (m : Nat) (w : World) : Calls Tryd.prog 52 #[.int .i64 n, .int .i64 (m : Int)] w fun e w' => e = .returned (.bool (Sy.cnt n m)) ∧ w = w' := by
  have main : ∀ b, Sy.cnt n m = b → Calls Tryd.prog 52 #[.int .i64 n, .int .i64 (m : Int)] w fun e w' => e = .returned (.bool b) ∧ w = w' := by
    intro b hb
    unfold Sy.cnt at hb
    by_cases h1 : 1 ≤ n
    · by_cases h2 : n ≤ (m : Int)
      · obtain rfl : b = true := by rw [← hb]; simp [h1, h2]
        clear hb
        go_enter Tryd.func52, Tryd.ntmps52
        go_wp2
        go_ret
        exact ⟨rfl, rfl⟩
      · obtain rfl : b = false := by rw [← hb]; simp [h2]
        clear hb
        have h3 : (m : Int) < n := by omega
        go_enter Tryd.func52, Tryd.ntmps52
        go_wp2
        go_ret
        exact ⟨rfl, rfl⟩
    · obtain rfl : b = false := by rw [← hb]; simp [h1]
      clear hb
      go_enter Tryd.func52, Tryd.ntmps52
      go_wp2
      go_ret
      exact ⟨rfl, rfl⟩
  exact main _ rfl
theorem syIsWord (n : Int) (w : World) : Calls Tryd.prog 67 #[.int .i64 n] w fun e w' => e = .returned (.bool (Sy.isw n)) ∧ w = w' := by
  have main : ∀ b, Sy.isw n = b → Calls Tryd.prog 67 #[.int .i64 n] w fun e w' => e = .returned (.bool b) ∧ w = w' := by
    intro b hb
    unfold Sy.isw at hb
    by_cases h1 : 65 ≤ n
    · by_cases h2 : n ≤ 90
      · by_cases h3 : n = 78
        · obtain rfl : b = false := by rw [← hb]; simp [h3]
          subst h3
          clear hb
          go_enter Tryd.func67, Tryd.ntmps67
          go_wp2
          go_ret
          exact ⟨rfl, rfl⟩
        · by_cases h4 : n = 79
          · obtain rfl : b = false := by rw [← hb]; simp [h4]
            subst h4
            clear hb
            go_enter Tryd.func67, Tryd.ntmps67
            go_wp2
            go_ret
            exact ⟨rfl, rfl⟩
          · obtain rfl : b = true := by rw [← hb]; simp [h1, h2, h3, h4]
            have b3 : (n != 78) = true := by simpa using h3
            have b4 : (n != 79) = true := by simpa using h4
            clear hb
            go_enter Tryd.func67, Tryd.ntmps67
            go_wp2
            go_ret
            exact ⟨rfl, rfl⟩
      · obtain rfl : b = false := by rw [← hb]; simp [h2]
        clear hb
        go_enter Tryd.func67, Tryd.ntmps67
        go_wp2
        go_ret
        exact ⟨rfl, rfl⟩
    · obtain rfl : b = false := by rw [← hb]; simp [h1]
      clear hb
      go_enter Tryd.func67, Tryd.ntmps67
      go_wp2
      go_ret
      exact ⟨rfl, rfl⟩
  exact main _ rfl
end Go.Proofs.YtfijmdaeaahodaaDoor

