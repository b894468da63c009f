import Derived.Test.YthfcimfoinidbaaDoorZd0
import Derived.Test.YthfcimfoinidbaaDoorZd1
import Derived.Test.YthfcimfoinidbaaDoorZd2
import Derived.Deep.QuietTactic
import Derived.BigQuiet
import Derived.StillTailTactics
import Derived.WalkLawsBesides
import Derived.Outline
set_option linter.unusedVariables false
set_option linter.unusedSimpArgs false
namespace Go.Proofs.YthfcimfoinidbaaDoor
namespace Sy
open Lx
inductive Ex where
  | mk (op n : Int) (ks : List Ex)
def Ex.op : Ex → Int | .mk o _ _ => o
def Ex.n : Ex → Int | .mk _ n _ => n
def Ex.ks : Ex → List Ex | .mk _ _ k => k
theorem Ex.ind {P : Ex → Prop} (h : ∀ op n ks, (∀ k ∈ ks, P k) → P (.mk op n ks)) : ∀ x, P x
  | .mk op n ks => h op n ks (fun k _ => Ex.ind h k)
def onms : List (List UInt8) := [[], [35], [45], [43], [45], [42], [47], [77, 79, 68], [83, 73, 78], [67, 79, 83], [84, 65, 78], [65, 84, 65, 78], [83, 81, 82, 84], [65, 66, 83], [82, 79, 85, 78, 68], [70, 73, 88], [70, 85, 80], [69, 81], [78, 69], [71, 84], [71, 69], [76, 84], [76, 69], [65, 78, 68], [79, 82], [88, 79, 82]]
def onm (i : Nat) : List UInt8 := onms.getD i []
def fop (x : List UInt8) : Nat → Nat → Option Nat
  | _, 0 => none
  | lo, k + 1 => if x = onm lo then some lo else fop x (lo + 1) k
theorem fop_range {x : List UInt8} : ∀ {k lo op : Nat}, fop x lo k = some op → lo ≤ op ∧ op < lo + k ∧ x = onm op
  | 0, _, _, h => by simp [fop] at h
  | k + 1, lo, op, h => by
    unfold fop at h
    by_cases e : x = onm lo
    · rw [if_pos e] at h; injection h with h; subst h; exact ⟨Nat.le_refl _, by omega, e⟩
    · rw [if_neg e] at h
      have := fop_range h
      exact ⟨by omega, by omega, this.2.2⟩
theorem onm_ne : ∀ i, 1 ≤ i → i < 26 → onm i ≠ [] := by
  have h : ∀ i, i < 26 → 1 ≤ i → onm i ≠ [] := by decide
  exact fun i a b => h i b a
theorem fop_nil : ∀ {k lo : Nat}, 1 ≤ lo → lo + k ≤ 26 → fop [] lo k = none
  | 0, _, _, _ => rfl
  | k + 1, lo, h, g => by
    unfold fop
    rw [if_neg (fun e => onm_ne lo h (by omega) e.symm)]
    exact fop_nil (by omega) (by omega)
def lo : Nat → Nat
  | 0 => 24 | 1 => 23 | 2 => 17 | 3 => 3 | _ => 5
def cn : Nat → Nat
  | 0 => 2 | 1 => 1 | 2 => 6 | 3 => 2 | _ => 3
def lop (l : Nat) (x : List UInt8) : Option Nat := fop x (lo l) (cn l)
def fun1 (x : List UInt8) : Option Nat := match fop x 8 3 with
  | some o => some o
  | none => fop x 12 5
def kd (ts : List Tok) (i : Nat) : Int := match ts[i]? with | some t => t.k | none => 0
def tn (ts : List Tok) (i : Nat) : Int := match ts[i]? with | some t => t.n | none => 0
def tx (ts : List Tok) (i : Nat) : List UInt8 := match ts[i]? with | some t => t.x | none => []
def tp (ts : List Tok) (len i : Nat) : Nat := match ts[i]? with | some t => t.p | none => len
theorem tx_lt {ts : List Tok} {i : Nat} {x : List UInt8} (h : tx ts i = x) (h0 : x ≠ []) : i < ts.length := by
  rcases Nat.lt_or_ge i ts.length with g | g
  · exact g
  · unfold tx at h; rw [List.getElem?_eq_none g] at h; exact absurd h.symm h0
theorem kd_lt {ts : List Tok} {i : Nat} {k : Int} (h : kd ts i = k) (h0 : k ≠ 0) : i < ts.length := by
  rcases Nat.lt_or_ge i ts.length with g | g
  · exact g
  · unfold kd at h; rw [List.getElem?_eq_none g] at h; exact absurd h.symm h0
theorem lop_lt {ts : List Tok} {i l o : Nat} (h : lop l (tx ts i) = some o) : i < ts.length := by
  rcases Nat.lt_or_ge i ts.length with g | g
  · exact g
  · unfold tx at h; rw [List.getElem?_eq_none g] at h
    unfold lop at h
    rw [fop_nil (by unfold lo; split <;> omega) (by unfold lo cn; split <;> simp)] at h
    cases h
inductive Rs (α : Type) where
  | ok (x : α) (i : Nat)
  | bad (i : Nat)
def num (n : Int) : Ex := .mk 0 n []
def un (o : Int) (x : Ex) : Ex := .mk o 0 [x]
def bin (o : Int) (x y : Ex) : Ex := .mk o 0 [x, y]
def shut (ts : List Tok) : Rs Ex → Rs Ex
  | .bad j => .bad j
  | .ok x j => if tx ts j = [93] then .ok x (j + 1) else .bad j
def wrapU (o : Int) : Rs Ex → Rs Ex
  | .bad j => .bad j
  | .ok x j => .ok (un o x) j
def wrapB (o : Int) (x : Ex) : Rs Ex → Rs Ex
  | .bad j => .bad j
  | .ok y j => .ok (bin o x y) j
mutual
def pE (ts : List Tok) : Nat → Nat → Nat → Rs Ex
  | 0, _, i => .bad i
  | f + 1, l, i =>
    if l = 5 then
      if tx ts i = [45] then wrapU 2 (pE ts f 5 (i + 1))
      else if tx ts i = [43] then pE ts f 5 (i + 1)
      else pP ts f i
    else match pE ts f (l + 1) i with
      | .bad j => .bad j
      | .ok x j => pL ts f l x j
def pL (ts : List Tok) : Nat → Nat → Ex → Nat → Rs Ex
  | 0, _, _, i => .bad i
  | f + 1, l, x, i => match lop l (tx ts i) with
    | none => .ok x i
    | some o => match pE ts f (l + 1) (i + 1) with
      | .bad j => .bad j
      | .ok y j => if l = 2 then .ok (bin o x y) j else pL ts f l (bin o x y) j
def pP (ts : List Tok) : Nat → Nat → Rs Ex
  | 0, i => .bad i
  | f + 1, i =>
    if tx ts i = [65, 84, 65, 78] then match pB ts f (i + 1) with
      | .bad j => .bad j
      | .ok x j => if tx ts j = [47] then wrapB 11 x (pB ts f (j + 1)) else .bad j
    else match fun1 (tx ts i) with
      | some o => wrapU o (pB ts f (i + 1))
      | none => pC ts f i
def pC (ts : List Tok) : Nat → Nat → Rs Ex
  | 0, i => .bad i
  | f + 1, i =>
    if kd ts i = 2 then .ok (num (tn ts i)) (i + 1)
    else if tx ts i = [35] then wrapU 1 (pC ts f (i + 1))
    else pB ts f i
def pB (ts : List Tok) : Nat → Nat → Rs Ex
  | 0, i => .bad i
  | f + 1, i => if tx ts i = [91] then shut ts (pE ts f 0 (i + 1)) else .bad i
end
def Fwd (n i : Nat) (r : Rs Ex) : Prop := match r with
  | .ok _ j => i < j ∧ j ≤ n
  | .bad j => i ≤ j ∧ j ≤ n
theorem Fwd.wrapU {n i : Nat} {o : Int} {r : Rs Ex} (h : Fwd n i r) : Fwd n i (wrapU o r) := by cases r <;> exact h
theorem Fwd.wrapB {n i : Nat} {o : Int} {x : Ex} {r : Rs Ex} (h : Fwd n i r) : Fwd n i (wrapB o x r) := by cases r <;> exact h
theorem Fwd.later {n i k : Nat} {r : Rs Ex} (h : Fwd n k r) (g : i ≤ k) : Fwd n i r := by
  cases r <;> (unfold Fwd at *; simp only at *; omega)
theorem Fwd.shut {ts : List Tok} {i : Nat} {r : Rs Ex} (h : Fwd ts.length i r) : Fwd ts.length i (shut ts r) := by
  cases r with
  | bad j => exact h
  | ok x j =>
    unfold Sy.shut
    unfold Fwd at h
    simp only at h ⊢
    split
    · have := tx_lt ‹_› (by decide)
      unfold Fwd; simp only; omega
    · unfold Fwd; simp only; omega
structure FwdAll (ts : List Tok) (f : Nat) : Prop where
  e : ∀ l i, i ≤ ts.length → Fwd ts.length i (pE ts f l i)
  l : ∀ l x i, i ≤ ts.length → (match pL ts f l x i with | .ok _ j => i ≤ j ∧ j ≤ ts.length | .bad j => i ≤ j ∧ j ≤ ts.length)
  p : ∀ i, i ≤ ts.length → Fwd ts.length i (pP ts f i)
  c : ∀ i, i ≤ ts.length → Fwd ts.length i (pC ts f i)
  b : ∀ i, i ≤ ts.length → Fwd ts.length i (pB ts f i)
theorem Fwd.self {n i : Nat} (h : i ≤ n) : Fwd n i (.bad i : Rs Ex) := ⟨Nat.le_refl _, h⟩
theorem fwd (ts : List Tok) : ∀ f, FwdAll ts f
  | 0 => ⟨fun l i h => by unfold pE; exact Fwd.self h, fun l x i h => by unfold pL; exact ⟨Nat.le_refl _, h⟩, fun i h => by unfold pP; exact Fwd.self h, fun i h => by unfold pC; exact Fwd.self h, fun i h => by unfold pB; exact Fwd.self h⟩
  | f + 1 => by
    have ih := fwd ts f
    refine ⟨fun l i h => ?_, fun l x i h => ?_, fun i h => ?_, fun i h => ?_, fun i h => ?_⟩
    · unfold pE
      split
      · split
        · have g := tx_lt ‹_› (by decide)
          exact Fwd.wrapU ((ih.e 5 (i + 1) (by omega)).later (by omega))
        · split
          · have g := tx_lt ‹_› (by decide)
            exact (ih.e 5 (i + 1) (by omega)).later (by omega)
          · exact ih.p i h
      · have g := ih.e (l + 1) i h
        cases e : pE ts f (l + 1) i with
        | bad j => rw [e] at g; exact g
        | ok x j =>
          rw [e] at g
          unfold Fwd at g
          simp only at g ⊢
          have k := ih.l l x j g.2
          cases e2 : pL ts f l x j <;> rw [e2] at k <;> unfold Fwd <;> simp only at k ⊢ <;> omega
    · unfold pL
      cases e : lop l (tx ts i) with
      | none => exact ⟨Nat.le_refl _, h⟩
      | some o =>
        have g0 := lop_lt e
        have g := ih.e (l + 1) (i + 1) (by omega)
        cases e1 : pE ts f (l + 1) (i + 1) with
        | bad j => rw [e1] at g; unfold Fwd at g; simp only at g ⊢; omega
        | ok y j =>
          rw [e1] at g
          unfold Fwd at g
          simp only at g ⊢
          by_cases h2 : l = 2
          · rw [if_pos h2]; simp only; omega
          · rw [if_neg h2]
            have k := ih.l l (bin o x y) j g.2
            cases e2 : pL ts f l (bin o x y) j <;> rw [e2] at k <;> simp only at k ⊢ <;> omega
    · unfold pP
      split
      · have g0 := tx_lt ‹_› (by decide)
        have g := ih.b (i + 1) (by omega)
        cases e1 : pB ts f (i + 1) with
        | bad j => rw [e1] at g; exact Fwd.later (k := i + 1) g (by omega)
        | ok x j =>
          rw [e1] at g
          unfold Fwd at g
          simp only at g ⊢
          split
          · have g1 := tx_lt ‹_› (by decide)
            exact Fwd.wrapB ((ih.b (j + 1) (by omega)).later (by omega))
          · unfold Fwd; simp only; omega
      · cases e1 : fun1 (tx ts i) with
        | none => exact ih.c i h
        | some o =>
          have g0 : i < ts.length := by
            rcases Nat.lt_or_ge i ts.length with g | g
            · exact g
            · unfold tx at e1; rw [List.getElem?_eq_none g] at e1
              cases (show fun1 [] = some o from e1)
          exact Fwd.wrapU ((ih.b (i + 1) (by omega)).later (by omega))
    · unfold pC
      split
      · have g := kd_lt ‹_› (by decide)
        unfold Fwd; simp only; omega
      · split
        · have g := tx_lt ‹_› (by decide)
          exact Fwd.wrapU ((ih.c (i + 1) (by omega)).later (by omega))
        · exact ih.b i h
    · unfold pB
      split
      · have g := tx_lt ‹_› (by decide)
        exact Fwd.shut ((ih.e 0 (i + 1) (by omega)).later (by omega))
      · exact Fwd.self h
def fuel (ts : List Tok) : Nat := 16 * ts.length + 40
def pV (ts : List Tok) (i : Nat) : Rs Ex :=
  if tx ts i = [45] then wrapU 2 (pC ts (fuel ts) (i + 1))
  else if tx ts i = [43] then pC ts (fuel ts) (i + 1)
  else pC ts (fuel ts) i
theorem fwd_v (ts : List Tok) (i : Nat) (h : i ≤ ts.length) : Fwd ts.length i (pV ts i) := by
  unfold pV
  split
  · have g := tx_lt ‹_› (by decide)
    exact Fwd.wrapU (((fwd ts _).c (i + 1) (by omega)).later (by omega))
  · split
    · have g := tx_lt ‹_› (by decide)
      exact ((fwd ts _).c (i + 1) (by omega)).later (by omega)
    · exact (fwd ts _).c i h
def isw (c : Int) : Bool := decide (65 ≤ c) && decide (c ≤ 90) && decide (c ≠ 78) && decide (c ≠ 79)
def pW (ts : List Tok) : Nat → List (Int × Ex) → Nat → Rs (List (Int × Ex))
  | 0, _, i => .bad i
  | f + 1, ws, i => if kd ts i = 1 ∧ isw (tn ts i) = true then
      match pV ts (i + 1) with
      | .bad j => .bad j
      | .ok x j => pW ts f (ws ++ [(tn ts i, x)]) j
    else .ok ws i
def isc (n : Int) (m : Nat) : Bool := decide (n % 1000000 = 0) && decide (1 ≤ n / 1000000) && decide (n / 1000000 ≤ m)
def pN (ts : List Tok) (m i : Nat) : Rs Int :=
  if kd ts i = 2 ∧ isc (tn ts i) m = true then .ok (tn ts i / 1000000) (i + 1) else .bad i
structure Bl where
  kind : Int
  label : Int
  skip : Bool
  words : List (Int × Ex)
  left : Ex
  x : Ex
  n : Int
def zx : Ex := .mk 0 0 []
def blk (k : Int) (ws : List (Int × Ex)) (l x : Ex) (n : Int) : Bl := ⟨k, 0, false, ws, l, x, n⟩
def wrapC {α β : Type} (g : α → β) : Rs α → Rs β
  | .bad j => .bad j
  | .ok x j => .ok (g x) j
def pCt (ts : List Tok) (i : Nat) : Rs Bl :=
  if tx ts i = [35] then match pC ts (fuel ts) (i + 1) with
    | .bad j => .bad j
    | .ok c j => if tx ts j = [61] then wrapC (fun x => blk 1 [] c x 0) (pE ts (fuel ts) 0 (j + 1)) else .bad j
  else if tx ts i = [73, 70] then match pB ts (fuel ts) (i + 1) with
    | .bad j => .bad j
    | .ok x j => if tx ts j = [71, 79, 84, 79] then wrapC (fun v => blk 3 [] v x 0) (pV ts (j + 1)) else .bad j
  else if tx ts i = [71, 79, 84, 79] then wrapC (fun x => blk 2 [] zx x 0) (pV ts (i + 1))
  else if tx ts i = [87, 72, 73, 76, 69] then match pB ts (fuel ts) (i + 1) with
    | .bad j => .bad j
    | .ok x j => if tx ts j = [68, 79] then wrapC (fun n => blk 4 [] zx x n) (pN ts 3 (j + 1)) else .bad j
  else if tx ts i = [69, 78, 68] then wrapC (fun n => blk 5 [] zx zx n) (pN ts 3 (i + 1))
  else if kd ts i = 1 ∧ tn ts i = 79 then wrapC (fun n => blk 6 [] zx zx n) (pN ts 99999 (i + 1))
  else wrapC (fun ws => blk 0 ws zx zx 0) (pW ts (ts.length + 1) [] i)
def pEnd (ts : List Tok) (skip : Bool) (label : Int) : Rs Bl → Rs Bl
  | .bad j => .bad j
  | .ok b j => if j < ts.length then .bad j else .ok { b with skip := skip, label := label } j
def pLn (ts : List Tok) : Rs Bl :=
  let i := if tx ts 0 = [47] then 1 else 0
  let s := decide (tx ts 0 = [47])
  if kd ts i = 1 ∧ tn ts i = 78 then match pN ts 99999 (i + 1) with
    | .bad j => .bad j
    | .ok n j => pEnd ts s n (pCt ts j)
  else pEnd ts s 0 (pCt ts i)
end Sy
end Go.Proofs.YthfcimfoinidbaaDoor
set_option linter.unusedVariables false
set_option linter.unusedSimpArgs false
namespace Go.Proofs.YthfcimfoinidbaaDoor
namespace Sy
open Lx
def kdsl : List Nat := [0, 1, 1, 2, 2, 2, 2, 2, 1, 1, 1, 2, 1, 1, 1, 1, 1, 2, 2, 2, 2, 2, 2, 2, 2, 2]
def kds (o : Nat) : Nat := kdsl.getD o 0
def nodeB (op n : Int) (k : Nat) : Bool := decide (0 ≤ op) && decide (op ≤ 25) && decide (k = kds op.toNat) && (decide (n = 0) || (decide (op = 0) && decide (0 ≤ n) && decide (n < 1000000000000000)))
def okx : Ex → Bool
  | .mk op n ks => nodeB op n ks.length && ks.attach.all (fun ⟨k, h⟩ => okx k)
theorem okx_mk (op n : Int) (ks : List Ex) : okx (.mk op n ks) = (nodeB op n ks.length && ks.all okx) := by
  rw [okx]; simp
def dmx : List Nat → Nat
  | [] => 0
  | d :: l => max d (dmx l)
def dpt : Ex → Nat
  | .mk op n ks => 1 + dmx (ks.attach.map (fun ⟨k, h⟩ => dpt k))
theorem dpt_mk (op n : Int) (ks : List Ex) : dpt (.mk op n ks) = 1 + dmx (ks.map dpt) := by
  rw [dpt]; simp
inductive Form : Ex → Prop where
  | num (n : Int) (h0 : 0 ≤ n) (h1 : n < 1000000000000000) : Form (num n)
  | un (o : Nat) (x : Ex) (hx : okx x = true) (h : o = 1 ∨ o = 2 ∨ (8 ≤ o ∧ o ≤ 10) ∨ (12 ≤ o ∧ o ≤ 16)) : Form (un o x)
  | bin (o : Nat) (x y : Ex) (hx : okx x = true) (hy : okx y = true) (h : (3 ≤ o ∧ o ≤ 7) ∨ o = 11 ∨ (17 ≤ o ∧ o ≤ 25)) : Form (bin o x y)
theorem kds_0 : ∀ o, o < 26 → kds o = 0 → o = 0 := by decide
theorem kds_1 : ∀ o, o < 26 → kds o = 1 → (o = 1 ∨ o = 2 ∨ (8 ≤ o ∧ o ≤ 10) ∨ (12 ≤ o ∧ o ≤ 16)) := by decide
theorem kds_2 : ∀ o, o < 26 → kds o = 2 → ((3 ≤ o ∧ o ≤ 7) ∨ o = 11 ∨ (17 ≤ o ∧ o ≤ 25)) := by decide
theorem kds_le : ∀ o, o < 26 → kds o = 0 ∨ kds o = 1 ∨ kds o = 2 := by decide
theorem kds_1i : ∀ o, o < 26 → (o = 1 ∨ o = 2 ∨ (8 ≤ o ∧ o ≤ 10) ∨ (12 ≤ o ∧ o ≤ 16)) → kds o = 1 := by decide
theorem kds_2i : ∀ o, o < 26 → ((3 ≤ o ∧ o ≤ 7) ∨ o = 11 ∨ (17 ≤ o ∧ o ≤ 25)) → kds o = 2 := by decide
theorem form {x : Ex} (h : okx x = true) : Form x := by
  obtain ⟨op, n, ks⟩ := x
  rw [okx_mk] at h
  simp only [nodeB, Bool.and_eq_true, Bool.or_eq_true, decide_eq_true_eq] at h
  obtain ⟨⟨⟨⟨h0, h1⟩, hk⟩, hn⟩, ha⟩ := h
  have hb : op.toNat < 26 := by omega
  have ho : (op.toNat : Int) = op := by omega
  rcases kds_le op.toNat hb with k | k | k
  · have e := kds_0 _ hb k
    rw [k] at hk
    obtain rfl := List.eq_nil_of_length_eq_zero hk
    have : op = 0 := by omega
    subst this
    exact Form.num n (by omega) (by omega)
  · have e := kds_1 _ hb k
    rw [k] at hk
    have hn0 : n = 0 := by rcases hn with hn | ⟨⟨hn, _⟩, _⟩ <;> omega
    subst hn0
    obtain ⟨x, rfl⟩ := List.length_eq_one_iff.1 hk
    have := Form.un op.toNat x (by simpa using ha) e
    rw [Sy.un, ho] at this; exact this
  · have e := kds_2 _ hb k
    rw [k] at hk
    have hn0 : n = 0 := by rcases hn with hn | ⟨⟨hn, _⟩, _⟩ <;> omega
    subst hn0
    obtain ⟨x, y, rfl⟩ : ∃ x y, ks = [x, y] := by
      match ks, hk with
      | [x, y], _ => exact ⟨x, y, rfl⟩
    simp at ha
    have := Form.bin op.toNat x y ha.1 ha.2 e
    rw [Sy.bin, ho] at this; exact this
theorem okx_num {n : Int} (h0 : 0 ≤ n) (h1 : n < 1000000000000000) : okx (num n) = true := by
  rw [num, okx_mk]; simp [nodeB, kds, kdsl, h0, h1]
theorem okx_un {o : Nat} {x : Ex} (h : okx x = true) (ho : o = 1 ∨ o = 2 ∨ (8 ≤ o ∧ o ≤ 10) ∨ (12 ≤ o ∧ o ≤ 16)) : okx (un o x) = true := by
  rw [un, okx_mk]
  simp only [nodeB, Bool.and_eq_true, Bool.or_eq_true, decide_eq_true_eq]
  refine ⟨⟨⟨⟨by omega, by omega⟩, ?_⟩, .inl trivial⟩, by simp [h]⟩
  rw [show ((o : Int)).toNat = o by omega, kds_1i o (by omega) ho]; rfl
theorem okx_bin {o : Nat} {x y : Ex} (h : okx x = true) (h' : okx y = true) (ho : (3 ≤ o ∧ o ≤ 7) ∨ o = 11 ∨ (17 ≤ o ∧ o ≤ 25)) : okx (bin o x y) = true := by
  rw [bin, okx_mk]
  simp only [nodeB, Bool.and_eq_true, Bool.or_eq_true, decide_eq_true_eq]
  refine ⟨⟨⟨⟨by omega, by omega⟩, ?_⟩, .inl trivial⟩, by simp [h, h']⟩
  rw [show ((o : Int)).toNat = o by omega, kds_2i o (by omega) ho]; rfl
def Good (ts : List Tok) : Prop := ∀ t ∈ ts, (t.k = 2 → 0 ≤ t.n ∧ t.n < 1000000000000000) ∧ (t.x ≠ [] → t.k = 3 ∨ t.k = 4) ∧ (t.k = 3 ∨ t.k = 4 → t.x ≠ []) ∧ (t.k = 1 → 65 ≤ t.n ∧ t.n ≤ 90)
def OkR (r : Rs Ex) : Prop := match r with
  | .ok x _ => okx x = true
  | .bad _ => True
theorem OkR.shut {ts : List Tok} {r : Rs Ex} (h : OkR r) : OkR (shut ts r) := by
  cases r with
  | bad j => trivial
  | ok x j =>
    unfold Sy.shut; simp only
    by_cases e : tx ts j = [93]
    · rw [if_pos e]; exact h
    · rw [if_neg e]; trivial
theorem OkR.wrapU {o : Nat} {r : Rs Ex} (h : OkR r) (ho : o = 1 ∨ o = 2 ∨ (8 ≤ o ∧ o ≤ 10) ∨ (12 ≤ o ∧ o ≤ 16)) : OkR (wrapU o r) := by
  cases r with
  | bad j => trivial
  | ok x j => exact okx_un h ho
theorem OkR.wrapB {o : Nat} {x : Ex} {r : Rs Ex} (hx : okx x = true) (h : OkR r) (ho : (3 ≤ o ∧ o ≤ 7) ∨ o = 11 ∨ (17 ≤ o ∧ o ≤ 25)) : OkR (wrapB o x r) := by
  cases r with
  | bad j => trivial
  | ok y j => exact okx_bin hx h ho
theorem fun1_range {x : List UInt8} {o : Nat} (h : fun1 x = some o) : (8 ≤ o ∧ o ≤ 10) ∨ (12 ≤ o ∧ o ≤ 16) := by
  unfold fun1 at h
  split at h
  · injection h with h; subst h
    have := fop_range ‹_›; omega
  · have := fop_range h; omega
theorem lop_range {l : Nat} {x : List UInt8} {o : Nat} (h : lop l x = some o) : (3 ≤ o ∧ o ≤ 7) ∨ o = 11 ∨ (17 ≤ o ∧ o ≤ 25) := by
  unfold lop at h
  have := fop_range h
  unfold lo cn at this
  split at this <;> simp at this <;> omega
theorem num_ok {ts : List Tok} (hg : Good ts) {i : Nat} (h : kd ts i = 2) : 0 ≤ tn ts i ∧ tn ts i < 1000000000000000 := by
  have g := kd_lt h (by decide)
  unfold kd at h; unfold tn
  rw [List.getElem?_eq_getElem g] at h ⊢
  exact (hg _ (List.getElem_mem g)).1 h
structure OkAll (ts : List Tok) (f : Nat) : Prop where
  e : ∀ l i, OkR (pE ts f l i)
  l : ∀ l x i, okx x = true → OkR (pL ts f l x i)
  p : ∀ i, OkR (pP ts f i)
  c : ∀ i, OkR (pC ts f i)
  b : ∀ i, OkR (pB ts f i)
theorem okr (ts : List Tok) (hg : Good ts) : ∀ f, OkAll ts f
  | 0 => ⟨fun l i => by unfold pE; trivial, fun l x i h => by unfold pL; trivial, fun i => by unfold pP; trivial, fun i => by unfold pC; trivial, fun i => by unfold pB; trivial⟩
  | f + 1 => by
    have ih := okr ts hg f
    refine ⟨fun l i => ?_, fun l x i h => ?_, fun i => ?_, fun i => ?_, fun i => ?_⟩
    · unfold pE
      split
      · split
        · exact OkR.wrapU (o := 2) (ih.e 5 (i + 1)) (by omega)
        · split
          · exact ih.e 5 (i + 1)
          · exact ih.p i
      · have g := ih.e (l + 1) i
        cases e : pE ts f (l + 1) i with
        | bad j => trivial
        | ok x j => rw [e] at g; exact ih.l l x j g
    · unfold pL
      cases e : lop l (tx ts i) with
      | none => exact h
      | some o =>
        have g := ih.e (l + 1) (i + 1)
        cases e1 : pE ts f (l + 1) (i + 1) with
        | bad j => trivial
        | ok y j =>
          rw [e1] at g
          have k : okx (bin o x y) = true := okx_bin h g (lop_range e)
          simp only
          split
          · exact k
          · exact ih.l l _ j k
    · unfold pP
      split
      · have g := ih.b (i + 1)
        cases e1 : pB ts f (i + 1) with
        | bad j => trivial
        | ok x j =>
          rw [e1] at g
          simp only
          split
          · exact OkR.wrapB (o := 11) g (ih.b (j + 1)) (by omega)
          · trivial
      · cases e1 : fun1 (tx ts i) with
        | none => exact ih.c i
        | some o => exact OkR.wrapU (ih.b (i + 1)) (by have := fun1_range e1; omega)
    · unfold pC
      split
      · have := num_ok hg ‹_›
        exact okx_num this.1 this.2
      · split
        · exact OkR.wrapU (o := 1) (ih.c (i + 1)) (by omega)
        · exact ih.b i
    · unfold pB
      split
      · exact OkR.shut (ih.e 0 (i + 1))
      · trivial
def smp (x : Ex) : Bool := decide (x.op = 0) || decide (x.op = 1)
def need (n i l : Nat) : Nat := 16 * (n - i) + 4 + (5 - l)
def binB (o : Nat) : Bool := (decide (3 ≤ o) && decide (o ≤ 7)) || (decide (17 ≤ o) && decide (o ≤ 25))
theorem binB_of {o : Nat} (h : (3 ≤ o ∧ o ≤ 7) ∨ o = 11 ∨ (17 ≤ o ∧ o ≤ 25)) (h' : o ≠ 11) : binB o = true := by
  unfold binB; simp; omega
end Sy
end Go.Proofs.YthfcimfoinidbaaDoor
set_option linter.unusedVariables false
set_option linter.unusedSimpArgs false
namespace Go.Proofs.YthfcimfoinidbaaDoor
namespace Sy
open Lx
def noneB (x : Ex) : Bool := decide (x.op = 0) && decide (x.n = 0) && decide (x.ks.length = 0)
theorem noneB_eq {x : Ex} (h : noneB x = true) : x = zx := by
  obtain ⟨o, n, ks⟩ := x
  unfold noneB at h
  simp only [Bool.and_eq_true] at h
  obtain ⟨⟨h1, h2⟩, h3⟩ := h
  have k1 : o = 0 := of_decide_eq_true h1
  have k2 : n = 0 := of_decide_eq_true h2
  have k3 : ks.length = 0 := of_decide_eq_true h3
  rw [k1, k2, List.eq_nil_of_length_eq_zero k3]; rfl
def depB (x : Ex) : Bool := decide (dpt x ≤ 16)
def rgt (x : Ex) : Bool := okx x && depB x
def cnt (n : Int) (m : Nat) : Bool := decide (1 ≤ n) && decide (n ≤ m)
def okb (b : Bl) : Bool :=
  (decide (b.label = 0) || cnt b.label 99999) &&
  (if b.kind = 0 then b.words.all (fun w => isw w.1 && okx w.2) && noneB b.left && noneB b.x && decide (b.n = 0)
  else decide (b.words = []) &&
    (if b.kind = 1 ∨ b.kind = 3 then okx b.left && okx b.x && decide (b.n = 0)
    else if b.kind = 2 then noneB b.left && okx b.x && decide (b.n = 0)
    else if b.kind = 4 then noneB b.left && okx b.x && cnt b.n 3
    else if b.kind = 5 then noneB b.left && noneB b.x && cnt b.n 3
    else if b.kind = 6 then noneB b.left && noneB b.x && cnt b.n 99999
    else false))
def limb (b : Bl) : Bool := decide (b.words.length ≤ 24) && b.words.all (fun w => depB w.2) && depB b.left && depB b.x
def vldb (b : Bl) : Bool := okb b && limb b
theorem dpt_zx : depB zx = true := by unfold depB zx; rw [dpt_mk]; decide
def cIF : List UInt8 := [73, 70]
def cGOTO : List UInt8 := [71, 79, 84, 79]
def cWHILE : List UInt8 := [87, 72, 73, 76, 69]
def cDO : List UInt8 := [68, 79]
def cEND : List UInt8 := [69, 78, 68]
theorem pV_ok {ts : List Tok} (hg : Good ts) (i : Nat) : OkR (pV ts i) := by
  unfold pV
  split
  · exact OkR.wrapU (o := 2) ((okr ts hg _).c (i + 1)) (by omega)
  · split
    · exact (okr ts hg _).c (i + 1)
    · exact (okr ts hg _).c i
def wsB (ws : List (Int × Ex)) : Bool := ws.all (fun w => isw w.1 && okx w.2)
theorem pW_ok {ts : List Tok} (hg : Good ts) : ∀ (f : Nat) (ws : List (Int × Ex)) (i : Nat), wsB ws = true → ∀ us j, pW ts f ws i = .ok us j → wsB us = true
  | 0, ws, i, h, us, j, e => by unfold pW at e; cases e
  | f + 1, ws, i, h, us, j, e => by
    unfold pW at e
    split at e
    · rename_i hc
      have g := pV_ok hg (i + 1)
      cases e1 : pV ts (i + 1) with
      | bad k => rw [e1] at e; cases e
      | ok x k =>
        rw [e1] at e g
        simp only at e
        refine pW_ok hg f _ k ?_ us j e
        unfold wsB at h ⊢
        rw [List.all_append, h]
        simp [hc.2, show okx x = true from g]
    · cases e; exact h
theorem wrapC_ok {α β : Type} {g : α → β} {r : Rs α} {y : β} {j : Nat} (e : wrapC g r = .ok y j) : ∃ x, r = .ok x j ∧ y = g x := by
  cases r with
  | bad k => cases e
  | ok x k => cases e; exact ⟨x, rfl, rfl⟩
end Sy
end Go.Proofs.YthfcimfoinidbaaDoor
set_option linter.unusedVariables false
set_option linter.unusedSimpArgs false
namespace Go.Proofs.YthfcimfoinidbaaDoor
open Go.RowKit
structure Px (P : Nat) (w w' : World) : Prop where
  os : w'.os = w.os
  tape : w'.tape = w.tape
  output : w'.output = w.output
  size : w.heap.size ≤ w'.heap.size
  block : ∀ k, k < w.heap.size → k ≠ P → w'.heap[k]? = w.heap[k]?
theorem Px.refl (P : Nat) (w : World) : Px P w w := ⟨rfl, rfl, rfl, Nat.le_refl _, fun _ _ _ => rfl⟩
theorem Px.of {P : Nat} {w w' : World} (q : Qw w w') : Px P w w' := ⟨q.os, q.tape, q.output, q.size, fun k h _ => q.block k h⟩
theorem Px.trans {P : Nat} {a b c : World} (h : Px P a b) (k : Px P b c) : Px P a c :=
  ⟨k.os.trans h.os, k.tape.trans h.tape, k.output.trans h.output, Nat.le_trans h.size k.size, fun i hi hp => (k.block i (Nat.lt_of_lt_of_le hi h.size) hp).trans (h.block i hi hp)⟩
theorem Px.set (P : Nat) (w : World) (o : Nat) (u : Value) : Px P w (w.setCell ⟨P, o, none⟩ u) :=
  ⟨rfl, rfl, rfl, by simp [World.setCell], fun k _ hp => Below.heap_setCell _ _ _ _ hp⟩
theorem Px.below {P : Nat} {w w' : World} (h : Px P w w') (hP : P ≤ w.heap.size) : Below P w w' := ⟨h.os, h.tape, h.output, h.size, fun k hk => h.block k (by omega) (by omega)⟩
theorem Px.alloc {P : Nat} {a w : World} (h : Px P a w) (o : Obj) : Px P a (w.alloc o) :=
  h.trans ⟨rfl, rfl, rfl, by simp, fun k hk _ => Below.heap_alloc _ _ _ hk⟩
theorem Px.setP {P : Nat} {a w : World} (h : Px P a w) (o : Nat) (u : Value) : Px P a (w.setCell ⟨P, o, none⟩ u) := h.trans (Px.set P w o u)
theorem Px.setNew {P : Nat} {a w : World} (h : Px P a w) {p : Addr} (hp : a.heap.size ≤ p.block) (u : Value) : Px P a (w.setCell p u) :=
  ⟨h.os, h.tape, h.output, by have := h.size; simpa [World.setCell] using this, fun k hk hP => (Below.heap_setCell _ _ _ _ (by omega)).trans (h.block k hk hP)⟩
theorem Px.drew {P : Nat} {a w : World} (h : Px P a w) : Px P a w.drew := ⟨h.os, h.tape, h.output, h.size, h.block⟩
theorem Px.drewN {P : Nat} {a w : World} (h : Px P a w) (n : Nat) : Px P a (w.drewN n) := h.trans ⟨rfl, rfl, rfl, Nat.le_refl _, fun _ _ _ => rfl⟩
theorem Bx.px {P : Nat} {w w' : World} {b : Nat} {cs : Array Value} {t : TypeId} (h : Bx w b cs t) (q : Px P w w') (hb : b ≠ P) : Bx w' b cs t := (q.block b h.lt hb).trans h
theorem Qw.al {a w : World} (h : Qw a w) (o : Obj) : Qw a (w.alloc o) := Below.alloc h h.size o
theorem Qw.dr {a w : World} (h : Qw a w) : Qw a w.drew := Below.drew h
theorem Qw.dn {a w : World} (h : Qw a w) (n : Nat) : Qw a (w.drewN n) := Below.trans h ⟨rfl, rfl, rfl, Nat.le_refl _, fun _ _ => rfl⟩
theorem Qw.sc {a w : World} (h : Qw a w) {p : Addr} (hp : a.heap.size ≤ p.block) (u : Value) : Qw a (w.setCell p u) := Below.setCell h hp u
theorem Qw.le {w w' : World} (h : Qw w w') : w.heap.size ≤ w'.heap.size := h.size
theorem Qw.bel {w w' : World} (h : Qw w w') : Below w.heap.size w w' := h
def Ow (w : World) : Prop := 0 < w.heap.size ∧ ∀ j, j < 26 → w.cell? ⟨0, j * 2, none⟩ = some (.string (bs (Sy.onm j))) ∧ w.cell? ⟨0, j * 2 + 1, none⟩ = some (.int .i64 (Sy.kds j : Nat))
theorem Ow.cong {w w' : World} (h : Ow w) (hs : w.heap.size ≤ w'.heap.size) (hb : w'.heap[0]? = w.heap[0]?) : Ow w' :=
  ⟨Nat.lt_of_lt_of_le h.1 hs, fun j hj => by
    have k : ∀ o, w'.cell? ⟨0, o, none⟩ = w.cell? ⟨0, o, none⟩ := fun o => World.cell?_of_block (w := w) hb
    rw [k, k]; exact h.2 j hj⟩
theorem Ow.kept {w w' : World} (h : Ow w) (q : Qw w w') : Ow w' := h.cong q.size (q.block _ h.1)
structure Par (w : World) (P : Nat) (a : Option Addr) (cap : Nat) (ts : List Lx.Tok) (len i : Nat) : Prop where
  bx : Bx w P #[.slice a ts.length cap, .int .i64 (i : Int), .int .i64 (len : Int)] 55
  tk : ToksB P w (.slice a ts.length cap) ts
  ow : Ow w
  og : 0 ≠ P
  le : i ≤ ts.length
  hl : ts.length ≤ 1000000
theorem Par.kept {w w' : World} {P : Nat} {a : Option Addr} {cap : Nat} {ts : List Lx.Tok} {len i : Nat} (h : Par w P a cap ts len i) (q : Qw w w') : Par w' P a cap ts len i :=
  ⟨h.bx.kept q, h.tk.kept q (Nat.le_of_lt h.bx.lt), h.ow.kept q, h.og, h.le, h.hl⟩
theorem Par.set {w : World} {P : Nat} {a : Option Addr} {cap : Nat} {ts : List Lx.Tok} {len i : Nat} (h : Par w P a cap ts len i) (j : Nat) (hj : j ≤ ts.length) : Par (w.setCell ⟨P, 1, none⟩ (.int .i64 (j : Int))) P a cap ts len j :=
  ⟨h.bx.set 1 _, h.tk.kept ((Px.set P w 1 _).below (Nat.le_of_lt h.bx.lt)) (Nat.le_refl _), h.ow.cong (by simp [World.setCell]) (Below.heap_setCell _ _ _ _ h.og), h.og, hj, h.hl⟩
def tokV (ts : List Lx.Tok) (len i : Nat) : Value := .agg #[.int .i64 (Sy.kd ts i), .int .i64 (Sy.tn ts i), .int .i64 (Sy.tp ts len i : Nat), .string (bs (Sy.tx ts i))]
theorem tok_end {ts : List Lx.Tok} {i : Nat} (h : i = ts.length) (len : Nat) : tokV ts len i = .agg #[.int .i64 0, .int .i64 0, .int .i64 (len : Nat), .string ⟨#[]⟩] := by
  unfold tokV Sy.kd Sy.tn Sy.tp Sy.tx
  rw [List.getElem?_eq_none (by omega)]
  rfl
theorem tok_mid {ts : List Lx.Tok} {i : Nat} (h : i < ts.length) (len : Nat) : tokV ts len i = .agg #[.int .i64 ts[i].k, .int .i64 ts[i].n, .int .i64 (ts[i].p : Nat), .string (bs ts[i].x)] := by
  unfold tokV Sy.kd Sy.tn Sy.tp Sy.tx
  rw [List.getElem?_eq_getElem h]
theorem bel_drewN {B : Nat} {a w : World} (h : Below B a w) (n : Nat) : Below B a (w.drewN n) := h.trans ⟨rfl, rfl, rfl, Nat.le_refl _, fun _ _ => rfl⟩
theorem ret_tok {fn : Func} {s : Nat} {a : Act} {w : World} {b : Nat} {v0 v1 v2 v3 : Value} {t : TypeId} (hr : fn.results = #[.cell s 68]) (hs : a.tmps[s]?.getD undef = .pointer (some ⟨b, 0, none⟩)) (X : Bx w b #[v0, v1, v2, v3] t) :
    (results fn a.tmps).run Tryd.prog w = .ok (.agg #[v0, v1, v2, v3]) w := by
  have c0 : w.cell? ⟨b, 0, none⟩ = some v0 := X.cell' 0 _ rfl
  have c1 : w.cell? ⟨b, 1, none⟩ = some v1 := X.cell' 1 _ rfl
  have c2 : w.cell? ⟨b, 2, none⟩ = some v2 := X.cell' 2 _ rfl
  have c3 : w.cell? ⟨b, 3, none⟩ = some v3 := X.cell' 3 _ rfl
  simp [results, hr, hs, go_sem, c0, c1, c2, c3]
theorem ret_ex {fn : Func} {s : Nat} {a : Act} {w : World} {b : Nat} {v0 v1 v2 : Value} {t : TypeId} (hr : fn.results = #[.cell s 32]) (hs : a.tmps[s]?.getD undef = .pointer (some ⟨b, 0, none⟩)) (X : Bx w b #[v0, v1, v2] t) :
    (results fn a.tmps).run Tryd.prog w = .ok (.agg #[v0, v1, v2]) w := by
  have c0 : w.cell? ⟨b, 0, none⟩ = some v0 := X.cell' 0 _ rfl
  have c1 : w.cell? ⟨b, 1, none⟩ = some v1 := X.cell' 1 _ rfl
  have c2 : w.cell? ⟨b, 2, none⟩ = some v2 := X.cell' 2 _ rfl
  simp [results, hr, hs, go_sem, c0, c1, c2]
theorem ret_fail {fn : Func} {s : Nat} {a : Act} {w : World} {b : Nat} {v0 v1 : Value} {t : TypeId} (hr : fn.results = #[.cell s 52]) (hs : a.tmps[s]?.getD undef = .pointer (some ⟨b, 0, none⟩)) (X : Bx w b #[v0, v1] t) :
    (results fn a.tmps).run Tryd.prog w = .ok (.agg #[v0, v1]) w := by
  have c0 : w.cell? ⟨b, 0, none⟩ = some v0 := X.cell' 0 _ rfl
  have c1 : w.cell? ⟨b, 1, none⟩ = some v1 := X.cell' 1 _ rfl
  simp [results, hr, hs, go_sem, c0, c1]
theorem ret_blk {fn : Func} {s : Nat} {a : Act} {w : World} {b : Nat} {v0 v1 v2 v3 v4 v5 v6 v7 v8 v9 v10 : Value} {t : TypeId} (hr : fn.results = #[.cell s 34]) (hs : a.tmps[s]?.getD undef = .pointer (some ⟨b, 0, none⟩)) (X : Bx w b #[v0, v1, v2, v3, v4, v5, v6, v7, v8, v9, v10] t) :
    (results fn a.tmps).run Tryd.prog w = .ok (.agg #[v0, v1, v2, v3, v4, v5, v6, v7, v8, v9, v10]) w := by
  have c0 : w.cell? ⟨b, 0, none⟩ = some v0 := X.cell' 0 _ rfl
  have c1 : w.cell? ⟨b, 1, none⟩ = some v1 := X.cell' 1 _ rfl
  have c2 : w.cell? ⟨b, 2, none⟩ = some v2 := X.cell' 2 _ rfl
  have c3 : w.cell? ⟨b, 3, none⟩ = some v3 := X.cell' 3 _ rfl
  have c4 : w.cell? ⟨b, 4, none⟩ = some v4 := X.cell' 4 _ rfl
  have c5 : w.cell? ⟨b, 5, none⟩ = some v5 := X.cell' 5 _ rfl
  have c6 : w.cell? ⟨b, 6, none⟩ = some v6 := X.cell' 6 _ rfl
  have c7 : w.cell? ⟨b, 7, none⟩ = some v7 := X.cell' 7 _ rfl
  have c8 : w.cell? ⟨b, 8, none⟩ = some v8 := X.cell' 8 _ rfl
  have c9 : w.cell? ⟨b, 9, none⟩ = some v9 := X.cell' 9 _ rfl
  have c10 : w.cell? ⟨b, 10, none⟩ = some v10 := X.cell' 10 _ rfl
  simp [results, hr, hs, go_sem, c0, c1, c2, c3, c4, c5, c6, c7, c8, c9, c10]
set_option maxRecDepth 100000 in
set_option maxHeartbeats 4000000 in
theorem syNext {w : World} {P : Nat} {a : Option Addr} {cap : Nat} {ts : List Lx.Tok} {len i : Nat} (h : Par w P a cap ts len i) :
    Calls Tryd.prog 51 #[.pointer (some ⟨P, 0, none⟩)] w fun e w' => e = .returned (tokV ts len i) ∧ Qw w w' := by
  have c0 : w.cell? ⟨P, 0, none⟩ = some (.slice a ts.length cap) := h.bx.cell' 0 _ rfl
  have c1 : w.cell? ⟨P, 1, none⟩ = some (.int .i64 (i : Int)) := h.bx.cell' 1 _ rfl
  have c2 : w.cell? ⟨P, 2, none⟩ = some (.int .i64 (len : Int)) := h.bx.cell' 2 _ rfl
  have hP := h.bx.lt
  have hl := h.hl
  have hle := h.le
  obtain ⟨a', cap', e, l1, l2, ht⟩ := h.tk
  injection e with e1 e2 e3
  subst e1 e3
  by_cases hi : i = ts.length
  · rw [tok_end hi]
    clear ht hle h
    subst hi
    go_enter Tryd.func51, Tryd.ntmps51
    go_wp2
    go_quiet (fail)
    go_wp2
    exact bodyPost_ret (v := .agg #[.int .i64 0, .int .i64 0, .int .i64 (len : Nat), .string ⟨#[]⟩]) (by simp [results, Tryd.results51, go_sem]) rfl ⟨rfl, (by repeat (first | exact q0.out | exact Qw.refl _ | refine Qw.al ?_ _ | refine Qw.dr ?_ | refine Qw.dn ?_ _ | refine Qw.sc ?_ (by first | (simp; done) | omega | (have := q0.out.size; first | omega | (simp; omega))) _))⟩
  · have hi' : i < ts.length := by omega
    rw [tok_mid hi']
    rcases ht with h0 | ⟨g, off, rfl, hg, hc⟩
    · rw [h0] at hi'; simp at hi'
    obtain ⟨d0, d1, d2, d3⟩ := hc i hi'
    have E : ((i : Int) == (ts.length : Int)) = false := beq_eq_false_iff_ne.2 (by omega)
    have hgP : g ≠ w.heap.size := by omega
    have hi3 : (i : Int) < (ts.length : Int) := by omega
    clear hc hi h
    generalize ts[i].k = t0 at *
    generalize ts[i].n = t1 at *
    generalize ts[i].p = t2 at *
    generalize bs ts[i].x = t3 at *
    go_enter Tryd.func51, Tryd.ntmps51
    go_wp2
    go_quiet (fail)
    go_wp2_with fail
    refine code_of (fun w' => Bx w' w.heap.size #[.int .i64 0, .int .i64 0, .int .i64 0, .string ⟨#[]⟩] 68 ∧ Qw w w') ⟨(Bx.new w _ _), (by repeat (first | exact q0.out | exact Qw.refl _ | refine Qw.al ?_ _ | refine Qw.dr ?_ | refine Qw.dn ?_ _ | refine Qw.sc ?_ (by first | (simp; done) | omega | (have := q0.out.size; first | omega | (simp; omega))) _))⟩ ?_
    rintro w1 ⟨X, q⟩
    have kP : ∀ o, w1.cell? ⟨P, o, none⟩ = w.cell? ⟨P, o, none⟩ := fun o => q.cell (p := ⟨P, o, none⟩) hP
    have kg : ∀ o, w1.cell? ⟨g, o, none⟩ = w.cell? ⟨g, o, none⟩ := fun o => q.cell (p := ⟨g, o, none⟩) (by show g < w.heap.size; omega)
    rw [← kP] at c0 c1 c2
    rw [← kg] at d0 d1 d2 d3
    have x0 := X.cell' 0 _ rfl
    have x1 := X.cell' 1 _ rfl
    have x2 := X.cell' 2 _ rfl
    have x3 := X.cell' 3 _ rfl
    have y0 := X.free 0
    have y1 := X.free 1
    have y2 := X.free 2
    have y3 := X.free 3
    have XX := Lib.hid X
    have q0 := Lib.hid q
    clear kP kg X q
    refine wp_region_still_tail 10 (by kernel_rfl) (by kernel_rfl) ?_
    change wpStill _ _ (World.drew _) _ _ _
    simp only [List.take_succ_cons, List.take_zero, List.drop_succ_cons, List.drop_zero]
    repeat still_step
    refine wpStill_nil ?_
    change wpList _ _ _ _ _ (World.drew _)
    go_wp2
    exact bodyPost_ret (ret_tok Tryd.results51 rfl ((((XX.out.set 0 _).set 1 _).set 2 _).set 3 _)) rfl ⟨rfl, (by repeat (first | exact q0.out | exact Qw.refl _ | refine Qw.al ?_ _ | refine Qw.dr ?_ | refine Qw.dn ?_ _ | refine Qw.sc ?_ (by first | (simp; done) | omega | (have := q0.out.size; first | omega | (simp; omega))) _))⟩
theorem run_field_x (k n p : Int) (x : ByteArray) (w : World) : (Instr.field 68 (.agg #[.int .i64 k, .int .i64 n, .int .i64 p, .string x]) 3).run Tryd.prog w = .ok (.string x) w := by kernel_rfl
theorem run_field_p (k n p : Int) (x : ByteArray) (w : World) : (Instr.field 68 (.agg #[.int .i64 k, .int .i64 n, .int .i64 p, .string x]) 2).run Tryd.prog w = .ok (.int .i64 p) w := by kernel_rfl
def failP (p : Nat) (c : Int) : List PanicEntry := [{ v := .iface 52 (.agg #[.int .i64 (p : Nat), .int .i64 c]), recovered := false }]
set_option maxRecDepth 100000 in
set_option maxHeartbeats 4000000 in
theorem syUnexpected {w : World} {P : Nat} {a : Option Addr} {cap : Nat} {ts : List Lx.Tok} {len i : Nat} (h : Par w P a cap ts len i) :
    Calls Tryd.prog 35 #[.pointer (some ⟨P, 0, none⟩)] w fun e w' => e = .returned (.agg #[.int .i64 (Sy.tp ts len i : Nat), .int .i64 2]) ∧ Qw w w' := by
  have H := Lib.hid h
  clear h
  have hf := run_field_p (Sy.kd ts i) (Sy.tn ts i) (Sy.tp ts len i : Nat) (bs (Sy.tx ts i))
  go_enter Tryd.func35, Tryd.ntmps35
  go_wp2_with (go_at_call 51; ((with_reducible refine (syNext (H.out.kept (by repeat (first | exact q0.out | exact Qw.refl _ | refine Qw.al ?_ _ | refine Qw.dr ?_ | refine Qw.dn ?_ _ | refine Qw.sc ?_ (by first | (simp; done) | omega | (have := q0.out.size; first | omega | (simp; omega))) _)))).mono ?_); rintro e w' ⟨rfl, q⟩; unfold tokV; have X := (Bx.new w #[.int .i64 0, .int .i64 0] 52).kept q; have x0 := X.cell' 0 _ rfl; have x1 := X.cell' 1 _ rfl; have y0 := X.free 0; have y1 := X.free 1; replace X := Lib.hid X; have q0 : Hid (Qw w w') := Lib.hid (Qw.trans (by repeat (first | exact q0.out | exact Qw.refl _ | refine Qw.al ?_ _ | refine Qw.dr ?_ | refine Qw.dn ?_ _ | refine Qw.sc ?_ (by first | (simp; done) | omega | (have := q0.out.size; first | omega | (simp; omega))) _)) q); clear q))
  exact bodyPost_ret (ret_fail Tryd.results35 rfl ((X.out.set 0 _).set 1 _)) rfl ⟨rfl, (by repeat (first | exact q0.out | exact Qw.refl _ | refine Qw.al ?_ _ | refine Qw.dr ?_ | refine Qw.dn ?_ _ | refine Qw.sc ?_ (by first | (simp; done) | omega | (have := q0.out.size; first | omega | (simp; omega))) _))⟩
set_option maxRecDepth 100000 in
set_option maxHeartbeats 4000000 in
theorem syAcceptY {w : World} {P : Nat} {a : Option Addr} {cap : Nat} {ts : List Lx.Tok} {len i : Nat} (h : Par w P a cap ts len i) (x : ByteArray) (hx : x = bs (Sy.tx ts i)) (h0 : Sy.tx ts i ≠ []) :
    Calls Tryd.prog 31 #[.pointer (some ⟨P, 0, none⟩), .string x] w fun e w' => e = .returned (.bool true) ∧ Par w' P a cap ts len (i + 1) ∧ Px P w w' := by
  subst hx
  have hi := Sy.tx_lt (x := Sy.tx ts i) rfl h0
  have hl := h.hl
  have H := Lib.hid h
  clear h
  have hf := run_field_x (Sy.kd ts i) (Sy.tn ts i) (Sy.tp ts len i : Nat) (bs (Sy.tx ts i))
  have hb := beq_txt (bs (Sy.tx ts i)) (bs (Sy.tx ts i))
  rw [decide_eq_true rfl] at hb
  have e1 : ((i + 1 : Nat) : Int) = (i : Int) + 1 := by omega
  replace e1 := Lib.hid e1
  go_enter Tryd.func31, Tryd.ntmps31
  go_wp2_with (go_at_call 51; ((with_reducible refine (syNext (H.out.kept (by repeat (first | exact q0.out | exact Qw.refl _ | refine Qw.al ?_ _ | refine Qw.dr ?_ | refine Qw.dn ?_ _ | refine Qw.sc ?_ (by first | (simp; done) | omega | (have := q0.out.size; first | omega | (simp; omega))) _)))).mono ?_); rintro e w' ⟨rfl, q⟩; unfold tokV; have p1 : w'.cell? ⟨P, 1, none⟩ = some (.int .i64 (i : Int)) := (H.out.kept q).bx.cell' 1 _ rfl; have p2 := (H.out.kept q).bx.free 1; have q0 : Hid (Qw w w') := Lib.hid (Qw.trans (by repeat (first | exact q0.out | exact Qw.refl _ | refine Qw.al ?_ _ | refine Qw.dr ?_ | refine Qw.dn ?_ _ | refine Qw.sc ?_ (by first | (simp; done) | omega | (have := q0.out.size; first | omega | (simp; omega))) _)) q); clear q))
  go_ret
  exact ⟨rfl, by have := (H.out.kept q0.out).set (i + 1) hi; rw [e1.out] at this; exact this, (by repeat (first | exact q0.out | exact Px.of q0.out | exact Px.refl _ _ | refine Px.setP ?_ _ _ | refine Px.alloc ?_ _ | refine Px.drewN ?_ _ | refine Px.drew ?_ | refine Px.setNew ?_ (by first | (simp; done) | omega | (have := q0.out.size; first | omega | (simp; omega))) _))⟩
set_option maxRecDepth 100000 in
set_option maxHeartbeats 4000000 in
theorem syAcceptN {w : World} {P : Nat} {a : Option Addr} {cap : Nat} {ts : List Lx.Tok} {len i : Nat} (h : Par w P a cap ts len i) (x : ByteArray) (hx : x ≠ bs (Sy.tx ts i)) :
    Calls Tryd.prog 31 #[.pointer (some ⟨P, 0, none⟩), .string x] w fun e w' => e = .returned (.bool false) ∧ Qw w w' := by
  have H := Lib.hid h
  clear h
  have hf := run_field_x (Sy.kd ts i) (Sy.tn ts i) (Sy.tp ts len i : Nat) (bs (Sy.tx ts i))
  have hb := beq_txt (bs (Sy.tx ts i)) x
  rw [decide_eq_false (fun h => hx h.symm)] at hb
  go_enter Tryd.func31, Tryd.ntmps31
  go_wp2_with (go_at_call 51; ((with_reducible refine (syNext (H.out.kept (by repeat (first | exact q0.out | exact Qw.refl _ | refine Qw.al ?_ _ | refine Qw.dr ?_ | refine Qw.dn ?_ _ | refine Qw.sc ?_ (by first | (simp; done) | omega | (have := q0.out.size; first | omega | (simp; omega))) _)))).mono ?_); rintro e w' ⟨rfl, q⟩; unfold tokV; have q0 : Hid (Qw w w') := Lib.hid (Qw.trans (by repeat (first | exact q0.out | exact Qw.refl _ | refine Qw.al ?_ _ | refine Qw.dr ?_ | refine Qw.dn ?_ _ | refine Qw.sc ?_ (by first | (simp; done) | omega | (have := q0.out.size; first | omega | (simp; omega))) _)) q); clear q))
  go_ret
  exact ⟨rfl, (by repeat (first | exact q0.out | exact Qw.refl _ | refine Qw.al ?_ _ | refine Qw.dr ?_ | refine Qw.dn ?_ _ | refine Qw.sc ?_ (by first | (simp; done) | omega | (have := q0.out.size; first | omega | (simp; omega))) _))⟩
theorem syAccept {w : World} {P : Nat} {a : Option Addr} {cap : Nat} {ts : List Lx.Tok} {len i : Nat} (h : Par w P a cap ts len i) (x : List UInt8) (X : ByteArray) (hX : X = bs x) (hx : x ≠ []) :
    Calls Tryd.prog 31 #[.pointer (some ⟨P, 0, none⟩), .string X] w fun e w' => e = .returned (.bool (decide (Sy.tx ts i = x))) ∧ Par w' P a cap ts len (if Sy.tx ts i = x then i + 1 else i) ∧ Px P w w' := by
  subst hX
  by_cases e : Sy.tx ts i = x
  · rw [if_pos e, decide_eq_true e]
    exact syAcceptY h (bs x) (by rw [e]) (by rw [e]; exact hx)
  · rw [if_neg e, decide_eq_false e]
    exact (syAcceptN h (bs x) (fun k => e (bs_inj.1 k).symm)).mono fun _ _ ⟨h1, h2⟩ => ⟨h1, h.kept h2, Px.of h2⟩
set_option maxRecDepth 100000 in
set_option maxHeartbeats 4000000 in
theorem syExpectY {w : World} {P : Nat} {a : Option Addr} {cap : Nat} {ts : List Lx.Tok} {len i : Nat} (h : Par w P a cap ts len i) (x : ByteArray) (hx : x = bs (Sy.tx ts i)) (h0 : Sy.tx ts i ≠ []) :
    Calls Tryd.prog 68 #[.pointer (some ⟨P, 0, none⟩), .string x] w fun e w' => e = .returned (.tuple #[]) ∧ Par w' P a cap ts len (i + 1) ∧ Px P w w' := by
  have H := Lib.hid h
  replace h0 := Lib.hid h0
  replace hx := Lib.hid hx
  clear h
  go_enter Tryd.func68, Tryd.ntmps68
  go_wp2_with (go_at_call 31; ((with_reducible refine (syAcceptY (H.out.kept (by repeat (first | exact q0.out | exact Qw.refl _ | refine Qw.al ?_ _ | refine Qw.dr ?_ | refine Qw.dn ?_ _ | refine Qw.sc ?_ (by first | (simp; done) | omega | (have := q0.out.size; first | omega | (simp; omega))) _))) x hx.out h0.out).mono ?_); rintro e w' ⟨rfl, h1, q⟩; replace h1 := Lib.hid h1; have q0 := Lib.hid q; clear q))
  go_end0
  exact ⟨rfl, h1.out, q0.out⟩
set_option maxRecDepth 100000 in
set_option maxHeartbeats 4000000 in
theorem syExpectN {w : World} {P : Nat} {a : Option Addr} {cap : Nat} {ts : List Lx.Tok} {len i : Nat} (h : Par w P a cap ts len i) (x : ByteArray) (hx : x ≠ bs (Sy.tx ts i)) :
    Calls Tryd.prog 68 #[.pointer (some ⟨P, 0, none⟩), .string x] w fun e w' => e = .panicked (failP (Sy.tp ts len i) 2) ∧ Qw w w' := by
  have H := Lib.hid h
  replace hx := Lib.hid hx
  clear h
  have q0 : Hid (Qw w w) := Lib.hid (Qw.refl w)
  go_enter Tryd.func68, Tryd.ntmps68
  go_wp2_with (first | (go_at_call 31; ((with_reducible refine (syAcceptN (H.out.kept (by repeat (first | exact q0.out | exact Qw.refl _ | refine Qw.al ?_ _ | refine Qw.dr ?_ | refine Qw.dn ?_ _ | refine Qw.sc ?_ (by first | (simp; done) | omega | (have := q0.out.size; first | omega | (simp; omega))) _))) x hx.out).mono ?_); rintro e w' ⟨rfl, q⟩; replace q0 : Hid (Qw w w') := Lib.hid (Qw.trans (by repeat (first | exact q0.out | exact Qw.refl _ | refine Qw.al ?_ _ | refine Qw.dr ?_ | refine Qw.dn ?_ _ | refine Qw.sc ?_ (by first | (simp; done) | omega | (have := q0.out.size; first | omega | (simp; omega))) _)) q); clear q)) | (go_at_call 35; ((with_reducible refine (syUnexpected (H.out.kept (by repeat (first | exact q0.out | exact Qw.refl _ | refine Qw.al ?_ _ | refine Qw.dr ?_ | refine Qw.dn ?_ _ | refine Qw.sc ?_ (by first | (simp; done) | omega | (have := q0.out.size; first | omega | (simp; omega))) _)))).mono ?_); rintro e w' ⟨rfl, q⟩; replace q0 : Hid (Qw w w') := Lib.hid (Qw.trans (by repeat (first | exact q0.out | exact Qw.refl _ | refine Qw.al ?_ _ | refine Qw.dr ?_ | refine Qw.dn ?_ _ | refine Qw.sc ?_ (by first | (simp; done) | omega | (have := q0.out.size; first | omega | (simp; omega))) _)) q); clear q)))
  exact ⟨rfl, rfl, q0.out⟩
end Go.Proofs.YthfcimfoinidbaaDoor

