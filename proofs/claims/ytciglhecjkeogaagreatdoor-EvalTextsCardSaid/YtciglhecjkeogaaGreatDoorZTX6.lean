import Derived.Test.YtciglhecjkeogaaGreatDoorZTX2
set_option linter.unusedVariables false
set_option linter.unusedSimpArgs false
namespace Go.Proofs.YtciglhecjkeogaaGreatDoor
namespace Sy
open Lx
inductive Ex where
  | mk (op n : Int) (ks : List Ex)
def Ex.op : Ex → Int | .mk o _ _ => o
def Ex.n : Ex → Int | .mk _ n _ => n
def Ex.ks : Ex → List Ex | .mk _ _ k => k
theorem Ex.ind {P : Ex → Prop} (h : ∀ op n ks, (∀ k ∈ ks, P k) → P (.mk op n ks)) : ∀ x, P x
  | .mk op n ks => h op n ks (fun k _ => Ex.ind h k)
def onms : List (List UInt8) := [[], [35], [45], [43], [45], [42], [47], [77, 79, 68], [83, 73, 78], [67, 79, 83], [84, 65, 78], [65, 84, 65, 78], [83, 81, 82, 84], [65, 66, 83], [82, 79, 85, 78, 68], [70, 73, 88], [70, 85, 80], [69, 81], [78, 69], [71, 84], [71, 69], [76, 84], [76, 69], [65, 78, 68], [79, 82], [88, 79, 82]]
def onm (i : Nat) : List UInt8 := onms.getD i []
def fop (x : List UInt8) : Nat → Nat → Option Nat
  | _, 0 => none
  | lo, k + 1 => if x = onm lo then some lo else fop x (lo + 1) k
theorem fop_range {x : List UInt8} : ∀ {k lo op : Nat}, fop x lo k = some op → lo ≤ op ∧ op < lo + k ∧ x = onm op
  | 0, _, _, h => by simp [fop] at h
  | k + 1, lo, op, h => by
    unfold fop at h
    by_cases e : x = onm lo
    · rw [if_pos e] at h; injection h with h; subst h; exact ⟨Nat.le_refl _, by omega, e⟩
    · rw [if_neg e] at h
      have := fop_range h
      exact ⟨by omega, by omega, this.2.2⟩
theorem onm_ne : ∀ i, 1 ≤ i → i < 26 → onm i ≠ [] := by
  have h : ∀ i, i < 26 → 1 ≤ i → onm i ≠ [] := by decide
  exact fun i a b => h i b a
theorem fop_nil : ∀ {k lo : Nat}, 1 ≤ lo → lo + k ≤ 26 → fop [] lo k = none
  | 0, _, _, _ => rfl
  | k + 1, lo, h, g => by
    unfold fop
    rw [if_neg (fun e => onm_ne lo h (by omega) e.symm)]
    exact fop_nil (by omega) (by omega)
def lo : Nat → Nat
  | 0 => 24 | 1 => 23 | 2 => 17 | 3 => 3 | _ => 5
def cn : Nat → Nat
  | 0 => 2 | 1 => 1 | 2 => 6 | 3 => 2 | _ => 3
def lop (l : Nat) (x : List UInt8) : Option Nat := fop x (lo l) (cn l)
def fun1 (x : List UInt8) : Option Nat := match fop x 8 3 with
  | some o => some o
  | none => fop x 12 5
def kd (ts : List Lx.Tok) (i : Nat) : Int := match ts[i]? with | some t => t.k | none => 0
def tn (ts : List Lx.Tok) (i : Nat) : Int := match ts[i]? with | some t => t.n | none => 0
def tx (ts : List Lx.Tok) (i : Nat) : List UInt8 := match ts[i]? with | some t => t.x | none => []
def tp (ts : List Lx.Tok) (len i : Nat) : Nat := match ts[i]? with | some t => t.p | none => len
theorem tx_lt {ts : List Lx.Tok} {i : Nat} {x : List UInt8} (h : tx ts i = x) (h0 : x ≠ []) : i < ts.length := by
  rcases Nat.lt_or_ge i ts.length with g | g
  · exact g
  · unfold tx at h; rw [List.getElem?_eq_none g] at h; exact absurd h.symm h0
theorem kd_lt {ts : List Lx.Tok} {i : Nat} {k : Int} (h : kd ts i = k) (h0 : k ≠ 0) : i < ts.length := by
  rcases Nat.lt_or_ge i ts.length with g | g
  · exact g
  · unfold kd at h; rw [List.getElem?_eq_none g] at h; exact absurd h.symm h0
theorem lop_lt {ts : List Lx.Tok} {i l o : Nat} (h : lop l (tx ts i) = some o) : i < ts.length := by
  rcases Nat.lt_or_ge i ts.length with g | g
  · exact g
  · unfold tx at h; rw [List.getElem?_eq_none g] at h
    unfold lop at h
    rw [fop_nil (by unfold lo; split <;> omega) (by unfold lo cn; split <;> simp)] at h
    cases h
inductive Rs (α : Type) where
  | ok (x : α) (i : Nat)
  | bad (i : Nat)
def num (n : Int) : Ex := .mk 0 n []
def un (o : Int) (x : Ex) : Ex := .mk o 0 [x]
def bin (o : Int) (x y : Ex) : Ex := .mk o 0 [x, y]
def shut (ts : List Lx.Tok) : Rs Ex → Rs Ex
  | .bad j => .bad j
  | .ok x j => if tx ts j = [93] then .ok x (j + 1) else .bad j
def wrapU (o : Int) : Rs Ex → Rs Ex
  | .bad j => .bad j
  | .ok x j => .ok (un o x) j
def wrapB (o : Int) (x : Ex) : Rs Ex → Rs Ex
  | .bad j => .bad j
  | .ok y j => .ok (bin o x y) j
mutual
def pE (ts : List Lx.Tok) : Nat → Nat → Nat → Rs Ex
  | 0, _, i => .bad i
  | f + 1, l, i =>
    if l = 5 then
      if tx ts i = [45] then wrapU 2 (pE ts f 5 (i + 1))
      else if tx ts i = [43] then pE ts f 5 (i + 1)
      else pP ts f i
    else match pE ts f (l + 1) i with
      | .bad j => .bad j
      | .ok x j => pL ts f l x j
def pL (ts : List Lx.Tok) : Nat → Nat → Ex → Nat → Rs Ex
  | 0, _, _, i => .bad i
  | f + 1, l, x, i => match lop l (tx ts i) with
    | none => .ok x i
    | some o => match pE ts f (l + 1) (i + 1) with
      | .bad j => .bad j
      | .ok y j => if l = 2 then .ok (bin o x y) j else pL ts f l (bin o x y) j
def pP (ts : List Lx.Tok) : Nat → Nat → Rs Ex
  | 0, i => .bad i
  | f + 1, i =>
    if tx ts i = [65, 84, 65, 78] then match pB ts f (i + 1) with
      | .bad j => .bad j
      | .ok x j => if tx ts j = [47] then wrapB 11 x (pB ts f (j + 1)) else .bad j
    else match fun1 (tx ts i) with
      | some o => wrapU o (pB ts f (i + 1))
      | none => pC ts f i
def pC (ts : List Lx.Tok) : Nat → Nat → Rs Ex
  | 0, i => .bad i
  | f + 1, i =>
    if kd ts i = 2 then .ok (num (tn ts i)) (i + 1)
    else if tx ts i = [35] then wrapU 1 (pC ts f (i + 1))
    else pB ts f i
def pB (ts : List Lx.Tok) : Nat → Nat → Rs Ex
  | 0, i => .bad i
  | f + 1, i => if tx ts i = [91] then shut ts (pE ts f 0 (i + 1)) else .bad i
end
def Fwd (n i : Nat) (r : Rs Ex) : Prop := match r with
  | .ok _ j => i < j ∧ j ≤ n
  | .bad j => i ≤ j ∧ j ≤ n
theorem Fwd.wrapU {n i : Nat} {o : Int} {r : Rs Ex} (h : Fwd n i r) : Fwd n i (wrapU o r) := by cases r <;> exact h
theorem Fwd.wrapB {n i : Nat} {o : Int} {x : Ex} {r : Rs Ex} (h : Fwd n i r) : Fwd n i (wrapB o x r) := by cases r <;> exact h
theorem Fwd.later {n i k : Nat} {r : Rs Ex} (h : Fwd n k r) (g : i ≤ k) : Fwd n i r := by
  cases r <;> (unfold Fwd at *; simp only at *; omega)
theorem Fwd.shut {ts : List Lx.Tok} {i : Nat} {r : Rs Ex} (h : Fwd ts.length i r) : Fwd ts.length i (shut ts r) := by
  cases r with
  | bad j => exact h
  | ok x j =>
    unfold Sy.shut
    unfold Fwd at h
    simp only at h ⊢
    split
    · have := tx_lt ‹_› (by decide)
      unfold Fwd; simp only; omega
    · unfold Fwd; simp only; omega
structure FwdAll (ts : List Lx.Tok) (f : Nat) : Prop where
  e : ∀ l i, i ≤ ts.length → Fwd ts.length i (pE ts f l i)
  l : ∀ l x i, i ≤ ts.length → (match pL ts f l x i with | .ok _ j => i ≤ j ∧ j ≤ ts.length | .bad j => i ≤ j ∧ j ≤ ts.length)
  p : ∀ i, i ≤ ts.length → Fwd ts.length i (pP ts f i)
  c : ∀ i, i ≤ ts.length → Fwd ts.length i (pC ts f i)
  b : ∀ i, i ≤ ts.length → Fwd ts.length i (pB ts f i)
theorem Fwd.self {n i : Nat} (h : i ≤ n) : Fwd n i (.bad i : Rs Ex) := ⟨Nat.le_refl _, h⟩
theorem fwd (ts : List Lx.Tok) : ∀ f, FwdAll ts f
  | 0 => ⟨fun l i h => by unfold pE; exact Fwd.self h, fun l x i h => by unfold pL; exact ⟨Nat.le_refl _, h⟩, fun i h => by unfold pP; exact Fwd.self h, fun i h => by unfold pC; exact Fwd.self h, fun i h => by unfold pB; exact Fwd.self h⟩
  | f + 1 => by
    have ih := fwd ts f
    refine ⟨fun l i h => ?_, fun l x i h => ?_, fun i h => ?_, fun i h => ?_, fun i h => ?_⟩
    · unfold pE
      split
      · split
        · have g := tx_lt ‹_› (by decide)
          exact Fwd.wrapU ((ih.e 5 (i + 1) (by omega)).later (by omega))
        · split
          · have g := tx_lt ‹_› (by decide)
            exact (ih.e 5 (i + 1) (by omega)).later (by omega)
          · exact ih.p i h
      · have g := ih.e (l + 1) i h
        cases e : pE ts f (l + 1) i with
        | bad j => rw [e] at g; exact g
        | ok x j =>
          rw [e] at g
          unfold Fwd at g
          simp only at g ⊢
          have k := ih.l l x j g.2
          cases e2 : pL ts f l x j <;> rw [e2] at k <;> unfold Fwd <;> simp only at k ⊢ <;> omega
    · unfold pL
      cases e : lop l (tx ts i) with
      | none => exact ⟨Nat.le_refl _, h⟩
      | some o =>
        have g0 := lop_lt e
        have g := ih.e (l + 1) (i + 1) (by omega)
        cases e1 : pE ts f (l + 1) (i + 1) with
        | bad j => rw [e1] at g; unfold Fwd at g; simp only at g ⊢; omega
        | ok y j =>
          rw [e1] at g
          unfold Fwd at g
          simp only at g ⊢
          by_cases h2 : l = 2
          · rw [if_pos h2]; simp only; omega
          · rw [if_neg h2]
            have k := ih.l l (bin o x y) j g.2
            cases e2 : pL ts f l (bin o x y) j <;> rw [e2] at k <;> simp only at k ⊢ <;> omega
    · unfold pP
      split
      · have g0 := tx_lt ‹_› (by decide)
        have g := ih.b (i + 1) (by omega)
        cases e1 : pB ts f (i + 1) with
        | bad j => rw [e1] at g; exact Fwd.later (k := i + 1) g (by omega)
        | ok x j =>
          rw [e1] at g
          unfold Fwd at g
          simp only at g ⊢
          split
          · have g1 := tx_lt ‹_› (by decide)
            exact Fwd.wrapB ((ih.b (j + 1) (by omega)).later (by omega))
          · unfold Fwd; simp only; omega
      · cases e1 : fun1 (tx ts i) with
        | none => exact ih.c i h
        | some o =>
          have g0 : i < ts.length := by
            rcases Nat.lt_or_ge i ts.length with g | g
            · exact g
            · unfold tx at e1; rw [List.getElem?_eq_none g] at e1
              cases (show fun1 [] = some o from e1)
          exact Fwd.wrapU ((ih.b (i + 1) (by omega)).later (by omega))
    · unfold pC
      split
      · have g := kd_lt ‹_› (by decide)
        unfold Fwd; simp only; omega
      · split
        · have g := tx_lt ‹_› (by decide)
          exact Fwd.wrapU ((ih.c (i + 1) (by omega)).later (by omega))
        · exact ih.b i h
    · unfold pB
      split
      · have g := tx_lt ‹_› (by decide)
        exact Fwd.shut ((ih.e 0 (i + 1) (by omega)).later (by omega))
      · exact Fwd.self h
def fuel (ts : List Lx.Tok) : Nat := 16 * ts.length + 40
def pV (ts : List Lx.Tok) (i : Nat) : Rs Ex :=
  if tx ts i = [45] then wrapU 2 (pC ts (fuel ts) (i + 1))
  else if tx ts i = [43] then pC ts (fuel ts) (i + 1)
  else pC ts (fuel ts) i
theorem fwd_v (ts : List Lx.Tok) (i : Nat) (h : i ≤ ts.length) : Fwd ts.length i (pV ts i) := by
  unfold pV
  split
  · have g := tx_lt ‹_› (by decide)
    exact Fwd.wrapU (((fwd ts _).c (i + 1) (by omega)).later (by omega))
  · split
    · have g := tx_lt ‹_› (by decide)
      exact ((fwd ts _).c (i + 1) (by omega)).later (by omega)
    · exact (fwd ts _).c i h
def isw (c : Int) : Bool := decide (65 ≤ c) && decide (c ≤ 90) && decide (c ≠ 78) && decide (c ≠ 79)
def pW (ts : List Lx.Tok) : Nat → List (Int × Ex) → Nat → Rs (List (Int × Ex))
  | 0, _, i => .bad i
  | f + 1, ws, i => if kd ts i = 1 ∧ isw (tn ts i) = true then
      match pV ts (i + 1) with
      | .bad j => .bad j
      | .ok x j => pW ts f (ws ++ [(tn ts i, x)]) j
    else .ok ws i
def isc (n : Int) (m : Nat) : Bool := decide (n % 1000000 = 0) && decide (1 ≤ n / 1000000) && decide (n / 1000000 ≤ m)
def pN (ts : List Lx.Tok) (m i : Nat) : Rs Int :=
  if kd ts i = 2 ∧ isc (tn ts i) m = true then .ok (tn ts i / 1000000) (i + 1) else .bad i
structure Bl where
  kind : Int
  label : Int
  skip : Bool
  words : List (Int × Ex)
  left : Ex
  x : Ex
  n : Int
def zx : Ex := .mk 0 0 []
def blk (k : Int) (ws : List (Int × Ex)) (l x : Ex) (n : Int) : Bl := ⟨k, 0, false, ws, l, x, n⟩
def wrapC {α β : Type} (g : α → β) : Rs α → Rs β
  | .bad j => .bad j
  | .ok x j => .ok (g x) j
def pCt (ts : List Lx.Tok) (i : Nat) : Rs Bl :=
  if tx ts i = [35] then match pC ts (fuel ts) (i + 1) with
    | .bad j => .bad j
    | .ok c j => if tx ts j = [61] then wrapC (fun x => blk 1 [] c x 0) (pE ts (fuel ts) 0 (j + 1)) else .bad j
  else if tx ts i = [73, 70] then match pB ts (fuel ts) (i + 1) with
    | .bad j => .bad j
    | .ok x j => if tx ts j = [71, 79, 84, 79] then wrapC (fun v => blk 3 [] v x 0) (pV ts (j + 1)) else .bad j
  else if tx ts i = [71, 79, 84, 79] then wrapC (fun x => blk 2 [] zx x 0) (pV ts (i + 1))
  else if tx ts i = [87, 72, 73, 76, 69] then match pB ts (fuel ts) (i + 1) with
    | .bad j => .bad j
    | .ok x j => if tx ts j = [68, 79] then wrapC (fun n => blk 4 [] zx x n) (pN ts 3 (j + 1)) else .bad j
  else if tx ts i = [69, 78, 68] then wrapC (fun n => blk 5 [] zx zx n) (pN ts 3 (i + 1))
  else if kd ts i = 1 ∧ tn ts i = 79 then wrapC (fun n => blk 6 [] zx zx n) (pN ts 99999 (i + 1))
  else wrapC (fun ws => blk 0 ws zx zx 0) (pW ts (ts.length + 1) [] i)
def pEnd (ts : List Lx.Tok) (skip : Bool) (label : Int) : Rs Bl → Rs Bl
  | .bad j => .bad j
  | .ok b j => if j < ts.length then .bad j else .ok { b with skip := skip, label := label } j
def pLn (ts : List Lx.Tok) : Rs Bl :=
  let i := if tx ts 0 = [47] then 1 else 0
  let s := decide (tx ts 0 = [47])
  if kd ts i = 1 ∧ tn ts i = 78 then match pN ts 99999 (i + 1) with
    | .bad j => .bad j
    | .ok n j => pEnd ts s n (pCt ts j)
  else pEnd ts s 0 (pCt ts i)
end Sy
end Go.Proofs.YtciglhecjkeogaaGreatDoor
set_option linter.unusedVariables false
set_option linter.unusedSimpArgs false
namespace Go.Proofs.YtciglhecjkeogaaGreatDoor
namespace Sy
open Lx
def kdsl : List Nat := [0, 1, 1, 2, 2, 2, 2, 2, 1, 1, 1, 2, 1, 1, 1, 1, 1, 2, 2, 2, 2, 2, 2, 2, 2, 2]
def kds (o : Nat) : Nat := kdsl.getD o 0
def nodeB (op n : Int) (k : Nat) : Bool := decide (0 ≤ op) && decide (op ≤ 25) && decide (k = kds op.toNat) && (decide (n = 0) || (decide (op = 0) && decide (0 ≤ n) && decide (n < 1000000000000000)))
def okx : Ex → Bool
  | .mk op n ks => nodeB op n ks.length && ks.attach.all (fun ⟨k, h⟩ => okx k)
theorem okx_mk (op n : Int) (ks : List Ex) : okx (.mk op n ks) = (nodeB op n ks.length && ks.all okx) := by
  rw [okx]; simp
def dmx : List Nat → Nat
  | [] => 0
  | d :: l => max d (dmx l)
def dpt : Ex → Nat
  | .mk op n ks => 1 + dmx (ks.attach.map (fun ⟨k, h⟩ => dpt k))
theorem dpt_mk (op n : Int) (ks : List Ex) : dpt (.mk op n ks) = 1 + dmx (ks.map dpt) := by
  rw [dpt]; simp
inductive Form : Ex → Prop where
  | num (n : Int) (h0 : 0 ≤ n) (h1 : n < 1000000000000000) : Form (num n)
  | un (o : Nat) (x : Ex) (hx : okx x = true) (h : o = 1 ∨ o = 2 ∨ (8 ≤ o ∧ o ≤ 10) ∨ (12 ≤ o ∧ o ≤ 16)) : Form (un o x)
  | bin (o : Nat) (x y : Ex) (hx : okx x = true) (hy : okx y = true) (h : (3 ≤ o ∧ o ≤ 7) ∨ o = 11 ∨ (17 ≤ o ∧ o ≤ 25)) : Form (bin o x y)
theorem kds_0 : ∀ o, o < 26 → kds o = 0 → o = 0 := by decide
theorem kds_1 : ∀ o, o < 26 → kds o = 1 → (o = 1 ∨ o = 2 ∨ (8 ≤ o ∧ o ≤ 10) ∨ (12 ≤ o ∧ o ≤ 16)) := by decide
theorem kds_2 : ∀ o, o < 26 → kds o = 2 → ((3 ≤ o ∧ o ≤ 7) ∨ o = 11 ∨ (17 ≤ o ∧ o ≤ 25)) := by decide
theorem kds_le : ∀ o, o < 26 → kds o = 0 ∨ kds o = 1 ∨ kds o = 2 := by decide
theorem kds_1i : ∀ o, o < 26 → (o = 1 ∨ o = 2 ∨ (8 ≤ o ∧ o ≤ 10) ∨ (12 ≤ o ∧ o ≤ 16)) → kds o = 1 := by decide
theorem kds_2i : ∀ o, o < 26 → ((3 ≤ o ∧ o ≤ 7) ∨ o = 11 ∨ (17 ≤ o ∧ o ≤ 25)) → kds o = 2 := by decide
theorem form {x : Ex} (h : okx x = true) : Form x := by
  obtain ⟨op, n, ks⟩ := x
  rw [okx_mk] at h
  simp only [nodeB, Bool.and_eq_true, Bool.or_eq_true, decide_eq_true_eq] at h
  obtain ⟨⟨⟨⟨h0, h1⟩, hk⟩, hn⟩, ha⟩ := h
  have hb : op.toNat < 26 := by omega
  have ho : (op.toNat : Int) = op := by omega
  rcases kds_le op.toNat hb with k | k | k
  · have e := kds_0 _ hb k
    rw [k] at hk
    obtain rfl := List.eq_nil_of_length_eq_zero hk
    have : op = 0 := by omega
    subst this
    exact Form.num n (by omega) (by omega)
  · have e := kds_1 _ hb k
    rw [k] at hk
    have hn0 : n = 0 := by rcases hn with hn | ⟨⟨hn, _⟩, _⟩ <;> omega
    subst hn0
    obtain ⟨x, rfl⟩ := List.length_eq_one_iff.1 hk
    have := Form.un op.toNat x (by simpa using ha) e
    rw [Sy.un, ho] at this; exact this
  · have e := kds_2 _ hb k
    rw [k] at hk
    have hn0 : n = 0 := by rcases hn with hn | ⟨⟨hn, _⟩, _⟩ <;> omega
    subst hn0
    obtain ⟨x, y, rfl⟩ : ∃ x y, ks = [x, y] := by
      match ks, hk with
      | [x, y], _ => exact ⟨x, y, rfl⟩
    simp at ha
    have := Form.bin op.toNat x y ha.1 ha.2 e
    rw [Sy.bin, ho] at this; exact this
theorem okx_num {n : Int} (h0 : 0 ≤ n) (h1 : n < 1000000000000000) : okx (num n) = true := by
  rw [num, okx_mk]; simp [nodeB, kds, kdsl, h0, h1]
theorem okx_un {o : Nat} {x : Ex} (h : okx x = true) (ho : o = 1 ∨ o = 2 ∨ (8 ≤ o ∧ o ≤ 10) ∨ (12 ≤ o ∧ o ≤ 16)) : okx (un o x) = true := by
  rw [un, okx_mk]
  simp only [nodeB, Bool.and_eq_true, Bool.or_eq_true, decide_eq_true_eq]
  refine ⟨⟨⟨⟨by omega, by omega⟩, ?_⟩, .inl trivial⟩, by simp [h]⟩
  rw [show ((o : Int)).toNat = o by omega, kds_1i o (by omega) ho]; rfl
theorem okx_bin {o : Nat} {x y : Ex} (h : okx x = true) (h' : okx y = true) (ho : (3 ≤ o ∧ o ≤ 7) ∨ o = 11 ∨ (17 ≤ o ∧ o ≤ 25)) : okx (bin o x y) = true := by
  rw [bin, okx_mk]
  simp only [nodeB, Bool.and_eq_true, Bool.or_eq_true, decide_eq_true_eq]
  refine ⟨⟨⟨⟨by omega, by omega⟩, ?_⟩, .inl trivial⟩, by simp [h, h']⟩
  rw [show ((o : Int)).toNat = o by omega, kds_2i o (by omega) ho]; rfl
def Good (ts : List Lx.Tok) : Prop := ∀ t ∈ ts, (t.k = 2 → 0 ≤ t.n ∧ t.n < 1000000000000000) ∧ (t.x ≠ [] → t.k = 3 ∨ t.k = 4) ∧ (t.k = 3 ∨ t.k = 4 → t.x ≠ []) ∧ (t.k = 1 → 65 ≤ t.n ∧ t.n ≤ 90)
def OkR (r : Rs Ex) : Prop := match r with
  | .ok x _ => okx x = true
  | .bad _ => True
theorem OkR.shut {ts : List Lx.Tok} {r : Rs Ex} (h : OkR r) : OkR (shut ts r) := by
  cases r with
  | bad j => trivial
  | ok x j =>
    unfold Sy.shut; simp only
    by_cases e : tx ts j = [93]
    · rw [if_pos e]; exact h
    · rw [if_neg e]; trivial
theorem OkR.wrapU {o : Nat} {r : Rs Ex} (h : OkR r) (ho : o = 1 ∨ o = 2 ∨ (8 ≤ o ∧ o ≤ 10) ∨ (12 ≤ o ∧ o ≤ 16)) : OkR (wrapU o r) := by
  cases r with
  | bad j => trivial
  | ok x j => exact okx_un h ho
theorem OkR.wrapB {o : Nat} {x : Ex} {r : Rs Ex} (hx : okx x = true) (h : OkR r) (ho : (3 ≤ o ∧ o ≤ 7) ∨ o = 11 ∨ (17 ≤ o ∧ o ≤ 25)) : OkR (wrapB o x r) := by
  cases r with
  | bad j => trivial
  | ok y j => exact okx_bin hx h ho
theorem fun1_range {x : List UInt8} {o : Nat} (h : fun1 x = some o) : (8 ≤ o ∧ o ≤ 10) ∨ (12 ≤ o ∧ o ≤ 16) := by
  unfold fun1 at h
  split at h
  · injection h with h; subst h
    have := fop_range ‹_›; omega
  · have := fop_range h; omega
theorem lop_range {l : Nat} {x : List UInt8} {o : Nat} (h : lop l x = some o) : (3 ≤ o ∧ o ≤ 7) ∨ o = 11 ∨ (17 ≤ o ∧ o ≤ 25) := by
  unfold lop at h
  have := fop_range h
  unfold lo cn at this
  split at this <;> simp at this <;> omega
theorem num_ok {ts : List Lx.Tok} (hg : Good ts) {i : Nat} (h : kd ts i = 2) : 0 ≤ tn ts i ∧ tn ts i < 1000000000000000 := by
  have g := kd_lt h (by decide)
  unfold kd at h; unfold tn
  rw [List.getElem?_eq_getElem g] at h ⊢
  exact (hg _ (List.getElem_mem g)).1 h
structure OkAll (ts : List Lx.Tok) (f : Nat) : Prop where
  e : ∀ l i, OkR (pE ts f l i)
  l : ∀ l x i, okx x = true → OkR (pL ts f l x i)
  p : ∀ i, OkR (pP ts f i)
  c : ∀ i, OkR (pC ts f i)
  b : ∀ i, OkR (pB ts f i)
theorem okr (ts : List Lx.Tok) (hg : Good ts) : ∀ f, OkAll ts f
  | 0 => ⟨fun l i => by unfold pE; trivial, fun l x i h => by unfold pL; trivial, fun i => by unfold pP; trivial, fun i => by unfold pC; trivial, fun i => by unfold pB; trivial⟩
  | f + 1 => by
    have ih := okr ts hg f
    refine ⟨fun l i => ?_, fun l x i h => ?_, fun i => ?_, fun i => ?_, fun i => ?_⟩
    · unfold pE
      split
      · split
        · exact OkR.wrapU (o := 2) (ih.e 5 (i + 1)) (by omega)
        · split
          · exact ih.e 5 (i + 1)
          · exact ih.p i
      · have g := ih.e (l + 1) i
        cases e : pE ts f (l + 1) i with
        | bad j => trivial
        | ok x j => rw [e] at g; exact ih.l l x j g
    · unfold pL
      cases e : lop l (tx ts i) with
      | none => exact h
      | some o =>
        have g := ih.e (l + 1) (i + 1)
        cases e1 : pE ts f (l + 1) (i + 1) with
        | bad j => trivial
        | ok y j =>
          rw [e1] at g
          have k : okx (bin o x y) = true := okx_bin h g (lop_range e)
          simp only
          split
          · exact k
          · exact ih.l l _ j k
    · unfold pP
      split
      · have g := ih.b (i + 1)
        cases e1 : pB ts f (i + 1) with
        | bad j => trivial
        | ok x j =>
          rw [e1] at g
          simp only
          split
          · exact OkR.wrapB (o := 11) g (ih.b (j + 1)) (by omega)
          · trivial
      · cases e1 : fun1 (tx ts i) with
        | none => exact ih.c i
        | some o => exact OkR.wrapU (ih.b (i + 1)) (by have := fun1_range e1; omega)
    · unfold pC
      split
      · have := num_ok hg ‹_›
        exact okx_num this.1 this.2
      · split
        · exact OkR.wrapU (o := 1) (ih.c (i + 1)) (by omega)
        · exact ih.b i
    · unfold pB
      split
      · exact OkR.shut (ih.e 0 (i + 1))
      · trivial
abbrev Tr := Int × Int × List UInt8
def tri (t : Tok) : Tr := (t.k, t.n, t.x)
def sgn (c : UInt8) : Tr := (4, 0, [c])
def nam (x : List UInt8) : Tr := (3, 0, x)
def nmb (n : Int) : Tr := (2, n, [])
def let1 (c : Int) : Tr := (1, c, [])
def otk (o : Nat) : Tr := if (onm o).length = 1 then (4, 0, onm o) else (3, 0, onm o)
def tpc : Ex → List Tr × List Tr
  | .mk op n [] => ([nmb n], [nmb n])
  | .mk op n [x] =>
    if op = 1 then
      let c := sgn 35 :: (if x.op = 0 ∨ x.op = 1 then (tpc x).2 else sgn 91 :: (tpc x).1 ++ [sgn 93])
      (c, c)
    else if op = 2 then
      let p := sgn 45 :: (tpc x).2
      (p, sgn 91 :: p ++ [sgn 93])
    else
      let c := nam (onm op.toNat) :: sgn 91 :: (tpc x).1 ++ [sgn 93]
      (c, c)
  | .mk op n (x :: y :: _) =>
    if op = 11 then
      let c := nam (onm 11) :: sgn 91 :: (tpc x).1 ++ sgn 93 :: sgn 47 :: sgn 91 :: (tpc y).1 ++ [sgn 93]
      (c, c)
    else
      let p := (tpc x).2 ++ otk op.toNat :: (tpc y).2
      (p, sgn 91 :: p ++ [sgn 93])
def tpr (x : Ex) : List Tr := (tpc x).1
def tcl (x : Ex) : List Tr := (tpc x).2
def smp (x : Ex) : Bool := decide (x.op = 0) || decide (x.op = 1)
def tce (x : Ex) : List Tr := if smp x = true then tcl x else sgn 91 :: tpr x ++ [sgn 93]
def Has (ts : List Lx.Tok) (i : Nat) (us : List Tr) : Prop := ∃ r, (ts.map tri).drop i = us ++ r
theorem Has.left {ts : List Lx.Tok} {i : Nat} {us vs : List Tr} (h : Has ts i (us ++ vs)) : Has ts i us := by
  obtain ⟨r, h⟩ := h; exact ⟨vs ++ r, by rw [h, List.append_assoc]⟩
theorem Has.right {ts : List Lx.Tok} {i : Nat} {us vs : List Tr} (h : Has ts i (us ++ vs)) : Has ts (i + us.length) vs := by
  obtain ⟨r, h⟩ := h
  refine ⟨r, ?_⟩
  rw [← List.drop_drop, h, List.append_assoc, List.drop_left]
theorem Has.tail {ts : List Lx.Tok} {i : Nat} {u : Tr} {us : List Tr} (h : Has ts i (u :: us)) : Has ts (i + 1) us := Has.right (us := [u]) h
theorem Has.head {ts : List Lx.Tok} {i : Nat} {u : Tr} {us : List Tr} (h : Has ts i (u :: us)) : kd ts i = u.1 ∧ tn ts i = u.2.1 ∧ tx ts i = u.2.2 ∧ i < ts.length := by
  obtain ⟨r, h⟩ := h
  have g : (ts.map tri)[i]? = some u := by
    have : ((ts.map tri).drop i)[0]? = some u := by rw [h]; rfl
    rw [List.getElem?_drop] at this; exact this
  rw [List.getElem?_map] at g
  cases e : ts[i]? with
  | none => rw [e] at g; cases g
  | some t =>
    rw [e] at g
    injection g with g
    subst g
    unfold kd tn tx
    rw [e]
    exact ⟨rfl, rfl, rfl, (List.getElem?_eq_some_iff.1 e).1⟩
theorem Has.le {ts : List Lx.Tok} {i : Nat} {us : List Tr} (h : Has ts i us) (hi : i ≤ ts.length) : i + us.length ≤ ts.length := by
  obtain ⟨r, h⟩ := h
  have := congrArg List.length h
  simp at this
  omega
def Noop (ts : List Lx.Tok) (l i : Nat) : Prop := ∀ m, l ≤ m → m ≤ 4 → lop m (tx ts i) = none
theorem lop_93 : ∀ m, m ≤ 4 → lop m [93] = none := by decide
theorem lop_nil : ∀ m, m ≤ 4 → lop m [] = none := by decide
theorem noop_sgn93 {ts : List Lx.Tok} {i : Nat} {us : List Tr} (h : Has ts i (sgn 93 :: us)) : Noop ts 0 i := fun m _ hm => by
  rw [h.head.2.2.1]; exact lop_93 m hm
def need (n i l : Nat) : Nat := 16 * (n - i) + 4 + (5 - l)
theorem lift {ts : List Lx.Tok} {i j : Nat} {x : Ex} (h5 : ∀ f, need ts.length i 5 ≤ f → pE ts f 5 i = .ok x j) (l : Nat) (hl : l ≤ 5) (hn : Noop ts l j) : ∀ f, need ts.length i l ≤ f → pE ts f l i = .ok x j := by
  induction hk : 5 - l generalizing l with
  | zero =>
    obtain rfl : l = 5 := by omega
    exact h5
  | succ k ih =>
    intro f hf
    unfold need at hf
    obtain ⟨f, rfl⟩ : ∃ g, f = g + 1 := ⟨f - 1, by omega⟩
    rw [pE, if_neg (by omega), ih (l + 1) (by omega) (fun m hm => hn m (by omega)) (by omega) f (by unfold need; omega)]
    simp only
    obtain ⟨f, rfl⟩ : ∃ g, f = g + 1 := ⟨f - 1, by omega⟩
    rw [pL, hn l (Nat.le_refl _) (by omega)]
def olv (o : Nat) : Nat := if 24 ≤ o then 0 else if o = 23 then 1 else if 17 ≤ o then 2 else if o ≤ 4 then 3 else 4
def binB (o : Nat) : Bool := (decide (3 ≤ o) && decide (o ≤ 7)) || (decide (17 ≤ o) && decide (o ≤ 25))
theorem lop_own : ∀ o, o < 26 → binB o = true → lop (olv o) (onm o) = some o := by decide
theorem lop_up : ∀ o, o < 26 → binB o = true → ∀ m, m < 5 → olv o < m → lop m (onm o) = none := by decide
theorem olv_le : ∀ o, o < 26 → binB o = true → olv o ≤ 4 := by decide
theorem otk_x (o : Nat) : (otk o).2.2 = onm o := by unfold otk; split <;> rfl
theorem pE_bin {ts : List Lx.Tok} {i j k : Nat} {x y : Ex} {o : Nat} (ho : binB o = true) (ho' : o < 26) (hij : i < j) (hjl : j < ts.length) (hjk : j + 1 < k)
    (hx : ∀ f, need ts.length i 5 ≤ f → pE ts f 5 i = .ok x j) (ht : tx ts j = onm o)
    (hy : ∀ f, need ts.length (j + 1) 5 ≤ f → pE ts f 5 (j + 1) = .ok y k) (hn : Noop ts 0 k) (l : Nat) (hl : l ≤ olv o) : ∀ f, need ts.length i l ≤ f → pE ts f l i = .ok (bin o x y) k := by
  have hv := olv_le o ho' ho
  induction hd : olv o - l generalizing l with
  | zero =>
    obtain rfl : l = olv o := by omega
    intro f hf
    unfold need at hf
    obtain ⟨f, rfl⟩ : ∃ g, f = g + 1 := ⟨f - 1, by omega⟩
    rw [pE, if_neg (by omega)]
    rw [lift hx (olv o + 1) (by omega) (fun m h1 h2 => by rw [ht]; exact lop_up o ho' ho m (by omega) (by omega)) f (by unfold need; omega)]
    simp only
    obtain ⟨f, rfl⟩ : ∃ g, f = g + 1 := ⟨f - 1, by omega⟩
    rw [pL, ht, lop_own o ho' ho]
    simp only
    rw [lift hy (olv o + 1) (by omega) (fun m h1 h2 => hn m (by omega) h2) f (by unfold need; omega)]
    simp only
    split
    · rfl
    · obtain ⟨f, rfl⟩ : ∃ g, f = g + 1 := ⟨f - 1, by omega⟩
      rw [pL, hn _ (Nat.zero_le _) (by omega)]
  | succ d ih =>
    intro f hf
    unfold need at hf
    obtain ⟨f, rfl⟩ : ∃ g, f = g + 1 := ⟨f - 1, by omega⟩
    rw [pE, if_neg (by omega), ih (l + 1) (by omega) (by omega) f (by unfold need; omega)]
    simp only
    obtain ⟨f, rfl⟩ : ∃ g, f = g + 1 := ⟨f - 1, by omega⟩
    rw [pL, hn l (Nat.zero_le _) (by omega)]
structure Back (x : Ex) : Prop where
  c : ∀ ts i, i ≤ ts.length → Has ts i (tcl x) → ∀ f, 16 * (ts.length - i) + 3 ≤ f → pP ts f i = .ok x (i + (tcl x).length)
  p : ∀ ts i, i ≤ ts.length → Has ts i (tpr x) → Noop ts 0 (i + (tpr x).length) → ∀ f, need ts.length i 0 ≤ f → pE ts f 0 i = .ok x (i + (tpr x).length)
  s : smp x = true → ∀ ts i, i ≤ ts.length → Has ts i (tcl x) → ∀ f, 16 * (ts.length - i) + 2 ≤ f → pC ts f i = .ok x (i + (tcl x).length)
theorem Back.b {x : Ex} (h : Back x) {ts : List Lx.Tok} {i : Nat} (hi : i ≤ ts.length) (hh : Has ts i (sgn 91 :: tpr x ++ [sgn 93])) : ∀ f, 16 * (ts.length - i) + 1 ≤ f → pB ts f i = .ok x (i + (tpr x).length + 2) := by
  intro f hf
  obtain ⟨f, rfl⟩ : ∃ g, f = g + 1 := ⟨f - 1, by omega⟩
  have h0 := hh.head
  have h1 : Has ts (i + 1) (tpr x) := (Has.left hh).tail
  have h2 : Has ts (i + 1 + (tpr x).length) [sgn 93] := by
    have := Has.right (us := sgn 91 :: tpr x) hh
    rw [List.length_cons, show i + ((tpr x).length + 1) = i + 1 + (tpr x).length by omega] at this; exact this
  have l2 := h0.2.2.2
  rw [pB, if_pos (show tx ts i = [91] from h0.2.2.1), h.p ts (i + 1) (by omega) h1 (noop_sgn93 h2) f (by unfold need; omega)]
  unfold shut
  simp only
  rw [if_pos (show tx ts (i + 1 + (tpr x).length) = [93] from h2.head.2.2.1), show i + 1 + (tpr x).length + 1 = i + (tpr x).length + 2 by omega]
theorem Back.ce {x : Ex} (h : Back x) {ts : List Lx.Tok} {i : Nat} (hi : i ≤ ts.length) (hh : Has ts i (tce x)) : ∀ f, 16 * (ts.length - i) + 2 ≤ f → pC ts f i = .ok x (i + (tce x).length) := by
  intro f hf
  unfold tce at hh ⊢
  cases hs : smp x with
  | true =>
    rw [hs, if_pos rfl] at hh
    rw [if_pos rfl]
    exact h.s hs ts i hi hh f hf
  | false =>
    rw [hs, if_neg (by decide)] at hh
    rw [if_neg (by decide)]
    obtain ⟨f, rfl⟩ : ∃ g, f = g + 1 := ⟨f - 1, by omega⟩
    have h0 := hh.head
    have k0 : kd ts i = 4 := h0.1
    have x0 : tx ts i = [91] := h0.2.2.1
    rw [pC, if_neg (by rw [k0]; decide), if_neg (by rw [x0]; decide), h.b hi hh f (by omega)]
    congr 1
    simp only [List.cons_append, List.length_cons, List.length_append, List.length_nil]; omega
theorem pP_cell {ts : List Lx.Tok} {i : Nat} (hx : tx ts i = [] ∨ tx ts i = [35] ∨ tx ts i = [91]) (f : Nat) : pP ts (f + 1) i = pC ts f i := by
  rw [pP]
  rcases hx with h | h | h <;> rw [h] <;> rw [if_neg (by decide)] <;> rfl
theorem pE_5 {ts : List Lx.Tok} {i : Nat} (h1 : tx ts i ≠ [45]) (h2 : tx ts i ≠ [43]) (f : Nat) : pE ts (f + 1) 5 i = pP ts f i := by
  rw [pE, if_pos rfl, if_neg h1, if_neg h2]
theorem names_ne : ∀ o, o < 26 → ((8 ≤ o ∧ o ≤ 10) ∨ (12 ≤ o ∧ o ≤ 16)) → onm o ≠ [65, 84, 65, 78] ∧ fun1 (onm o) = some o ∧ onm o ≠ [45] ∧ onm o ≠ [43] := by decide
theorem tcl_head {x : Ex} (h : Form x) : ∃ u us, tcl x = u :: us ∧ u.2.2 ≠ [45] ∧ u.2.2 ≠ [43] := by
  cases h with
  | num n h0 h1 => exact ⟨nmb n, [], by simp [tcl, num, tpc], by simp [nmb], by simp [nmb]⟩
  | un o x hx ho =>
    unfold tcl un
    rw [tpc]
    split
    · exact ⟨_, _, rfl, by decide, by decide⟩
    · split
      · exact ⟨_, _, rfl, by decide, by decide⟩
      · refine ⟨_, _, rfl, ?_, ?_⟩ <;> (simp only [nam]; have := names_ne o (by omega) (by omega); rw [show ((o : Int)).toNat = o by omega]; simp [this])
  | bin o x y hx hy ho =>
    unfold tcl bin
    rw [tpc]
    split
    · exact ⟨_, _, rfl, by decide, by decide⟩
    · exact ⟨_, _, rfl, by decide, by decide⟩
theorem Back.five {x : Ex} (h : Back x) (hf : Form x) {ts : List Lx.Tok} {i : Nat} (hi : i ≤ ts.length) (hh : Has ts i (tcl x)) : ∀ f, need ts.length i 5 ≤ f → pE ts f 5 i = .ok x (i + (tcl x).length) := by
  intro f hn
  unfold need at hn
  obtain ⟨f, rfl⟩ : ∃ g, f = g + 1 := ⟨f - 1, by omega⟩
  obtain ⟨u, us, e, h1, h2⟩ := tcl_head hf
  have hd := (show Has ts i (u :: us) from e ▸ hh).head.2.2.1
  rw [pE_5 (by rw [hd]; exact h1) (by rw [hd]; exact h2), h.c ts i hi hh f (by omega)]
theorem Back.ofC {x : Ex} (hf : Form x) (e : tpr x = tcl x) (hc : ∀ ts i, i ≤ ts.length → Has ts i (tcl x) → ∀ f, 16 * (ts.length - i) + 3 ≤ f → pP ts f i = .ok x (i + (tcl x).length))
    (hs : smp x = true → ∀ ts i, i ≤ ts.length → Has ts i (tcl x) → ∀ f, 16 * (ts.length - i) + 2 ≤ f → pC ts f i = .ok x (i + (tcl x).length)) : Back x := by
  refine ⟨hc, fun ts i hi hh hn => ?_, hs⟩
  rw [e] at hh hn ⊢
  refine lift (fun f hf' => ?_) 0 (by omega) hn
  unfold need at hf'
  obtain ⟨f, rfl⟩ : ∃ g, f = g + 1 := ⟨f - 1, by omega⟩
  obtain ⟨u, us, e', h1, h2⟩ := tcl_head hf
  have hd := (show Has ts i (u :: us) from e' ▸ hh).head.2.2.1
  rw [pE_5 (by rw [hd]; exact h1) (by rw [hd]; exact h2), hc ts i hi hh f (by omega)]
theorem Back.ofP {x : Ex} (hf : Form x) (e : tcl x = sgn 91 :: tpr x ++ [sgn 93]) (hs0 : smp x = false)
    (hp : ∀ ts i, i ≤ ts.length → Has ts i (tpr x) → Noop ts 0 (i + (tpr x).length) → ∀ f, need ts.length i 0 ≤ f → pE ts f 0 i = .ok x (i + (tpr x).length)) : Back x := by
  have hs : smp x = true → ∀ ts i, i ≤ ts.length → Has ts i (tcl x) → ∀ f, 16 * (ts.length - i) + 2 ≤ f → pC ts f i = .ok x (i + (tcl x).length) := fun h => by rw [hs0] at h; cases h
  refine ⟨fun ts i hi hh f hf' => ?_, hp, hs⟩
  obtain ⟨f, rfl⟩ : ∃ g, f = g + 1 := ⟨f - 1, by omega⟩
  rw [e] at hh ⊢
  have x0 : tx ts i = [91] := hh.head.2.2.1
  have k0 : kd ts i = 4 := hh.head.1
  rw [pP_cell (.inr (.inr x0))]
  obtain ⟨f, rfl⟩ : ∃ g, f = g + 1 := ⟨f - 1, by omega⟩
  have l2 := hh.head.2.2.2
  obtain ⟨f, rfl⟩ : ∃ g, f = g + 1 := ⟨f - 1, by omega⟩
  have h1 : Has ts (i + 1) (tpr x) := (Has.left hh).tail
  have h2 : Has ts (i + 1 + (tpr x).length) [sgn 93] := by
    have := Has.right (us := sgn 91 :: tpr x) hh
    rw [List.length_cons, show i + ((tpr x).length + 1) = i + 1 + (tpr x).length by omega] at this; exact this
  rw [pC, if_neg (by rw [k0]; decide), if_neg (by rw [x0]; decide), pB, if_pos x0, hp ts (i + 1) (by omega) h1 (noop_sgn93 h2) f (by unfold need; omega)]
  unfold shut
  simp only
  rw [if_pos (show tx ts (i + 1 + (tpr x).length) = [93] from h2.head.2.2.1)]
  congr 1
  simp only [List.cons_append, List.length_cons, List.length_append, List.length_nil]; omega
theorem binB_of {o : Nat} (h : (3 ≤ o ∧ o ≤ 7) ∨ o = 11 ∨ (17 ≤ o ∧ o ≤ 25)) (h' : o ≠ 11) : binB o = true := by
  unfold binB; simp; omega
theorem tcl_pos {x : Ex} (h : Form x) : 1 ≤ (tcl x).length := by
  obtain ⟨u, us, e, _⟩ := tcl_head h; rw [e]; simp
theorem back (x : Ex) : okx x = true → Back x := by
  induction x using Ex.ind with
  | h op n ks ih =>
    intro hok
    have hF := form hok
    cases hF with
    | num n h0 h1 =>
      have hc : ∀ ts i, i ≤ ts.length → Has ts i (tcl (.mk 0 n [])) → ∀ f, 16 * (ts.length - i) + 2 ≤ f → pC ts f i = .ok (.mk 0 n []) (i + (tcl (.mk 0 n [])).length) := fun ts i hi hh f hf => by
        obtain ⟨f, rfl⟩ : ∃ g, f = g + 1 := ⟨f - 1, by omega⟩
        have e : tcl (.mk 0 n []) = [nmb n] := by simp [tcl, tpc]
        rw [e] at hh ⊢
        have h := hh.head
        rw [pC, if_pos (show kd ts i = 2 from h.1), show tn ts i = n from h.2.1]; rfl
      refine Back.ofC (Form.num n h0 h1) (by simp [tpr, tcl, tpc]) (fun ts i hi hh f hf => ?_) (fun _ => hc)
      obtain ⟨f, rfl⟩ : ∃ g, f = g + 1 := ⟨f - 1, by omega⟩
      have e : tcl (.mk 0 n []) = [nmb n] := by simp [tcl, tpc]
      have hx : tx ts i = [] := (show Has ts i [nmb n] from e ▸ hh).head.2.2.1
      rw [pP_cell (.inl hx)]
      exact hc ts i hi hh f (by omega)
    | un o x hx ho =>
      have ihx := ih x (by simp) hx
      have hT : ((o : Int)).toNat = o := by omega
      by_cases o1 : o = 1
      · subst o1
        have e : tcl (.mk ((1 : Nat) : Int) 0 [x]) = sgn 35 :: tce x := by
          simp only [tcl, tpc, tce, smp, tpr]
          simp
        have hc : ∀ ts i, i ≤ ts.length → Has ts i (tcl (.mk ((1 : Nat) : Int) 0 [x])) → ∀ f, 16 * (ts.length - i) + 2 ≤ f → pC ts f i = .ok (.mk ((1 : Nat) : Int) 0 [x]) (i + (tcl (.mk ((1 : Nat) : Int) 0 [x])).length) := fun ts i hi hh f hf => by
          obtain ⟨f, rfl⟩ : ∃ g, f = g + 1 := ⟨f - 1, by omega⟩
          rw [e] at hh ⊢
          have h := hh.head
          have k0 : kd ts i = 4 := h.1
          have l0 := h.2.2.2
          rw [pC, if_neg (by rw [k0]; decide), if_pos (show tx ts i = [35] from h.2.2.1), ihx.ce (by omega) hh.tail f (by omega)]
          show Rs.ok _ _ = _
          congr 1
          simp only [List.length_cons]; omega
        refine Back.ofC (Form.un 1 x hx ho) (by simp [tpr, tcl, tpc]) (fun ts i hi hh f hf => ?_) (fun _ => hc)
        obtain ⟨f, rfl⟩ : ∃ g, f = g + 1 := ⟨f - 1, by omega⟩
        have h35 : tx ts i = [35] := (show Has ts i (sgn 35 :: tce x) from e ▸ hh).head.2.2.1
        rw [pP_cell (.inr (.inl h35))]
        exact hc ts i hi hh f (by omega)
      · by_cases o2 : o = 2
        · subst o2
          refine Back.ofP (Form.un 2 x hx ho) (by simp [tpr, tcl, tpc]) (by simp [smp, Ex.op]) (fun ts i hi hh hn => ?_)
          have e : tpr (.mk ((2 : Nat) : Int) 0 [x]) = sgn 45 :: tcl x := by simp [tpr, tcl, tpc]
          rw [e] at hh hn ⊢
          have h := hh.head
          have l0 := h.2.2.2
          refine lift (fun f hf => ?_) 0 (by omega) hn
          unfold need at hf
          obtain ⟨f, rfl⟩ : ∃ g, f = g + 1 := ⟨f - 1, by omega⟩
          rw [pE, if_pos rfl, if_pos (show tx ts i = [45] from h.2.2.1), ihx.five (form hx) (by omega) hh.tail f (by unfold need; omega)]
          show Rs.ok _ _ = _
          congr 1
          simp only [List.length_cons]; omega
        · have e : tcl (.mk (o : Int) 0 [x]) = nam (onm o) :: (sgn 91 :: tpr x ++ [sgn 93]) := by
            unfold tcl; rw [tpc, if_neg (by omega), if_neg (by omega), hT]; rfl
          have e' : tpr (.mk (o : Int) 0 [x]) = nam (onm o) :: (sgn 91 :: tpr x ++ [sgn 93]) := by
            unfold tpr; rw [tpc, if_neg (by omega), if_neg (by omega), hT]; rfl
          have hs0 : smp (.mk (o : Int) 0 [x]) = false := by unfold smp Ex.op; simp; omega
          refine Back.ofC (Form.un o x hx ho) (by rw [e, e']) (fun ts i hi hh f hf => ?_) (fun h => by rw [hs0] at h; cases h)
          obtain ⟨f, rfl⟩ : ∃ g, f = g + 1 := ⟨f - 1, by omega⟩
          rw [e] at hh ⊢
          have h := hh.head
          have l0 := h.2.2.2
          have nn := names_ne o (by omega) (by omega)
          have hx0 : tx ts i = onm o := h.2.2.1
          rw [pP, hx0, if_neg nn.1, nn.2.1]
          simp only
          rw [ihx.b (by omega) hh.tail f (by omega)]
          show Rs.ok _ _ = _
          congr 1
          simp only [List.cons_append, List.length_cons, List.length_append, List.length_nil]; omega
    | bin o x y hx hy ho =>
      have ihx := ih x (by simp) hx
      have ihy := ih y (by simp) hy
      have hT : ((o : Int)).toNat = o := by omega
      by_cases o11 : o = 11
      · subst o11
        have e : tcl (.mk ((11 : Nat) : Int) 0 [x, y]) = nam (onm 11) :: ((sgn 91 :: tpr x ++ [sgn 93]) ++ (sgn 47 :: (sgn 91 :: tpr y ++ [sgn 93]))) := by
          unfold tcl; rw [tpc, if_pos (show ((11 : Nat) : Int) = 11 from rfl)]; simp [tpr]
        have e' : tpr (.mk ((11 : Nat) : Int) 0 [x, y]) = tcl (.mk ((11 : Nat) : Int) 0 [x, y]) := by
          unfold tcl tpr; rw [tpc, if_pos (show ((11 : Nat) : Int) = 11 from rfl)]
        have hs0 : smp (.mk ((11 : Nat) : Int) 0 [x, y]) = false := by unfold smp Ex.op; simp
        refine Back.ofC (Form.bin 11 x y hx hy ho) e' (fun ts i hi hh f hf => ?_) (fun h => by rw [hs0] at h; cases h)
        obtain ⟨f, rfl⟩ : ∃ g, f = g + 1 := ⟨f - 1, by omega⟩
        rw [e] at hh ⊢
        have h := hh.head
        have l0 := h.2.2.2
        have hx0 : tx ts i = [65, 84, 65, 78] := h.2.2.1
        have h1 := hh.tail.left
        have h2 := hh.tail.right
        have l1 : (sgn 91 :: tpr x ++ [sgn 93]).length = (tpr x).length + 2 := by simp
        rw [l1] at h2
        have g2 := h2.head
        have l2 := g2.2.2.2
        rw [pP, if_pos hx0, ihx.b (by omega) h1 f (by omega)]
        simp only
        rw [show i + 1 + (tpr x).length + 2 = i + 1 + ((tpr x).length + 2) by omega, if_pos (show tx ts (i + 1 + ((tpr x).length + 2)) = [47] from g2.2.2.1), ihy.b (by omega) h2.tail f (by omega)]
        show Rs.ok _ _ = _
        congr 1
        simp only [List.cons_append, List.length_cons, List.length_append, List.length_nil]; omega
      · have hb := binB_of ho o11
        have e : tpr (.mk (o : Int) 0 [x, y]) = tcl x ++ otk o :: tcl y := by
          unfold tpr; rw [tpc, if_neg (by omega), hT]; rfl
        refine Back.ofP (Form.bin o x y hx hy ho) (by rw [e]; unfold tcl; rw [tpc, if_neg (by omega), hT]) (by unfold smp Ex.op; simp; omega) (fun ts i hi hh hn f hf => ?_)
        rw [e] at hh hn ⊢
        have h1 := hh.left
        have h2 := hh.right
        have g2 := h2.head
        have p1 := tcl_pos (form hx)
        have p2 := tcl_pos (form hy)
        have lk : i + (tcl x ++ otk o :: tcl y).length = i + (tcl x).length + 1 + (tcl y).length := by simp only [List.length_cons, List.length_append]; omega
        rw [lk] at hn ⊢
        exact pE_bin hb (by omega) (by omega) g2.2.2.2 (by omega) (ihx.five (form hx) hi h1) (by rw [g2.2.2.1, otk_x]) (ihy.five (form hy) (by have := g2.2.2.2; omega) h2.tail) hn 0 (by omega) f hf
def tva (x : Ex) : List Tr := if smp x = true then tcl x else match x with
  | .mk 2 _ [k] => if smp k = true then sgn 45 :: tcl k else sgn 91 :: tpr x ++ [sgn 93]
  | _ => sgn 91 :: tpr x ++ [sgn 93]
theorem tva_cases (x : Ex) (h : okx x = true) : (tva x = tce x) ∨ ∃ k, x = un 2 k ∧ smp k = true ∧ okx k = true ∧ tva x = sgn 45 :: tce k := by
  unfold tva
  cases hs : smp x with
  | true => left; unfold tce; rw [hs, if_pos rfl, if_pos rfl]
  | false =>
    rw [if_neg (by decide)]
    split
    · rename_i o k
      cases hk : smp k with
      | true =>
        right
        rw [okx_mk] at h
        simp [nodeB] at h
        refine ⟨k, ?_, hk, h.2, ?_⟩
        · rw [un, h.1.2]
        · unfold tce; rw [hk]; rfl
      | false => left; unfold tce; rw [hs]; rfl
    · left; unfold tce; rw [hs]; rfl
theorem tce_head {x : Ex} (h : okx x = true) : ∃ u us, tce x = u :: us ∧ u.2.2 ≠ [45] ∧ u.2.2 ≠ [43] := by
  unfold tce
  split
  · exact tcl_head (form h)
  · exact ⟨_, _, rfl, by decide, by decide⟩
theorem pV_back {x : Ex} (h : okx x = true) {ts : List Lx.Tok} {i : Nat} (hi : i ≤ ts.length) (hh : Has ts i (tva x)) : pV ts i = .ok x (i + (tva x).length) := by
  unfold pV
  rcases tva_cases x h with e | ⟨k, rfl, hk, hok, e⟩
  · rw [e] at hh ⊢
    obtain ⟨u, us, e', h1, h2⟩ := tce_head h
    have hd := (show Has ts i (u :: us) from e' ▸ hh).head.2.2.1
    rw [if_neg (by rw [hd]; exact h1), if_neg (by rw [hd]; exact h2)]
    exact (back x h).ce hi hh _ (by unfold fuel; omega)
  · rw [e] at hh ⊢
    have g := hh.head
    rw [if_pos (show tx ts i = [45] from g.2.2.1), (back k hok).ce (by have := g.2.2.2; omega) hh.tail _ (by unfold fuel; omega)]
    show Rs.ok _ _ = _
    congr 1
    simp only [List.length_cons]; omega
end Sy
end Go.Proofs.YtciglhecjkeogaaGreatDoor

