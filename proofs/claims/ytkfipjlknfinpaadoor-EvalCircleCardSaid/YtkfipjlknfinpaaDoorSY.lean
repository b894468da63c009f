import Derived.Lib.Bytealg
import Derived.Test.YtkfipjlknfinpaaDoorL2a

/- Plain: the tokens of a line, as functions of its bytes. -/
set_option linter.unusedVariables false
set_option linter.unusedSimpArgs false
namespace Go.Proofs.YtkfipjlknfinpaaDoor
namespace Lx

/-- A token: kind, number, offset, text. -/
structure Tok where
  k : Int
  n : Int
  p : Nat
  x : List UInt8

/-- The names. -/
def nms : List (List UInt8) := [[73, 70], [71, 79, 84, 79], [87, 72, 73, 76, 69], [68, 79], [69, 78, 68], [69, 81], [78, 69], [71, 84], [71, 69], [76, 84], [76, 69], [65, 78, 68], [79, 82], [88, 79, 82], [77, 79, 68], [83, 73, 78], [67, 79, 83], [84, 65, 78], [65, 84, 65, 78], [83, 81, 82, 84], [65, 66, 83], [82, 79, 85, 78, 68], [70, 73, 88], [70, 85, 80]]

def nm (i : Nat) : List UInt8 := nms.getD i []
/-- Does n stand at the beginning of l? -/
def pfx (n l : List UInt8) : Bool := decide (n.length ≤ l.length) && decide (l.take n.length = n)
def nstep (l b n : List UInt8) : List UInt8 := if (decide (b.length < n.length) && pfx n l) = true then n else b
/-- The longest of the first k names that begins at l. -/
def nfold (l : List UInt8) (k : Nat) : List UInt8 := (nms.take k).foldl (nstep l) []
def fnm (l : List UInt8) : List UInt8 := nfold l 24

theorem nms_length : nms.length = 24 := by decide
theorem nfold_succ (l : List UInt8) (k : Nat) (h : k < 24) : nfold l (k + 1) = nstep l (nfold l k) (nm k) := by
  unfold nfold
  have hk : k < nms.length := by rw [nms_length]; exact h
  rw [List.take_succ_eq_append_getElem hk, List.foldl_append]
  unfold nm
  rw [List.getD_eq_getElem?_getD, List.getElem?_eq_getElem hk]
  rfl

def isn (c : UInt8) : Bool := isd c || (c == 46)
def isu (c : UInt8) : Bool := decide (65 ≤ (c.toNat : Int) ∧ (c.toNat : Int) ≤ 90)
def sgs : List UInt8 := [43, 45, 42, 47, 61, 35, 91, 93]
def isg (c : UInt8) : Bool := decide ((0 : Int) ≤ Lib.indexByte sgs c)
def ws (c : UInt8) : Bool := c == 32 || c == 9 || c == 13

/-- How many bytes at the beginning are digits or points. -/
def nrun : List UInt8 → Nat
  | [] => 0
  | c :: l => if isn c = true then nrun l + 1 else 0

/-- What begins here: kind, number, text, length; the length is 0 where no token begins. -/
structure F where
  k : Int
  n : Int
  x : List UInt8
  m : Nat

def fnum (l : List UInt8) : F := if pok (l.take (nrun l)) = true then ⟨2, pnum (l.take (nrun l)), [], nrun l⟩ else ⟨0, 0, [], 0⟩

def fst (l : List UInt8) : F :=
  if isn (l.getD 0 0) = true then fnum l
  else if isu (l.getD 0 0) = true then (if fnm l = [] then ⟨1, (l.getD 0 0).toNat, [], 1⟩ else ⟨3, 0, fnm l, (fnm l).length⟩)
  else if isg (l.getD 0 0) = true then ⟨4, 0, [l.getD 0 0], 1⟩ else ⟨0, 0, [], 0⟩

inductive Ac where
  | bad
  | skip (k : Nat)
  | tok (f : F)

def act (c : UInt8) (t : List UInt8) : Ac :=
  if ws c = true then .skip 0
  else if c = 59 then .skip t.length
  else if c = 40 then (if Lib.indexByte t 41 = -1 then .bad else .skip ((Lib.indexByte t 41).toNat + 1))
  else if (fst (c :: t)).m = 0 then .bad else .tok (fst (c :: t))

inductive Res where
  | ok (l : List Tok)
  | bad (a : Nat)

/-- Behind the tokens ts. -/
def Res.pre (ts : List Tok) : Res → Res
  | .ok l => .ok (ts ++ l)
  | .bad a => .bad a

def lx (l : List UInt8) (a : Nat) : Res :=
  match l with
  | [] => .ok []
  | c :: t =>
    match act c t with
    | .bad => .bad a
    | .skip k => lx (t.drop k) (a + 1 + k)
    | .tok f => (lx (t.drop (f.m - 1)) (a + f.m)).pre [⟨f.k, f.n, a, f.x⟩]
termination_by l.length
decreasing_by all_goals (simp; omega)

def tks (l : List UInt8) : List Tok := match lx l 0 with
  | .ok ts => ts
  | .bad _ => []
def tat (l : List UInt8) : Nat := match lx l 0 with
  | .ok _ => l.length
  | .bad a => a
def ter (l : List UInt8) : Int := match lx l 0 with
  | .ok _ => 0
  | .bad _ => 2

theorem pre_pre (a b : List Tok) (r : Res) : (r.pre b).pre a = r.pre (a ++ b) := by
  cases r <;> simp [Res.pre]
theorem pre_nil (r : Res) : r.pre [] = r := by cases r <;> simp [Res.pre]

theorem lx_nil (a : Nat) : lx [] a = .ok [] := by unfold lx; rfl
theorem lx_bad {c : UInt8} {t : List UInt8} (h : act c t = .bad) (a : Nat) : lx (c :: t) a = .bad a := by unfold lx; rw [h]
theorem lx_skip {c : UInt8} {t : List UInt8} {k : Nat} (h : act c t = .skip k) (a : Nat) : lx (c :: t) a = lx (t.drop k) (a + 1 + k) := by
  rw [lx, h]
theorem lx_tok {c : UInt8} {t : List UInt8} {f : F} (h : act c t = .tok f) (a : Nat) : lx (c :: t) a = (lx (t.drop (f.m - 1)) (a + f.m)).pre [⟨f.k, f.n, a, f.x⟩] := by
  rw [lx, h]

/-! ### the loop's relation -/

/-- At offset k, behind the tokens ts. -/
def At (l : List UInt8) (k : Nat) (ts : List Tok) : Prop := k ≤ l.length ∧ ts.length ≤ k ∧ lx l 0 = (lx (l.drop k) k).pre ts

theorem At.start (l : List UInt8) : At l 0 [] := ⟨Nat.zero_le _, Nat.le_refl _, by rw [pre_nil]; rfl⟩

theorem At.fin {l : List UInt8} {k : Nat} {ts : List Tok} (h : At l k ts) (e : k = l.length) : tks l = ts ∧ tat l = l.length ∧ ter l = 0 := by
  have := h.2.2
  rw [e, List.drop_length, lx_nil] at this
  simp only [Res.pre, List.append_nil] at this
  unfold tks tat ter
  rw [this]; exact ⟨rfl, rfl, rfl⟩

theorem At.bad {l : List UInt8} {k : Nat} {ts : List Tok} (h : At l k ts) (hk : k < l.length) (e : act l[k] (l.drop (k + 1)) = .bad) : tks l = [] ∧ tat l = k ∧ ter l = 2 := by
  have := h.2.2
  rw [List.drop_eq_getElem_cons hk, lx_bad e] at this
  simp only [Res.pre] at this
  unfold tks tat ter
  rw [this]; exact ⟨rfl, rfl, rfl⟩

theorem At.skip {l : List UInt8} {k j : Nat} {ts : List Tok} (h : At l k ts) (hk : k < l.length) (e : act l[k] (l.drop (k + 1)) = .skip j) (hj : k + 1 + j ≤ l.length) : At l (k + 1 + j) ts := by
  refine ⟨hj, by have := h.2.1; omega, ?_⟩
  rw [h.2.2, List.drop_eq_getElem_cons hk, lx_skip e, List.drop_drop]

theorem At.tok {l : List UInt8} {k : Nat} {f : F} {ts : List Tok} (h : At l k ts) (hk : k < l.length) (e : act l[k] (l.drop (k + 1)) = .tok f) (hm : 1 ≤ f.m) (hj : k + f.m ≤ l.length) : At l (k + f.m) (ts ++ [⟨f.k, f.n, k, f.x⟩]) := by
  refine ⟨hj, by have := h.2.1; rw [List.length_append]; simp; omega, ?_⟩
  rw [h.2.2, List.drop_eq_getElem_cons hk, lx_tok e, List.drop_drop, pre_pre, show k + 1 + (f.m - 1) = k + f.m by omega]

/-! ### what begins here -/

theorem nrun_le (l : List UInt8) : nrun l ≤ l.length := by
  induction l with
  | nil => exact Nat.le_refl _
  | cons c l ih => unfold nrun; split <;> simp <;> omega

theorem pfx_le {n l : List UInt8} (h : pfx n l = true) : n.length ≤ l.length := by
  unfold pfx at h; simp at h; exact h.1

theorem nstep_le {l b n : List UInt8} (h : b.length ≤ l.length) : (nstep l b n).length ≤ l.length := by
  unfold nstep
  split
  · rename_i h; simp at h; exact pfx_le h.2
  · exact h

theorem nfold_le (l : List UInt8) : ∀ k, k ≤ 24 → (nfold l k).length ≤ l.length
  | 0, _ => Nat.zero_le _
  | k + 1, h => by rw [nfold_succ l k (by omega)]; exact nstep_le (nfold_le l k (by omega))

theorem fst_le (l : List UInt8) (h : l ≠ []) : (fst l).m ≤ l.length := by
  have h1 : 1 ≤ l.length := by cases l with
    | nil => exact absurd rfl h
    | cons _ _ => simp
  have h2 := nrun_le l
  have h3 := nfold_le l 24 (Nat.le_refl _)
  unfold fst fnum fnm
  (repeat' split) <;> simp_all

end Lx
end Go.Proofs.YtkfipjlknfinpaaDoor

/- Plain: expressions, and what the rules of the grammar read from a list of tokens. -/
set_option linter.unusedVariables false
set_option linter.unusedSimpArgs false
namespace Go.Proofs.YtkfipjlknfinpaaDoor
namespace Sy
open Lx

/-- An expression. -/
inductive Ex where
  | mk (op n : Int) (ks : List Ex)

def Ex.op : Ex → Int | .mk o _ _ => o
def Ex.n : Ex → Int | .mk _ n _ => n
def Ex.ks : Ex → List Ex | .mk _ _ k => k

theorem Ex.ind {P : Ex → Prop} (h : ∀ op n ks, (∀ k ∈ ks, P k) → P (.mk op n ks)) : ∀ x, P x
  | .mk op n ks => h op n ks (fun k _ => Ex.ind h k)

/-- The names and signs of the operators. -/
def onms : List (List UInt8) := [[], [35], [45], [43], [45], [42], [47], [77, 79, 68], [83, 73, 78], [67, 79, 83], [84, 65, 78], [65, 84, 65, 78], [83, 81, 82, 84], [65, 66, 83], [82, 79, 85, 78, 68], [70, 73, 88], [70, 85, 80], [69, 81], [78, 69], [71, 84], [71, 69], [76, 84], [76, 69], [65, 78, 68], [79, 82], [88, 79, 82]]
def onm (i : Nat) : List UInt8 := onms.getD i []
theorem onms_length : onms.length = 26 := by decide

/-- The first of k operators from lo on whose name is x. -/
def fop (x : List UInt8) : Nat → Nat → Option Nat
  | _, 0 => none
  | lo, k + 1 => if x = onm lo then some lo else fop x (lo + 1) k

theorem fop_range {x : List UInt8} : ∀ {k lo op : Nat}, fop x lo k = some op → lo ≤ op ∧ op < lo + k ∧ x = onm op
  | 0, _, _, h => by simp [fop] at h
  | k + 1, lo, op, h => by
    unfold fop at h
    by_cases e : x = onm lo
    · rw [if_pos e] at h; injection h with h; subst h; exact ⟨Nat.le_refl _, by omega, e⟩
    · rw [if_neg e] at h
      have := fop_range h
      exact ⟨by omega, by omega, this.2.2⟩

theorem onm_ne : ∀ i, 1 ≤ i → i < 26 → onm i ≠ [] := by
  have h : ∀ i, i < 26 → 1 ≤ i → onm i ≠ [] := by decide
  exact fun i a b => h i b a

theorem fop_nil : ∀ {k lo : Nat}, 1 ≤ lo → lo + k ≤ 26 → fop [] lo k = none
  | 0, _, _, _ => rfl
  | k + 1, lo, h, g => by
    unfold fop
    rw [if_neg (fun e => onm_ne lo h (by omega) e.symm)]
    exact fop_nil (by omega) (by omega)

/-- The operators of a level: the first one, and how many. -/
def lo : Nat → Nat
  | 0 => 24 | 1 => 23 | 2 => 17 | 3 => 3 | _ => 5
def cn : Nat → Nat
  | 0 => 2 | 1 => 1 | 2 => 6 | 3 => 2 | _ => 3
/-- The operator of a level that is named x. -/
def lop (l : Nat) (x : List UInt8) : Option Nat := fop x (lo l) (cn l)
/-- The function of one argument that is named x. -/
def fun1 (x : List UInt8) : Option Nat := match fop x 8 3 with
  | some o => some o
  | none => fop x 12 5

def kd (ts : List Lx.Tok) (i : Nat) : Int := match ts[i]? with | some t => t.k | none => 0
def tn (ts : List Lx.Tok) (i : Nat) : Int := match ts[i]? with | some t => t.n | none => 0
def tx (ts : List Lx.Tok) (i : Nat) : List UInt8 := match ts[i]? with | some t => t.x | none => []
/-- The offset of token i; behind the last one, that of the end. -/
def tp (ts : List Lx.Tok) (len i : Nat) : Nat := match ts[i]? with | some t => t.p | none => len

theorem tx_lt {ts : List Lx.Tok} {i : Nat} {x : List UInt8} (h : tx ts i = x) (h0 : x ≠ []) : i < ts.length := by
  rcases Nat.lt_or_ge i ts.length with g | g
  · exact g
  · unfold tx at h; rw [List.getElem?_eq_none g] at h; exact absurd h.symm h0
theorem kd_lt {ts : List Lx.Tok} {i : Nat} {k : Int} (h : kd ts i = k) (h0 : k ≠ 0) : i < ts.length := by
  rcases Nat.lt_or_ge i ts.length with g | g
  · exact g
  · unfold kd at h; rw [List.getElem?_eq_none g] at h; exact absurd h.symm h0
theorem lop_lt {ts : List Lx.Tok} {i l o : Nat} (h : lop l (tx ts i) = some o) : i < ts.length := by
  rcases Nat.lt_or_ge i ts.length with g | g
  · exact g
  · unfold tx at h; rw [List.getElem?_eq_none g] at h
    unfold lop at h
    rw [fop_nil (by unfold lo; split <;> omega) (by unfold lo cn; split <;> simp)] at h
    cases h

/-- What a rule gives: a value and the index behind it, or the index of the token that cannot follow. -/
inductive Rs (α : Type) where
  | ok (x : α) (i : Nat)
  | bad (i : Nat)

def num (n : Int) : Ex := .mk 0 n []
def un (o : Int) (x : Ex) : Ex := .mk o 0 [x]
def bin (o : Int) (x y : Ex) : Ex := .mk o 0 [x, y]

/-- ] behind an expression. -/
def shut (ts : List Lx.Tok) : Rs Ex → Rs Ex
  | .bad j => .bad j
  | .ok x j => if tx ts j = [93] then .ok x (j + 1) else .bad j
/-- An operator of one operand. -/
def wrapU (o : Int) : Rs Ex → Rs Ex
  | .bad j => .bad j
  | .ok x j => .ok (un o x) j
def wrapB (o : Int) (x : Ex) : Rs Ex → Rs Ex
  | .bad j => .bad j
  | .ok y j => .ok (bin o x y) j

mutual
/-- Level l of an expression, with fuel. -/
def pE (ts : List Lx.Tok) : Nat → Nat → Nat → Rs Ex
  | 0, _, i => .bad i
  | f + 1, l, i =>
    if l = 5 then
      if tx ts i = [45] then wrapU 2 (pE ts f 5 (i + 1))
      else if tx ts i = [43] then pE ts f 5 (i + 1)
      else pP ts f i
    else match pE ts f (l + 1) i with
      | .bad j => .bad j
      | .ok x j => pL ts f l x j
/-- The operators of level l behind the operand x. -/
def pL (ts : List Lx.Tok) : Nat → Nat → Ex → Nat → Rs Ex
  | 0, _, _, i => .bad i
  | f + 1, l, x, i => match lop l (tx ts i) with
    | none => .ok x i
    | some o => match pE ts f (l + 1) (i + 1) with
      | .bad j => .bad j
      | .ok y j => if l = 2 then .ok (bin o x y) j else pL ts f l (bin o x y) j
/-- primary -/
def pP (ts : List Lx.Tok) : Nat → Nat → Rs Ex
  | 0, i => .bad i
  | f + 1, i =>
    if tx ts i = [65, 84, 65, 78] then match pB ts f (i + 1) with
      | .bad j => .bad j
      | .ok x j => if tx ts j = [47] then wrapB 11 x (pB ts f (j + 1)) else .bad j
    else match fun1 (tx ts i) with
      | some o => wrapU o (pB ts f (i + 1))
      | none => pC ts f i
/-- cell -/
def pC (ts : List Lx.Tok) : Nat → Nat → Rs Ex
  | 0, i => .bad i
  | f + 1, i =>
    if kd ts i = 2 then .ok (num (tn ts i)) (i + 1)
    else if tx ts i = [35] then wrapU 1 (pC ts f (i + 1))
    else pB ts f i
/-- an expression in brackets -/
def pB (ts : List Lx.Tok) : Nat → Nat → Rs Ex
  | 0, i => .bad i
  | f + 1, i => if tx ts i = [91] then shut ts (pE ts f 0 (i + 1)) else .bad i
end

/-- What a value consumes. -/
def Fwd (n i : Nat) (r : Rs Ex) : Prop := match r with
  | .ok _ j => i < j ∧ j ≤ n
  | .bad j => i ≤ j ∧ j ≤ n

theorem Fwd.wrapU {n i : Nat} {o : Int} {r : Rs Ex} (h : Fwd n i r) : Fwd n i (wrapU o r) := by cases r <;> exact h
theorem Fwd.wrapB {n i : Nat} {o : Int} {x : Ex} {r : Rs Ex} (h : Fwd n i r) : Fwd n i (wrapB o x r) := by cases r <;> exact h
theorem Fwd.later {n i k : Nat} {r : Rs Ex} (h : Fwd n k r) (g : i ≤ k) : Fwd n i r := by
  cases r <;> (unfold Fwd at *; simp only at *; omega)
theorem Fwd.shut {ts : List Lx.Tok} {i : Nat} {r : Rs Ex} (h : Fwd ts.length i r) : Fwd ts.length i (shut ts r) := by
  cases r with
  | bad j => exact h
  | ok x j =>
    unfold Sy.shut
    unfold Fwd at h
    simp only at h ⊢
    split
    · have := tx_lt ‹_› (by decide)
      unfold Fwd; simp only; omega
    · unfold Fwd; simp only; omega

structure FwdAll (ts : List Lx.Tok) (f : Nat) : Prop where
  e : ∀ l i, i ≤ ts.length → Fwd ts.length i (pE ts f l i)
  l : ∀ l x i, i ≤ ts.length → (match pL ts f l x i with | .ok _ j => i ≤ j ∧ j ≤ ts.length | .bad j => i ≤ j ∧ j ≤ ts.length)
  p : ∀ i, i ≤ ts.length → Fwd ts.length i (pP ts f i)
  c : ∀ i, i ≤ ts.length → Fwd ts.length i (pC ts f i)
  b : ∀ i, i ≤ ts.length → Fwd ts.length i (pB ts f i)

theorem Fwd.self {n i : Nat} (h : i ≤ n) : Fwd n i (.bad i : Rs Ex) := ⟨Nat.le_refl _, h⟩

theorem fwd (ts : List Lx.Tok) : ∀ f, FwdAll ts f
  | 0 => ⟨fun l i h => by unfold pE; exact Fwd.self h, fun l x i h => by unfold pL; exact ⟨Nat.le_refl _, h⟩, fun i h => by unfold pP; exact Fwd.self h, fun i h => by unfold pC; exact Fwd.self h, fun i h => by unfold pB; exact Fwd.self h⟩
  | f + 1 => by
    have ih := fwd ts f
    refine ⟨fun l i h => ?_, fun l x i h => ?_, fun i h => ?_, fun i h => ?_, fun i h => ?_⟩
    · unfold pE
      split
      · split
        · have g := tx_lt ‹_› (by decide)
          exact Fwd.wrapU ((ih.e 5 (i + 1) (by omega)).later (by omega))
        · split
          · have g := tx_lt ‹_› (by decide)
            exact (ih.e 5 (i + 1) (by omega)).later (by omega)
          · exact ih.p i h
      · have g := ih.e (l + 1) i h
        cases e : pE ts f (l + 1) i with
        | bad j => rw [e] at g; exact g
        | ok x j =>
          rw [e] at g
          unfold Fwd at g
          simp only at g ⊢
          have k := ih.l l x j g.2
          cases e2 : pL ts f l x j <;> rw [e2] at k <;> unfold Fwd <;> simp only at k ⊢ <;> omega
    · unfold pL
      cases e : lop l (tx ts i) with
      | none => exact ⟨Nat.le_refl _, h⟩
      | some o =>
        have g0 := lop_lt e
        have g := ih.e (l + 1) (i + 1) (by omega)
        cases e1 : pE ts f (l + 1) (i + 1) with
        | bad j => rw [e1] at g; unfold Fwd at g; simp only at g ⊢; omega
        | ok y j =>
          rw [e1] at g
          unfold Fwd at g
          simp only at g ⊢
          by_cases h2 : l = 2
          · rw [if_pos h2]; simp only; omega
          · rw [if_neg h2]
            have k := ih.l l (bin o x y) j g.2
            cases e2 : pL ts f l (bin o x y) j <;> rw [e2] at k <;> simp only at k ⊢ <;> omega
    · unfold pP
      split
      · have g0 := tx_lt ‹_› (by decide)
        have g := ih.b (i + 1) (by omega)
        cases e1 : pB ts f (i + 1) with
        | bad j => rw [e1] at g; exact Fwd.later (k := i + 1) g (by omega)
        | ok x j =>
          rw [e1] at g
          unfold Fwd at g
          simp only at g ⊢
          split
          · have g1 := tx_lt ‹_› (by decide)
            exact Fwd.wrapB ((ih.b (j + 1) (by omega)).later (by omega))
          · unfold Fwd; simp only; omega
      · cases e1 : fun1 (tx ts i) with
        | none => exact ih.c i h
        | some o =>
          have g0 : i < ts.length := by
            rcases Nat.lt_or_ge i ts.length with g | g
            · exact g
            · unfold tx at e1; rw [List.getElem?_eq_none g] at e1
              cases (show fun1 [] = some o from e1)
          exact Fwd.wrapU ((ih.b (i + 1) (by omega)).later (by omega))
    · unfold pC
      split
      · have g := kd_lt ‹_› (by decide)
        unfold Fwd; simp only; omega
      · split
        · have g := tx_lt ‹_› (by decide)
          exact Fwd.wrapU ((ih.c (i + 1) (by omega)).later (by omega))
        · exact ih.b i h
    · unfold pB
      split
      · have g := tx_lt ‹_› (by decide)
        exact Fwd.shut ((ih.e 0 (i + 1) (by omega)).later (by omega))
      · exact Fwd.self h

/-- Fuel that is enough. -/
def fuel (ts : List Lx.Tok) : Nat := 16 * ts.length + 40

/-- value -/
def pV (ts : List Lx.Tok) (i : Nat) : Rs Ex :=
  if tx ts i = [45] then wrapU 2 (pC ts (fuel ts) (i + 1))
  else if tx ts i = [43] then pC ts (fuel ts) (i + 1)
  else pC ts (fuel ts) i

theorem fwd_v (ts : List Lx.Tok) (i : Nat) (h : i ≤ ts.length) : Fwd ts.length i (pV ts i) := by
  unfold pV
  split
  · have g := tx_lt ‹_› (by decide)
    exact Fwd.wrapU (((fwd ts _).c (i + 1) (by omega)).later (by omega))
  · split
    · have g := tx_lt ‹_› (by decide)
      exact ((fwd ts _).c (i + 1) (by omega)).later (by omega)
    · exact (fwd ts _).c i h

/-- May a word begin with this letter? -/
def isw (c : Int) : Bool := decide (65 ≤ c) && decide (c ≤ 90) && decide (c ≠ 78) && decide (c ≠ 79)

/-- words, behind the words ws, with fuel. -/
def pW (ts : List Lx.Tok) : Nat → List (Int × Ex) → Nat → Rs (List (Int × Ex))
  | 0, _, i => .bad i
  | f + 1, ws, i => if kd ts i = 1 ∧ isw (tn ts i) = true then
      match pV ts (i + 1) with
      | .bad j => .bad j
      | .ok x j => pW ts f (ws ++ [(tn ts i, x)]) j
    else .ok ws i

/-- A number that is an integer from 1 to m. -/
def isc (n : Int) (m : Nat) : Bool := decide (n % 1000000 = 0) && decide (1 ≤ n / 1000000) && decide (n / 1000000 ≤ m)
def pN (ts : List Lx.Tok) (m i : Nat) : Rs Int :=
  if kd ts i = 2 ∧ isc (tn ts i) m = true then .ok (tn ts i / 1000000) (i + 1) else .bad i

structure Bl where
  kind : Int
  label : Int
  skip : Bool
  words : List (Int × Ex)
  left : Ex
  x : Ex
  n : Int

def zx : Ex := .mk 0 0 []
/-- A block of no label. -/
def blk (k : Int) (ws : List (Int × Ex)) (l x : Ex) (n : Int) : Bl := ⟨k, 0, false, ws, l, x, n⟩

def wrapC {α β : Type} (g : α → β) : Rs α → Rs β
  | .bad j => .bad j
  | .ok x j => .ok (g x) j

/-- content -/
def pCt (ts : List Lx.Tok) (i : Nat) : Rs Bl :=
  if tx ts i = [35] then match pC ts (fuel ts) (i + 1) with
    | .bad j => .bad j
    | .ok c j => if tx ts j = [61] then wrapC (fun x => blk 1 [] c x 0) (pE ts (fuel ts) 0 (j + 1)) else .bad j
  else if tx ts i = [73, 70] then match pB ts (fuel ts) (i + 1) with
    | .bad j => .bad j
    | .ok x j => if tx ts j = [71, 79, 84, 79] then wrapC (fun v => blk 3 [] v x 0) (pV ts (j + 1)) else .bad j
  else if tx ts i = [71, 79, 84, 79] then wrapC (fun x => blk 2 [] zx x 0) (pV ts (i + 1))
  else if tx ts i = [87, 72, 73, 76, 69] then match pB ts (fuel ts) (i + 1) with
    | .bad j => .bad j
    | .ok x j => if tx ts j = [68, 79] then wrapC (fun n => blk 4 [] zx x n) (pN ts 3 (j + 1)) else .bad j
  else if tx ts i = [69, 78, 68] then wrapC (fun n => blk 5 [] zx zx n) (pN ts 3 (i + 1))
  else if kd ts i = 1 ∧ tn ts i = 79 then wrapC (fun n => blk 6 [] zx zx n) (pN ts 99999 (i + 1))
  else wrapC (fun ws => blk 0 ws zx zx 0) (pW ts (ts.length + 1) [] i)

/-- The end of the line behind a content. -/
def pEnd (ts : List Lx.Tok) (skip : Bool) (label : Int) : Rs Bl → Rs Bl
  | .bad j => .bad j
  | .ok b j => if j < ts.length then .bad j else .ok { b with skip := skip, label := label } j

/-- line -/
def pLn (ts : List Lx.Tok) : Rs Bl :=
  let i := if tx ts 0 = [47] then 1 else 0
  let s := decide (tx ts 0 = [47])
  if kd ts i = 1 ∧ tn ts i = 78 then match pN ts 99999 (i + 1) with
    | .bad j => .bad j
    | .ok n j => pEnd ts s n (pCt ts j)
  else pEnd ts s 0 (pCt ts i)

end Sy
end Go.Proofs.YtkfipjlknfinpaaDoor

/- Plain: the tokens of a written expression, and that the rules of the grammar read it back. -/
set_option linter.unusedVariables false
set_option linter.unusedSimpArgs false
namespace Go.Proofs.YtkfipjlknfinpaaDoor
namespace Sy
open Lx

/-- How many Kids an operator has. -/
def kdsl : List Nat := [0, 1, 1, 2, 2, 2, 2, 2, 1, 1, 1, 2, 1, 1, 1, 1, 1, 2, 2, 2, 2, 2, 2, 2, 2, 2]
def kds (o : Nat) : Nat := kdsl.getD o 0

/-- A right node, its Kids aside. -/
def nodeB (op n : Int) (k : Nat) : Bool := decide (0 ≤ op) && decide (op ≤ 25) && decide (k = kds op.toNat) && (decide (n = 0) || (decide (op = 0) && decide (0 ≤ n) && decide (n < 1000000000000000)))

/-- An expression whose operators, numbers and Kids are right. -/
def okx : Ex → Bool
  | .mk op n ks => nodeB op n ks.length && ks.attach.all (fun ⟨k, h⟩ => okx k)

theorem okx_mk (op n : Int) (ks : List Ex) : okx (.mk op n ks) = (nodeB op n ks.length && ks.all okx) := by
  rw [okx]; simp

/-- The greatest depth below. -/
def dmx : List Nat → Nat
  | [] => 0
  | d :: l => max d (dmx l)
def dpt : Ex → Nat
  | .mk op n ks => 1 + dmx (ks.attach.map (fun ⟨k, h⟩ => dpt k))
theorem dpt_mk (op n : Int) (ks : List Ex) : dpt (.mk op n ks) = 1 + dmx (ks.map dpt) := by
  rw [dpt]; simp

inductive Form : Ex → Prop where
  | num (n : Int) (h0 : 0 ≤ n) (h1 : n < 1000000000000000) : Form (num n)
  | un (o : Nat) (x : Ex) (hx : okx x = true) (h : o = 1 ∨ o = 2 ∨ (8 ≤ o ∧ o ≤ 10) ∨ (12 ≤ o ∧ o ≤ 16)) : Form (un o x)
  | bin (o : Nat) (x y : Ex) (hx : okx x = true) (hy : okx y = true) (h : (3 ≤ o ∧ o ≤ 7) ∨ o = 11 ∨ (17 ≤ o ∧ o ≤ 25)) : Form (bin o x y)

theorem kds_0 : ∀ o, o < 26 → kds o = 0 → o = 0 := by decide
theorem kds_1 : ∀ o, o < 26 → kds o = 1 → (o = 1 ∨ o = 2 ∨ (8 ≤ o ∧ o ≤ 10) ∨ (12 ≤ o ∧ o ≤ 16)) := by decide
theorem kds_2 : ∀ o, o < 26 → kds o = 2 → ((3 ≤ o ∧ o ≤ 7) ∨ o = 11 ∨ (17 ≤ o ∧ o ≤ 25)) := by decide
theorem kds_le : ∀ o, o < 26 → kds o = 0 ∨ kds o = 1 ∨ kds o = 2 := by decide
theorem kds_1i : ∀ o, o < 26 → (o = 1 ∨ o = 2 ∨ (8 ≤ o ∧ o ≤ 10) ∨ (12 ≤ o ∧ o ≤ 16)) → kds o = 1 := by decide
theorem kds_2i : ∀ o, o < 26 → ((3 ≤ o ∧ o ≤ 7) ∨ o = 11 ∨ (17 ≤ o ∧ o ≤ 25)) → kds o = 2 := by decide

theorem form {x : Ex} (h : okx x = true) : Form x := by
  obtain ⟨op, n, ks⟩ := x
  rw [okx_mk] at h
  simp only [nodeB, Bool.and_eq_true, Bool.or_eq_true, decide_eq_true_eq] at h
  obtain ⟨⟨⟨⟨h0, h1⟩, hk⟩, hn⟩, ha⟩ := h
  have hb : op.toNat < 26 := by omega
  have ho : (op.toNat : Int) = op := by omega
  rcases kds_le op.toNat hb with k | k | k
  · have e := kds_0 _ hb k
    rw [k] at hk
    obtain rfl := List.eq_nil_of_length_eq_zero hk
    have : op = 0 := by omega
    subst this
    exact Form.num n (by omega) (by omega)
  · have e := kds_1 _ hb k
    rw [k] at hk
    have hn0 : n = 0 := by rcases hn with hn | ⟨⟨hn, _⟩, _⟩ <;> omega
    subst hn0
    obtain ⟨x, rfl⟩ := List.length_eq_one_iff.1 hk
    have := Form.un op.toNat x (by simpa using ha) e
    rw [Sy.un, ho] at this; exact this
  · have e := kds_2 _ hb k
    rw [k] at hk
    have hn0 : n = 0 := by rcases hn with hn | ⟨⟨hn, _⟩, _⟩ <;> omega
    subst hn0
    obtain ⟨x, y, rfl⟩ : ∃ x y, ks = [x, y] := by
      match ks, hk with
      | [x, y], _ => exact ⟨x, y, rfl⟩
    simp at ha
    have := Form.bin op.toNat x y ha.1 ha.2 e
    rw [Sy.bin, ho] at this; exact this

theorem okx_num {n : Int} (h0 : 0 ≤ n) (h1 : n < 1000000000000000) : okx (num n) = true := by
  rw [num, okx_mk]; simp [nodeB, kds, kdsl, h0, h1]
theorem okx_un {o : Nat} {x : Ex} (h : okx x = true) (ho : o = 1 ∨ o = 2 ∨ (8 ≤ o ∧ o ≤ 10) ∨ (12 ≤ o ∧ o ≤ 16)) : okx (un o x) = true := by
  rw [un, okx_mk]
  simp only [nodeB, Bool.and_eq_true, Bool.or_eq_true, decide_eq_true_eq]
  refine ⟨⟨⟨⟨by omega, by omega⟩, ?_⟩, .inl trivial⟩, by simp [h]⟩
  rw [show ((o : Int)).toNat = o by omega, kds_1i o (by omega) ho]; rfl
theorem okx_bin {o : Nat} {x y : Ex} (h : okx x = true) (h' : okx y = true) (ho : (3 ≤ o ∧ o ≤ 7) ∨ o = 11 ∨ (17 ≤ o ∧ o ≤ 25)) : okx (bin o x y) = true := by
  rw [bin, okx_mk]
  simp only [nodeB, Bool.and_eq_true, Bool.or_eq_true, decide_eq_true_eq]
  refine ⟨⟨⟨⟨by omega, by omega⟩, ?_⟩, .inl trivial⟩, by simp [h, h']⟩
  rw [show ((o : Int)).toNat = o by omega, kds_2i o (by omega) ho]; rfl

/-! ### what is read is right -/

/-- The tokens are such as lex.Tokens gives. -/
def Good (ts : List Lx.Tok) : Prop := ∀ t ∈ ts, (t.k = 2 → 0 ≤ t.n ∧ t.n < 1000000000000000) ∧ (t.x ≠ [] → t.k = 3 ∨ t.k = 4) ∧ (t.k = 3 ∨ t.k = 4 → t.x ≠ []) ∧ (t.k = 1 → 65 ≤ t.n ∧ t.n ≤ 90)

def OkR (r : Rs Ex) : Prop := match r with
  | .ok x _ => okx x = true
  | .bad _ => True
theorem OkR.shut {ts : List Lx.Tok} {r : Rs Ex} (h : OkR r) : OkR (shut ts r) := by
  cases r with
  | bad j => trivial
  | ok x j =>
    unfold Sy.shut; simp only
    by_cases e : tx ts j = [93]
    · rw [if_pos e]; exact h
    · rw [if_neg e]; trivial
theorem OkR.wrapU {o : Nat} {r : Rs Ex} (h : OkR r) (ho : o = 1 ∨ o = 2 ∨ (8 ≤ o ∧ o ≤ 10) ∨ (12 ≤ o ∧ o ≤ 16)) : OkR (wrapU o r) := by
  cases r with
  | bad j => trivial
  | ok x j => exact okx_un h ho
theorem OkR.wrapB {o : Nat} {x : Ex} {r : Rs Ex} (hx : okx x = true) (h : OkR r) (ho : (3 ≤ o ∧ o ≤ 7) ∨ o = 11 ∨ (17 ≤ o ∧ o ≤ 25)) : OkR (wrapB o x r) := by
  cases r with
  | bad j => trivial
  | ok y j => exact okx_bin hx h ho

theorem fun1_range {x : List UInt8} {o : Nat} (h : fun1 x = some o) : (8 ≤ o ∧ o ≤ 10) ∨ (12 ≤ o ∧ o ≤ 16) := by
  unfold fun1 at h
  split at h
  · injection h with h; subst h
    have := fop_range ‹_›; omega
  · have := fop_range h; omega
theorem lop_range {l : Nat} {x : List UInt8} {o : Nat} (h : lop l x = some o) : (3 ≤ o ∧ o ≤ 7) ∨ o = 11 ∨ (17 ≤ o ∧ o ≤ 25) := by
  unfold lop at h
  have := fop_range h
  unfold lo cn at this
  split at this <;> simp at this <;> omega

theorem num_ok {ts : List Lx.Tok} (hg : Good ts) {i : Nat} (h : kd ts i = 2) : 0 ≤ tn ts i ∧ tn ts i < 1000000000000000 := by
  have g := kd_lt h (by decide)
  unfold kd at h; unfold tn
  rw [List.getElem?_eq_getElem g] at h ⊢
  exact (hg _ (List.getElem_mem g)).1 h

structure OkAll (ts : List Lx.Tok) (f : Nat) : Prop where
  e : ∀ l i, OkR (pE ts f l i)
  l : ∀ l x i, okx x = true → OkR (pL ts f l x i)
  p : ∀ i, OkR (pP ts f i)
  c : ∀ i, OkR (pC ts f i)
  b : ∀ i, OkR (pB ts f i)

theorem okr (ts : List Lx.Tok) (hg : Good ts) : ∀ f, OkAll ts f
  | 0 => ⟨fun l i => by unfold pE; trivial, fun l x i h => by unfold pL; trivial, fun i => by unfold pP; trivial, fun i => by unfold pC; trivial, fun i => by unfold pB; trivial⟩
  | f + 1 => by
    have ih := okr ts hg f
    refine ⟨fun l i => ?_, fun l x i h => ?_, fun i => ?_, fun i => ?_, fun i => ?_⟩
    · unfold pE
      split
      · split
        · exact OkR.wrapU (o := 2) (ih.e 5 (i + 1)) (by omega)
        · split
          · exact ih.e 5 (i + 1)
          · exact ih.p i
      · have g := ih.e (l + 1) i
        cases e : pE ts f (l + 1) i with
        | bad j => trivial
        | ok x j => rw [e] at g; exact ih.l l x j g
    · unfold pL
      cases e : lop l (tx ts i) with
      | none => exact h
      | some o =>
        have g := ih.e (l + 1) (i + 1)
        cases e1 : pE ts f (l + 1) (i + 1) with
        | bad j => trivial
        | ok y j =>
          rw [e1] at g
          have k : okx (bin o x y) = true := okx_bin h g (lop_range e)
          simp only
          split
          · exact k
          · exact ih.l l _ j k
    · unfold pP
      split
      · have g := ih.b (i + 1)
        cases e1 : pB ts f (i + 1) with
        | bad j => trivial
        | ok x j =>
          rw [e1] at g
          simp only
          split
          · exact OkR.wrapB (o := 11) g (ih.b (j + 1)) (by omega)
          · trivial
      · cases e1 : fun1 (tx ts i) with
        | none => exact ih.c i
        | some o => exact OkR.wrapU (ih.b (i + 1)) (by have := fun1_range e1; omega)
    · unfold pC
      split
      · have := num_ok hg ‹_›
        exact okx_num this.1 this.2
      · split
        · exact OkR.wrapU (o := 1) (ih.c (i + 1)) (by omega)
        · exact ih.b i
    · unfold pB
      split
      · exact OkR.shut (ih.e 0 (i + 1))
      · trivial

/-! ### tokens of a written expression -/

/-- A token without its offset. -/
abbrev Tr := Int × Int × List UInt8
def tri (t : Tok) : Tr := (t.k, t.n, t.x)
def sgn (c : UInt8) : Tr := (4, 0, [c])
def nam (x : List UInt8) : Tr := (3, 0, x)
def nmb (n : Int) : Tr := (2, n, [])
def let1 (c : Int) : Tr := (1, c, [])
/-- The token of an operator. -/
def otk (o : Nat) : Tr := if (onm o).length = 1 then (4, 0, onm o) else (3, 0, onm o)

/-- printed, and closed. -/
def tpc : Ex → List Tr × List Tr
  | .mk op n [] => ([nmb n], [nmb n])
  | .mk op n [x] =>
    if op = 1 then
      let c := sgn 35 :: (if x.op = 0 ∨ x.op = 1 then (tpc x).2 else sgn 91 :: (tpc x).1 ++ [sgn 93])
      (c, c)
    else if op = 2 then
      let p := sgn 45 :: (tpc x).2
      (p, sgn 91 :: p ++ [sgn 93])
    else
      let c := nam (onm op.toNat) :: sgn 91 :: (tpc x).1 ++ [sgn 93]
      (c, c)
  | .mk op n (x :: y :: _) =>
    if op = 11 then
      let c := nam (onm 11) :: sgn 91 :: (tpc x).1 ++ sgn 93 :: sgn 47 :: sgn 91 :: (tpc y).1 ++ [sgn 93]
      (c, c)
    else
      let p := (tpc x).2 ++ otk op.toNat :: (tpc y).2
      (p, sgn 91 :: p ++ [sgn 93])
def tpr (x : Ex) : List Tr := (tpc x).1
def tcl (x : Ex) : List Tr := (tpc x).2
/-- a cell behind # -/
def smp (x : Ex) : Bool := decide (x.op = 0) || decide (x.op = 1)
def tce (x : Ex) : List Tr := if smp x = true then tcl x else sgn 91 :: tpr x ++ [sgn 93]

/-- From i on the tokens are us. -/
def Has (ts : List Lx.Tok) (i : Nat) (us : List Tr) : Prop := ∃ r, (ts.map tri).drop i = us ++ r

theorem Has.left {ts : List Lx.Tok} {i : Nat} {us vs : List Tr} (h : Has ts i (us ++ vs)) : Has ts i us := by
  obtain ⟨r, h⟩ := h; exact ⟨vs ++ r, by rw [h, List.append_assoc]⟩
theorem Has.right {ts : List Lx.Tok} {i : Nat} {us vs : List Tr} (h : Has ts i (us ++ vs)) : Has ts (i + us.length) vs := by
  obtain ⟨r, h⟩ := h
  refine ⟨r, ?_⟩
  rw [← List.drop_drop, h, List.append_assoc, List.drop_left]
theorem Has.tail {ts : List Lx.Tok} {i : Nat} {u : Tr} {us : List Tr} (h : Has ts i (u :: us)) : Has ts (i + 1) us := Has.right (us := [u]) h
theorem Has.head {ts : List Lx.Tok} {i : Nat} {u : Tr} {us : List Tr} (h : Has ts i (u :: us)) : kd ts i = u.1 ∧ tn ts i = u.2.1 ∧ tx ts i = u.2.2 ∧ i < ts.length := by
  obtain ⟨r, h⟩ := h
  have g : (ts.map tri)[i]? = some u := by
    have : ((ts.map tri).drop i)[0]? = some u := by rw [h]; rfl
    rw [List.getElem?_drop] at this; exact this
  rw [List.getElem?_map] at g
  cases e : ts[i]? with
  | none => rw [e] at g; cases g
  | some t =>
    rw [e] at g
    injection g with g
    subst g
    unfold kd tn tx
    rw [e]
    exact ⟨rfl, rfl, rfl, (List.getElem?_eq_some_iff.1 e).1⟩
theorem Has.le {ts : List Lx.Tok} {i : Nat} {us : List Tr} (h : Has ts i us) (hi : i ≤ ts.length) : i + us.length ≤ ts.length := by
  obtain ⟨r, h⟩ := h
  have := congrArg List.length h
  simp at this
  omega

/-- No operator stands at i. -/
def Noop (ts : List Lx.Tok) (l i : Nat) : Prop := ∀ m, l ≤ m → m ≤ 4 → lop m (tx ts i) = none

theorem lop_93 : ∀ m, m ≤ 4 → lop m [93] = none := by decide
theorem lop_nil : ∀ m, m ≤ 4 → lop m [] = none := by decide
theorem noop_sgn93 {ts : List Lx.Tok} {i : Nat} {us : List Tr} (h : Has ts i (sgn 93 :: us)) : Noop ts 0 i := fun m _ hm => by
  rw [h.head.2.2.1]; exact lop_93 m hm

/-- Fuel for a level. -/
def need (n i l : Nat) : Nat := 16 * (n - i) + 4 + (5 - l)

/-- Behind an operand no operator of level l or above: the operand alone. -/
theorem lift {ts : List Lx.Tok} {i j : Nat} {x : Ex} (h5 : ∀ f, need ts.length i 5 ≤ f → pE ts f 5 i = .ok x j) (l : Nat) (hl : l ≤ 5) (hn : Noop ts l j) : ∀ f, need ts.length i l ≤ f → pE ts f l i = .ok x j := by
  induction hk : 5 - l generalizing l with
  | zero =>
    obtain rfl : l = 5 := by omega
    exact h5
  | succ k ih =>
    intro f hf
    unfold need at hf
    obtain ⟨f, rfl⟩ : ∃ g, f = g + 1 := ⟨f - 1, by omega⟩
    rw [pE, if_neg (by omega), ih (l + 1) (by omega) (fun m hm => hn m (by omega)) (by omega) f (by unfold need; omega)]
    simp only
    obtain ⟨f, rfl⟩ : ∃ g, f = g + 1 := ⟨f - 1, by omega⟩
    rw [pL, hn l (Nat.le_refl _) (by omega)]

/-- The level of an operator. -/
def olv (o : Nat) : Nat := if 24 ≤ o then 0 else if o = 23 then 1 else if 17 ≤ o then 2 else if o ≤ 4 then 3 else 4
def binB (o : Nat) : Bool := (decide (3 ≤ o) && decide (o ≤ 7)) || (decide (17 ≤ o) && decide (o ≤ 25))
theorem lop_own : ∀ o, o < 26 → binB o = true → lop (olv o) (onm o) = some o := by decide
theorem lop_up : ∀ o, o < 26 → binB o = true → ∀ m, m < 5 → olv o < m → lop m (onm o) = none := by decide
theorem olv_le : ∀ o, o < 26 → binB o = true → olv o ≤ 4 := by decide
theorem otk_x (o : Nat) : (otk o).2.2 = onm o := by unfold otk; split <;> rfl

/-- An operator of two, between operands. -/
theorem pE_bin {ts : List Lx.Tok} {i j k : Nat} {x y : Ex} {o : Nat} (ho : binB o = true) (ho' : o < 26) (hij : i < j) (hjl : j < ts.length) (hjk : j + 1 < k)
    (hx : ∀ f, need ts.length i 5 ≤ f → pE ts f 5 i = .ok x j) (ht : tx ts j = onm o)
    (hy : ∀ f, need ts.length (j + 1) 5 ≤ f → pE ts f 5 (j + 1) = .ok y k) (hn : Noop ts 0 k) (l : Nat) (hl : l ≤ olv o) : ∀ f, need ts.length i l ≤ f → pE ts f l i = .ok (bin o x y) k := by
  have hv := olv_le o ho' ho
  induction hd : olv o - l generalizing l with
  | zero =>
    obtain rfl : l = olv o := by omega
    intro f hf
    unfold need at hf
    obtain ⟨f, rfl⟩ : ∃ g, f = g + 1 := ⟨f - 1, by omega⟩
    rw [pE, if_neg (by omega)]
    rw [lift hx (olv o + 1) (by omega) (fun m h1 h2 => by rw [ht]; exact lop_up o ho' ho m (by omega) (by omega)) f (by unfold need; omega)]
    simp only
    obtain ⟨f, rfl⟩ : ∃ g, f = g + 1 := ⟨f - 1, by omega⟩
    rw [pL, ht, lop_own o ho' ho]
    simp only
    rw [lift hy (olv o + 1) (by omega) (fun m h1 h2 => hn m (by omega) h2) f (by unfold need; omega)]
    simp only
    split
    · rfl
    · obtain ⟨f, rfl⟩ : ∃ g, f = g + 1 := ⟨f - 1, by omega⟩
      rw [pL, hn _ (Nat.zero_le _) (by omega)]
  | succ d ih =>
    intro f hf
    unfold need at hf
    obtain ⟨f, rfl⟩ : ∃ g, f = g + 1 := ⟨f - 1, by omega⟩
    rw [pE, if_neg (by omega), ih (l + 1) (by omega) (by omega) f (by unfold need; omega)]
    simp only
    obtain ⟨f, rfl⟩ : ∃ g, f = g + 1 := ⟨f - 1, by omega⟩
    rw [pL, hn l (Nat.zero_le _) (by omega)]

/-- What is closed is read as a primary; what is printed, as an expression. -/
structure Back (x : Ex) : Prop where
  c : ∀ ts i, i ≤ ts.length → Has ts i (tcl x) → ∀ f, 16 * (ts.length - i) + 3 ≤ f → pP ts f i = .ok x (i + (tcl x).length)
  p : ∀ ts i, i ≤ ts.length → Has ts i (tpr x) → Noop ts 0 (i + (tpr x).length) → ∀ f, need ts.length i 0 ≤ f → pE ts f 0 i = .ok x (i + (tpr x).length)
  s : smp x = true → ∀ ts i, i ≤ ts.length → Has ts i (tcl x) → ∀ f, 16 * (ts.length - i) + 2 ≤ f → pC ts f i = .ok x (i + (tcl x).length)

/-- An expression in brackets is read by bracketed. -/
theorem Back.b {x : Ex} (h : Back x) {ts : List Lx.Tok} {i : Nat} (hi : i ≤ ts.length) (hh : Has ts i (sgn 91 :: tpr x ++ [sgn 93])) : ∀ f, 16 * (ts.length - i) + 1 ≤ f → pB ts f i = .ok x (i + (tpr x).length + 2) := by
  intro f hf
  obtain ⟨f, rfl⟩ : ∃ g, f = g + 1 := ⟨f - 1, by omega⟩
  have h0 := hh.head
  have h1 : Has ts (i + 1) (tpr x) := (Has.left hh).tail
  have h2 : Has ts (i + 1 + (tpr x).length) [sgn 93] := by
    have := Has.right (us := sgn 91 :: tpr x) hh
    rw [List.length_cons, show i + ((tpr x).length + 1) = i + 1 + (tpr x).length by omega] at this; exact this
  have l2 := h0.2.2.2
  rw [pB, if_pos (show tx ts i = [91] from h0.2.2.1), h.p ts (i + 1) (by omega) h1 (noop_sgn93 h2) f (by unfold need; omega)]
  unfold shut
  simp only
  rw [if_pos (show tx ts (i + 1 + (tpr x).length) = [93] from h2.head.2.2.1), show i + 1 + (tpr x).length + 1 = i + (tpr x).length + 2 by omega]

/-- .. and a cell by cell. -/
theorem Back.ce {x : Ex} (h : Back x) {ts : List Lx.Tok} {i : Nat} (hi : i ≤ ts.length) (hh : Has ts i (tce x)) : ∀ f, 16 * (ts.length - i) + 2 ≤ f → pC ts f i = .ok x (i + (tce x).length) := by
  intro f hf
  unfold tce at hh ⊢
  cases hs : smp x with
  | true =>
    rw [hs, if_pos rfl] at hh
    rw [if_pos rfl]
    exact h.s hs ts i hi hh f hf
  | false =>
    rw [hs, if_neg (by decide)] at hh
    rw [if_neg (by decide)]
    obtain ⟨f, rfl⟩ : ∃ g, f = g + 1 := ⟨f - 1, by omega⟩
    have h0 := hh.head
    have k0 : kd ts i = 4 := h0.1
    have x0 : tx ts i = [91] := h0.2.2.1
    rw [pC, if_neg (by rw [k0]; decide), if_neg (by rw [x0]; decide), h.b hi hh f (by omega)]
    congr 1
    simp only [List.cons_append, List.length_cons, List.length_append, List.length_nil]; omega

/-- pP in front of a cell. -/
theorem pP_cell {ts : List Lx.Tok} {i : Nat} (hx : tx ts i = [] ∨ tx ts i = [35] ∨ tx ts i = [91]) (f : Nat) : pP ts (f + 1) i = pC ts f i := by
  rw [pP]
  rcases hx with h | h | h <;> rw [h] <;> rw [if_neg (by decide)] <;> rfl

/-- pE at the strongest level, in front of what is no sign. -/
theorem pE_5 {ts : List Lx.Tok} {i : Nat} (h1 : tx ts i ≠ [45]) (h2 : tx ts i ≠ [43]) (f : Nat) : pE ts (f + 1) 5 i = pP ts f i := by
  rw [pE, if_pos rfl, if_neg h1, if_neg h2]

theorem names_ne : ∀ o, o < 26 → ((8 ≤ o ∧ o ≤ 10) ∨ (12 ≤ o ∧ o ≤ 16)) → onm o ≠ [65, 84, 65, 78] ∧ fun1 (onm o) = some o ∧ onm o ≠ [45] ∧ onm o ≠ [43] := by decide

/-- The first token of what is closed is no sign + or -. -/
theorem tcl_head {x : Ex} (h : Form x) : ∃ u us, tcl x = u :: us ∧ u.2.2 ≠ [45] ∧ u.2.2 ≠ [43] := by
  cases h with
  | num n h0 h1 => exact ⟨nmb n, [], by simp [tcl, num, tpc], by simp [nmb], by simp [nmb]⟩
  | un o x hx ho =>
    unfold tcl un
    rw [tpc]
    split
    · exact ⟨_, _, rfl, by decide, by decide⟩
    · split
      · exact ⟨_, _, rfl, by decide, by decide⟩
      · refine ⟨_, _, rfl, ?_, ?_⟩ <;> (simp only [nam]; have := names_ne o (by omega) (by omega); rw [show ((o : Int)).toNat = o by omega]; simp [this])
  | bin o x y hx hy ho =>
    unfold tcl bin
    rw [tpc]
    split
    · exact ⟨_, _, rfl, by decide, by decide⟩
    · exact ⟨_, _, rfl, by decide, by decide⟩

theorem Back.five {x : Ex} (h : Back x) (hf : Form x) {ts : List Lx.Tok} {i : Nat} (hi : i ≤ ts.length) (hh : Has ts i (tcl x)) : ∀ f, need ts.length i 5 ≤ f → pE ts f 5 i = .ok x (i + (tcl x).length) := by
  intro f hn
  unfold need at hn
  obtain ⟨f, rfl⟩ : ∃ g, f = g + 1 := ⟨f - 1, by omega⟩
  obtain ⟨u, us, e, h1, h2⟩ := tcl_head hf
  have hd := (show Has ts i (u :: us) from e ▸ hh).head.2.2.1
  rw [pE_5 (by rw [hd]; exact h1) (by rw [hd]; exact h2), h.c ts i hi hh f (by omega)]

theorem Back.ofC {x : Ex} (hf : Form x) (e : tpr x = tcl x) (hc : ∀ ts i, i ≤ ts.length → Has ts i (tcl x) → ∀ f, 16 * (ts.length - i) + 3 ≤ f → pP ts f i = .ok x (i + (tcl x).length))
    (hs : smp x = true → ∀ ts i, i ≤ ts.length → Has ts i (tcl x) → ∀ f, 16 * (ts.length - i) + 2 ≤ f → pC ts f i = .ok x (i + (tcl x).length)) : Back x := by
  refine ⟨hc, fun ts i hi hh hn => ?_, hs⟩
  rw [e] at hh hn ⊢
  refine lift (fun f hf' => ?_) 0 (by omega) hn
  unfold need at hf'
  obtain ⟨f, rfl⟩ : ∃ g, f = g + 1 := ⟨f - 1, by omega⟩
  obtain ⟨u, us, e', h1, h2⟩ := tcl_head hf
  have hd := (show Has ts i (u :: us) from e' ▸ hh).head.2.2.1
  rw [pE_5 (by rw [hd]; exact h1) (by rw [hd]; exact h2), hc ts i hi hh f (by omega)]

/-- What is closed by brackets. -/
theorem Back.ofP {x : Ex} (hf : Form x) (e : tcl x = sgn 91 :: tpr x ++ [sgn 93]) (hs0 : smp x = false)
    (hp : ∀ ts i, i ≤ ts.length → Has ts i (tpr x) → Noop ts 0 (i + (tpr x).length) → ∀ f, need ts.length i 0 ≤ f → pE ts f 0 i = .ok x (i + (tpr x).length)) : Back x := by
  have hs : smp x = true → ∀ ts i, i ≤ ts.length → Has ts i (tcl x) → ∀ f, 16 * (ts.length - i) + 2 ≤ f → pC ts f i = .ok x (i + (tcl x).length) := fun h => by rw [hs0] at h; cases h
  refine ⟨fun ts i hi hh f hf' => ?_, hp, hs⟩
  obtain ⟨f, rfl⟩ : ∃ g, f = g + 1 := ⟨f - 1, by omega⟩
  rw [e] at hh ⊢
  have x0 : tx ts i = [91] := hh.head.2.2.1
  have k0 : kd ts i = 4 := hh.head.1
  rw [pP_cell (.inr (.inr x0))]
  obtain ⟨f, rfl⟩ : ∃ g, f = g + 1 := ⟨f - 1, by omega⟩
  have l2 := hh.head.2.2.2
  obtain ⟨f, rfl⟩ : ∃ g, f = g + 1 := ⟨f - 1, by omega⟩
  have h1 : Has ts (i + 1) (tpr x) := (Has.left hh).tail
  have h2 : Has ts (i + 1 + (tpr x).length) [sgn 93] := by
    have := Has.right (us := sgn 91 :: tpr x) hh
    rw [List.length_cons, show i + ((tpr x).length + 1) = i + 1 + (tpr x).length by omega] at this; exact this
  rw [pC, if_neg (by rw [k0]; decide), if_neg (by rw [x0]; decide), pB, if_pos x0, hp ts (i + 1) (by omega) h1 (noop_sgn93 h2) f (by unfold need; omega)]
  unfold shut
  simp only
  rw [if_pos (show tx ts (i + 1 + (tpr x).length) = [93] from h2.head.2.2.1)]
  congr 1
  simp only [List.cons_append, List.length_cons, List.length_append, List.length_nil]; omega

theorem binB_of {o : Nat} (h : (3 ≤ o ∧ o ≤ 7) ∨ o = 11 ∨ (17 ≤ o ∧ o ≤ 25)) (h' : o ≠ 11) : binB o = true := by
  unfold binB; simp; omega

theorem tcl_pos {x : Ex} (h : Form x) : 1 ≤ (tcl x).length := by
  obtain ⟨u, us, e, _⟩ := tcl_head h; rw [e]; simp

theorem smp_num (n : Int) : smp (num n) = true := rfl

theorem back (x : Ex) : okx x = true → Back x := by
  induction x using Ex.ind with
  | h op n ks ih =>
    intro hok
    have hF := form hok
    cases hF with
    | num n h0 h1 =>
      have hc : ∀ ts i, i ≤ ts.length → Has ts i (tcl (.mk 0 n [])) → ∀ f, 16 * (ts.length - i) + 2 ≤ f → pC ts f i = .ok (.mk 0 n []) (i + (tcl (.mk 0 n [])).length) := fun ts i hi hh f hf => by
        obtain ⟨f, rfl⟩ : ∃ g, f = g + 1 := ⟨f - 1, by omega⟩
        have e : tcl (.mk 0 n []) = [nmb n] := by simp [tcl, tpc]
        rw [e] at hh ⊢
        have h := hh.head
        rw [pC, if_pos (show kd ts i = 2 from h.1), show tn ts i = n from h.2.1]; rfl
      refine Back.ofC (Form.num n h0 h1) (by simp [tpr, tcl, tpc]) (fun ts i hi hh f hf => ?_) (fun _ => hc)
      obtain ⟨f, rfl⟩ : ∃ g, f = g + 1 := ⟨f - 1, by omega⟩
      have e : tcl (.mk 0 n []) = [nmb n] := by simp [tcl, tpc]
      have hx : tx ts i = [] := (show Has ts i [nmb n] from e ▸ hh).head.2.2.1
      rw [pP_cell (.inl hx)]
      exact hc ts i hi hh f (by omega)
    | un o x hx ho =>
      have ihx := ih x (by simp) hx
      have hT : ((o : Int)).toNat = o := by omega
      by_cases o1 : o = 1
      · subst o1
        have e : tcl (.mk ((1 : Nat) : Int) 0 [x]) = sgn 35 :: tce x := by
          simp only [tcl, tpc, tce, smp, tpr]
          simp
        have hc : ∀ ts i, i ≤ ts.length → Has ts i (tcl (.mk ((1 : Nat) : Int) 0 [x])) → ∀ f, 16 * (ts.length - i) + 2 ≤ f → pC ts f i = .ok (.mk ((1 : Nat) : Int) 0 [x]) (i + (tcl (.mk ((1 : Nat) : Int) 0 [x])).length) := fun ts i hi hh f hf => by
          obtain ⟨f, rfl⟩ : ∃ g, f = g + 1 := ⟨f - 1, by omega⟩
          rw [e] at hh ⊢
          have h := hh.head
          have k0 : kd ts i = 4 := h.1
          have l0 := h.2.2.2
          rw [pC, if_neg (by rw [k0]; decide), if_pos (show tx ts i = [35] from h.2.2.1), ihx.ce (by omega) hh.tail f (by omega)]
          show Rs.ok _ _ = _
          congr 1
          simp only [List.length_cons]; omega
        refine Back.ofC (Form.un 1 x hx ho) (by simp [tpr, tcl, tpc]) (fun ts i hi hh f hf => ?_) (fun _ => hc)
        obtain ⟨f, rfl⟩ : ∃ g, f = g + 1 := ⟨f - 1, by omega⟩
        have h35 : tx ts i = [35] := (show Has ts i (sgn 35 :: tce x) from e ▸ hh).head.2.2.1
        rw [pP_cell (.inr (.inl h35))]
        exact hc ts i hi hh f (by omega)
      · by_cases o2 : o = 2
        · subst o2
          refine Back.ofP (Form.un 2 x hx ho) (by simp [tpr, tcl, tpc]) (by simp [smp, Ex.op]) (fun ts i hi hh hn => ?_)
          have e : tpr (.mk ((2 : Nat) : Int) 0 [x]) = sgn 45 :: tcl x := by simp [tpr, tcl, tpc]
          rw [e] at hh hn ⊢
          have h := hh.head
          have l0 := h.2.2.2
          refine lift (fun f hf => ?_) 0 (by omega) hn
          unfold need at hf
          obtain ⟨f, rfl⟩ : ∃ g, f = g + 1 := ⟨f - 1, by omega⟩
          rw [pE, if_pos rfl, if_pos (show tx ts i = [45] from h.2.2.1), ihx.five (form hx) (by omega) hh.tail f (by unfold need; omega)]
          show Rs.ok _ _ = _
          congr 1
          simp only [List.length_cons]; omega
        · have e : tcl (.mk (o : Int) 0 [x]) = nam (onm o) :: (sgn 91 :: tpr x ++ [sgn 93]) := by
            unfold tcl; rw [tpc, if_neg (by omega), if_neg (by omega), hT]; rfl
          have e' : tpr (.mk (o : Int) 0 [x]) = nam (onm o) :: (sgn 91 :: tpr x ++ [sgn 93]) := by
            unfold tpr; rw [tpc, if_neg (by omega), if_neg (by omega), hT]; rfl
          have hs0 : smp (.mk (o : Int) 0 [x]) = false := by unfold smp Ex.op; simp; omega
          refine Back.ofC (Form.un o x hx ho) (by rw [e, e']) (fun ts i hi hh f hf => ?_) (fun h => by rw [hs0] at h; cases h)
          obtain ⟨f, rfl⟩ : ∃ g, f = g + 1 := ⟨f - 1, by omega⟩
          rw [e] at hh ⊢
          have h := hh.head
          have l0 := h.2.2.2
          have nn := names_ne o (by omega) (by omega)
          have hx0 : tx ts i = onm o := h.2.2.1
          rw [pP, hx0, if_neg nn.1, nn.2.1]
          simp only
          rw [ihx.b (by omega) hh.tail f (by omega)]
          show Rs.ok _ _ = _
          congr 1
          simp only [List.cons_append, List.length_cons, List.length_append, List.length_nil]; omega
    | bin o x y hx hy ho =>
      have ihx := ih x (by simp) hx
      have ihy := ih y (by simp) hy
      have hT : ((o : Int)).toNat = o := by omega
      by_cases o11 : o = 11
      · subst o11
        have e : tcl (.mk ((11 : Nat) : Int) 0 [x, y]) = nam (onm 11) :: ((sgn 91 :: tpr x ++ [sgn 93]) ++ (sgn 47 :: (sgn 91 :: tpr y ++ [sgn 93]))) := by
          unfold tcl; rw [tpc, if_pos (show ((11 : Nat) : Int) = 11 from rfl)]; simp [tpr]
        have e' : tpr (.mk ((11 : Nat) : Int) 0 [x, y]) = tcl (.mk ((11 : Nat) : Int) 0 [x, y]) := by
          unfold tcl tpr; rw [tpc, if_pos (show ((11 : Nat) : Int) = 11 from rfl)]
        have hs0 : smp (.mk ((11 : Nat) : Int) 0 [x, y]) = false := by unfold smp Ex.op; simp
        refine Back.ofC (Form.bin 11 x y hx hy ho) e' (fun ts i hi hh f hf => ?_) (fun h => by rw [hs0] at h; cases h)
        obtain ⟨f, rfl⟩ : ∃ g, f = g + 1 := ⟨f - 1, by omega⟩
        rw [e] at hh ⊢
        have h := hh.head
        have l0 := h.2.2.2
        have hx0 : tx ts i = [65, 84, 65, 78] := h.2.2.1
        have h1 := hh.tail.left
        have h2 := hh.tail.right
        have l1 : (sgn 91 :: tpr x ++ [sgn 93]).length = (tpr x).length + 2 := by simp
        rw [l1] at h2
        have g2 := h2.head
        have l2 := g2.2.2.2
        rw [pP, if_pos hx0, ihx.b (by omega) h1 f (by omega)]
        simp only
        rw [show i + 1 + (tpr x).length + 2 = i + 1 + ((tpr x).length + 2) by omega, if_pos (show tx ts (i + 1 + ((tpr x).length + 2)) = [47] from g2.2.2.1), ihy.b (by omega) h2.tail f (by omega)]
        show Rs.ok _ _ = _
        congr 1
        simp only [List.cons_append, List.length_cons, List.length_append, List.length_nil]; omega
      · have hb := binB_of ho o11
        have e : tpr (.mk (o : Int) 0 [x, y]) = tcl x ++ otk o :: tcl y := by
          unfold tpr; rw [tpc, if_neg (by omega), hT]; rfl
        refine Back.ofP (Form.bin o x y hx hy ho) (by rw [e]; unfold tcl; rw [tpc, if_neg (by omega), hT]) (by unfold smp Ex.op; simp; omega) (fun ts i hi hh hn f hf => ?_)
        rw [e] at hh hn ⊢
        have h1 := hh.left
        have h2 := hh.right
        have g2 := h2.head
        have p1 := tcl_pos (form hx)
        have p2 := tcl_pos (form hy)
        have lk : i + (tcl x ++ otk o :: tcl y).length = i + (tcl x).length + 1 + (tcl y).length := by simp only [List.length_cons, List.length_append]; omega
        rw [lk] at hn ⊢
        exact pE_bin hb (by omega) (by omega) g2.2.2.2 (by omega) (ihx.five (form hx) hi h1) (by rw [g2.2.2.1, otk_x]) (ihy.five (form hy) (by have := g2.2.2.2; omega) h2.tail) hn 0 (by omega) f hf

/-! ### values -/

/-- The tokens of a value. -/
def tva (x : Ex) : List Tr := if smp x = true then tcl x else match x with
  | .mk 2 _ [k] => if smp k = true then sgn 45 :: tcl k else sgn 91 :: tpr x ++ [sgn 93]
  | _ => sgn 91 :: tpr x ++ [sgn 93]

theorem tva_cases (x : Ex) (h : okx x = true) : (tva x = tce x) ∨ ∃ k, x = un 2 k ∧ smp k = true ∧ okx k = true ∧ tva x = sgn 45 :: tce k := by
  unfold tva
  cases hs : smp x with
  | true => left; unfold tce; rw [hs, if_pos rfl, if_pos rfl]
  | false =>
    rw [if_neg (by decide)]
    split
    · rename_i o k
      cases hk : smp k with
      | true =>
        right
        rw [okx_mk] at h
        simp [nodeB] at h
        refine ⟨k, ?_, hk, h.2, ?_⟩
        · rw [un, h.1.2]
        · unfold tce; rw [hk]; rfl
      | false => left; unfold tce; rw [hs]; rfl
    · left; unfold tce; rw [hs]; rfl

theorem tce_head {x : Ex} (h : okx x = true) : ∃ u us, tce x = u :: us ∧ u.2.2 ≠ [45] ∧ u.2.2 ≠ [43] := by
  unfold tce
  split
  · exact tcl_head (form h)
  · exact ⟨_, _, rfl, by decide, by decide⟩

theorem pV_back {x : Ex} (h : okx x = true) {ts : List Lx.Tok} {i : Nat} (hi : i ≤ ts.length) (hh : Has ts i (tva x)) : pV ts i = .ok x (i + (tva x).length) := by
  unfold pV
  rcases tva_cases x h with e | ⟨k, rfl, hk, hok, e⟩
  · rw [e] at hh ⊢
    obtain ⟨u, us, e', h1, h2⟩ := tce_head h
    have hd := (show Has ts i (u :: us) from e' ▸ hh).head.2.2.1
    rw [if_neg (by rw [hd]; exact h1), if_neg (by rw [hd]; exact h2)]
    exact (back x h).ce hi hh _ (by unfold fuel; omega)
  · rw [e] at hh ⊢
    have g := hh.head
    rw [if_pos (show tx ts i = [45] from g.2.2.1), (back k hok).ce (by have := g.2.2.2; omega) hh.tail _ (by unfold fuel; omega)]
    show Rs.ok _ _ = _
    congr 1
    simp only [List.length_cons]; omega

end Sy
end Go.Proofs.YtkfipjlknfinpaaDoor

/- Plain: valid blocks, their tokens, and that the rules of the grammar read them back. -/
set_option linter.unusedVariables false
set_option linter.unusedSimpArgs false
namespace Go.Proofs.YtkfipjlknfinpaaDoor
namespace Sy
open Lx

/-- The zero expression. -/
def noneB (x : Ex) : Bool := decide (x.op = 0) && decide (x.n = 0) && decide (x.ks.length = 0)
theorem noneB_eq {x : Ex} (h : noneB x = true) : x = zx := by
  obtain ⟨o, n, ks⟩ := x
  unfold noneB at h
  simp only [Bool.and_eq_true] at h
  obtain ⟨⟨h1, h2⟩, h3⟩ := h
  have k1 : o = 0 := of_decide_eq_true h1
  have k2 : n = 0 := of_decide_eq_true h2
  have k3 : ks.length = 0 := of_decide_eq_true h3
  rw [k1, k2, List.eq_nil_of_length_eq_zero k3]; rfl
theorem noneB_zx : noneB zx = true := rfl
def depB (x : Ex) : Bool := decide (dpt x ≤ 16)
def rgt (x : Ex) : Bool := okx x && depB x
def cnt (n : Int) (m : Nat) : Bool := decide (1 ≤ n) && decide (n ≤ m)

/-- What a block holds, its limits aside. -/
def okb (b : Bl) : Bool :=
  (decide (b.label = 0) || cnt b.label 99999) &&
  (if b.kind = 0 then b.words.all (fun w => isw w.1 && okx w.2) && noneB b.left && noneB b.x && decide (b.n = 0)
  else decide (b.words = []) &&
    (if b.kind = 1 ∨ b.kind = 3 then okx b.left && okx b.x && decide (b.n = 0)
    else if b.kind = 2 then noneB b.left && okx b.x && decide (b.n = 0)
    else if b.kind = 4 then noneB b.left && okx b.x && cnt b.n 3
    else if b.kind = 5 then noneB b.left && noneB b.x && cnt b.n 3
    else if b.kind = 6 then noneB b.left && noneB b.x && cnt b.n 99999
    else false))
/-- The limits. -/
def limb (b : Bl) : Bool := decide (b.words.length ≤ 24) && b.words.all (fun w => depB w.2) && depB b.left && depB b.x
/-- A valid block. -/
def vldb (b : Bl) : Bool := okb b && limb b

theorem dpt_zx : depB zx = true := by unfold depB zx; rw [dpt_mk]; decide

def cIF : List UInt8 := [73, 70]
def cGOTO : List UInt8 := [71, 79, 84, 79]
def cWHILE : List UInt8 := [87, 72, 73, 76, 69]
def cDO : List UInt8 := [68, 79]
def cEND : List UInt8 := [69, 78, 68]

def inbT (x : Ex) : List Tr := sgn 91 :: tpr x ++ [sgn 93]
def wordsT (ws : List (Int × Ex)) : List Tr := ws.flatMap (fun w => let1 w.1 :: tva w.2)
def contT (b : Bl) : List Tr :=
  if b.kind = 0 then wordsT b.words
  else if b.kind = 1 then sgn 35 :: (tce b.left ++ sgn 61 :: tpr b.x)
  else if b.kind = 2 then nam cGOTO :: tva b.x
  else if b.kind = 3 then nam cIF :: (inbT b.x ++ nam cGOTO :: tva b.left)
  else if b.kind = 4 then nam cWHILE :: (inbT b.x ++ [nam cDO, nmb (b.n * 1000000)])
  else if b.kind = 5 then [nam cEND, nmb (b.n * 1000000)]
  else [let1 79, nmb (b.n * 1000000)]
def labT (b : Bl) : List Tr := if b.label = 0 then [] else [let1 78, nmb (b.label * 1000000)]
def blT (b : Bl) : List Tr := (if b.skip = true then [sgn 47] else []) ++ (labT b ++ contT b)

theorem has_all {ts : List Lx.Tok} {us : List Tr} (h : ts.map tri = us) : Has ts 0 us := ⟨[], by rw [List.drop_zero, h, List.append_nil]⟩
theorem has_end {ts : List Lx.Tok} {i : Nat} {us : List Tr} (h : Has ts i us) (hi : i ≤ ts.length) (e : i + us.length = ts.length) : True := trivial

theorem kd_end (ts : List Lx.Tok) : kd ts ts.length = 0 ∧ tx ts ts.length = [] := by
  unfold kd tx; rw [List.getElem?_eq_none (Nat.le_refl _)]; exact ⟨rfl, rfl⟩
theorem noop_end (ts : List Lx.Tok) : Noop ts 0 ts.length := fun m _ hm => by rw [(kd_end ts).2]; exact lop_nil m hm

theorem pN_back {ts : List Lx.Tok} {i m : Nat} {n : Int} (h : cnt n m = true) (hh : Has ts i [nmb (n * 1000000)]) : pN ts m i = .ok n (i + 1) := by
  have g := hh.head
  simp [cnt] at h
  unfold pN
  have k1 : kd ts i = 2 := g.1
  have k2 : tn ts i = n * 1000000 := g.2.1
  have k3 : isc (n * 1000000) m = true := by unfold isc; simp; omega
  rw [k2, if_pos ⟨k1, k3⟩, Int.mul_ediv_cancel _ (by decide)]

theorem words_pos (w : Int × Ex) : 1 ≤ (let1 w.1 :: tva w.2).length := by simp

theorem pW_back {ts : List Lx.Tok} : ∀ (ws : List (Int × Ex)) (i : Nat) (vs : List (Int × Ex)) (f : Nat), (∀ w ∈ ws, isw w.1 = true ∧ okx w.2 = true) → i ≤ ts.length → Has ts i (wordsT ws) → i + (wordsT ws).length = ts.length →
    ts.length - i + 1 ≤ f → pW ts f vs i = .ok (vs ++ ws) ts.length
  | [], i, vs, f, _, hi, hh, he, hf => by
    obtain ⟨f, rfl⟩ : ∃ g, f = g + 1 := ⟨f - 1, by omega⟩
    have : i = ts.length := by simp [wordsT] at he; exact he
    subst this
    rw [pW, if_neg (by rw [(kd_end ts).1]; simp), List.append_nil]
  | w :: ws, i, vs, f, hw, hi, hh, he, hf => by
    obtain ⟨f, rfl⟩ : ∃ g, f = g + 1 := ⟨f - 1, by omega⟩
    have e : wordsT (w :: ws) = let1 w.1 :: (tva w.2 ++ wordsT ws) := by simp [wordsT]
    rw [e] at hh he
    have g := hh.head
    have l0 := g.2.2.2
    have k := hw w (List.mem_cons_self ..)
    have k1 : kd ts i = 1 := g.1
    have k2 : tn ts i = w.1 := g.2.1
    rw [pW, if_pos ⟨k1, by rw [k2]; exact k.1⟩, pV_back k.2 (by omega) hh.tail.left]
    simp only
    have h2 := hh.tail.right
    simp only [List.length_cons, List.length_append] at he
    rw [pW_back ws _ _ f (fun v hv => hw v (List.mem_cons_of_mem _ hv)) (by omega) h2 (by omega) (by omega), k2]
    simp

theorem isw_not {c : Int} (h : isw c = true) : c ≠ 78 ∧ c ≠ 79 := by
  simp [isw] at h; omega

/-- The first token of a content. -/
theorem cont_first {b : Bl} (h : okb b = true) {ts : List Lx.Tok} {i : Nat} (hh : Has ts i (contT b)) (he : i + (contT b).length = ts.length) : tx ts i ≠ [47] ∧ ¬ (kd ts i = 1 ∧ tn ts i = 78) := by
  simp only [okb, Bool.and_eq_true] at h
  obtain ⟨hl, h⟩ := h
  have key : ∀ {u : Tr} {us : List Tr}, contT b = u :: us → u.2.2 ≠ [47] → ¬ (u.1 = 1 ∧ u.2.1 = 78) → tx ts i ≠ [47] ∧ ¬ (kd ts i = 1 ∧ tn ts i = 78) := by
    intro u us e h1 h2
    have g := (show Has ts i (u :: us) from e ▸ hh).head
    rw [g.1, g.2.1, g.2.2.1]; exact ⟨h1, h2⟩
  by_cases k0 : b.kind = 0
  · rw [if_pos k0] at h
    simp only [Bool.and_eq_true, List.all_eq_true] at h
    have hc : contT b = wordsT b.words := by unfold contT; rw [if_pos k0]
    cases hw : b.words with
    | nil =>
      have : i = ts.length := by rw [hc, hw] at he; simpa [wordsT] using he
      subst this
      rw [(kd_end ts).1, (kd_end ts).2]; simp
    | cons w ws =>
      refine key (u := let1 w.1) (us := tva w.2 ++ wordsT ws) (by rw [hc, hw]; simp [wordsT]) (by simp [let1]) ?_
      have := (isw_not (h.1.1.1 w (by rw [hw]; exact List.mem_cons_self ..)).1).1
      simp [let1, this]
  · unfold contT at key
    rw [if_neg k0] at key
    split at key
    · exact key rfl (by decide) (by decide)
    · split at key
      · exact key rfl (by decide) (by decide)
      · split at key
        · exact key rfl (by decide) (by decide)
        · split at key
          · exact key rfl (by decide) (by decide)
          · split at key
            · exact key rfl (by decide) (by simp [nam])
            · exact key rfl (by simp [let1]) (by simp [let1])

/-- The content of a block without skip and label. -/
def bare (b : Bl) : Bl := { b with skip := false, label := 0 }

theorem pCt_back {b : Bl} (h : okb b = true) {ts : List Lx.Tok} {i : Nat} (hi : i ≤ ts.length) (hh : Has ts i (contT b)) (he : i + (contT b).length = ts.length) : pCt ts i = .ok (bare b) ts.length := by
  obtain ⟨kind, label, skip, words, left, x, n⟩ := b
  simp only [okb, Bool.and_eq_true] at h
  obtain ⟨hl, h⟩ := h
  unfold contT at hh he
  unfold bare
  simp only at h hh he ⊢
  by_cases k0 : kind = 0
  · subst k0
    rw [if_pos rfl] at h hh he
    simp only [Bool.and_eq_true, decide_eq_true_eq, List.all_eq_true] at h
    obtain ⟨⟨⟨h1, h2⟩, h3⟩, rfl⟩ := h
    obtain rfl := noneB_eq h2
    obtain rfl := noneB_eq h3
    have first : tx ts i = [] ∧ ¬ (kd ts i = 1 ∧ tn ts i = 79) := by
      cases words with
      | nil =>
        have : i = ts.length := by simpa [wordsT] using he
        subst this
        rw [(kd_end ts).1, (kd_end ts).2]; simp
      | cons w ws =>
        have g := (show Has ts i (let1 w.1 :: (tva w.2 ++ wordsT ws)) by rw [show wordsT (w :: ws) = let1 w.1 :: (tva w.2 ++ wordsT ws) by simp [wordsT]] at hh; exact hh).head
        have e := (isw_not (h1 w (List.mem_cons_self ..)).1).2
        rw [g.1, g.2.1, g.2.2.1]
        exact ⟨rfl, by simp [let1, e]⟩
    unfold pCt
    rw [first.1, if_neg (by decide), if_neg (by decide), if_neg (by decide), if_neg (by decide), if_neg (by decide), if_neg first.2, pW_back words i [] _ (fun w hw => h1 w hw) hi hh he (by omega)]
    rfl
  · rw [if_neg k0] at h hh he
    simp only [Bool.and_eq_true, decide_eq_true_eq] at h
    obtain ⟨rfl, h⟩ := h
    by_cases k1 : kind = 1
    · subst k1
      rw [if_pos rfl] at hh he
      rw [if_pos (.inl rfl)] at h
      simp only [Bool.and_eq_true, decide_eq_true_eq] at h
      obtain ⟨⟨h1, h2⟩, rfl⟩ := h
      have g := hh.head
      have l0 := g.2.2.2
      have h3 := hh.tail.right
      have g3 := h3.head
      simp only [List.length_cons, List.length_append] at he
      unfold pCt
      rw [if_pos (show tx ts i = [35] from g.2.2.1), (back left h1).ce (by omega) hh.tail.left _ (by unfold fuel; omega)]
      simp only
      rw [if_pos (show tx ts (i + 1 + (tce left).length) = [61] from g3.2.2.1)]
      have e : i + 1 + (tce left).length + 1 + (tpr x).length = ts.length := by omega
      rw [(back x h2).p ts _ (by omega) h3.tail (by rw [e]; exact noop_end ts) _ (by unfold need fuel; omega), e]
      rfl
    · by_cases k2 : kind = 2
      · subst k2
        rw [if_neg (by decide), if_pos rfl] at hh he
        rw [if_neg (by decide), if_pos rfl] at h
        simp only [Bool.and_eq_true, decide_eq_true_eq] at h
        obtain ⟨⟨h1, h2⟩, rfl⟩ := h
        obtain rfl := noneB_eq h1
        have g := hh.head
        have l0 := g.2.2.2
        have x0 : tx ts i = [71, 79, 84, 79] := g.2.2.1
        simp only [List.length_cons] at he
        unfold pCt
        rw [x0, if_neg (by decide), if_neg (by decide), if_pos rfl, pV_back h2 (by omega) hh.tail, show i + 1 + (tva x).length = ts.length by omega]
        rfl
      · by_cases k3 : kind = 3
        · subst k3
          rw [if_neg (by decide), if_neg (by decide), if_pos rfl] at hh he
          rw [if_pos (.inr rfl)] at h
          simp only [Bool.and_eq_true, decide_eq_true_eq] at h
          obtain ⟨⟨h1, h2⟩, rfl⟩ := h
          have g := hh.head
          have l0 := g.2.2.2
          have x0 : tx ts i = [73, 70] := g.2.2.1
          have h3 := hh.tail.right
          have g3 := h3.head
          have lb : (inbT x).length = (tpr x).length + 2 := by simp [inbT]
          simp only [List.length_cons, List.length_append] at he
          rw [lb] at h3 g3 he
          unfold pCt
          rw [x0, if_neg (by decide), if_pos rfl, (back x h2).b (by omega) hh.tail.left _ (by unfold fuel; omega)]
          simp only
          rw [show i + 1 + (tpr x).length + 2 = i + 1 + ((tpr x).length + 2) by omega, if_pos (show tx ts (i + 1 + ((tpr x).length + 2)) = [71, 79, 84, 79] from g3.2.2.1), pV_back h1 (by omega) h3.tail, show i + 1 + ((tpr x).length + 2) + 1 + (tva left).length = ts.length by omega]
          rfl
        · by_cases k4 : kind = 4
          · subst k4
            rw [if_neg (by decide), if_neg (by decide), if_neg (by decide), if_pos rfl] at hh he
            rw [if_neg (by decide), if_neg (by decide), if_pos rfl] at h
            simp only [Bool.and_eq_true, decide_eq_true_eq] at h
            obtain ⟨⟨h1, h2⟩, h4⟩ := h
            obtain rfl := noneB_eq h1
            have g := hh.head
            have l0 := g.2.2.2
            have x0 : tx ts i = [87, 72, 73, 76, 69] := g.2.2.1
            have h3 := hh.tail.right
            have g3 := h3.head
            have lb : (inbT x).length = (tpr x).length + 2 := by simp [inbT]
            simp only [List.length_cons, List.length_append, List.length_nil] at he
            rw [lb] at h3 g3 he
            unfold pCt
            rw [x0, if_neg (by decide), if_neg (by decide), if_neg (by decide), if_pos rfl, (back x h2).b (by omega) hh.tail.left _ (by unfold fuel; omega)]
            simp only
            rw [show i + 1 + (tpr x).length + 2 = i + 1 + ((tpr x).length + 2) by omega, if_pos (show tx ts (i + 1 + ((tpr x).length + 2)) = [68, 79] from g3.2.2.1), pN_back h4 h3.tail, show i + 1 + ((tpr x).length + 2) + 1 + 1 = ts.length by omega]
            rfl
          · by_cases k5 : kind = 5
            · subst k5
              rw [if_neg (by decide), if_neg (by decide), if_neg (by decide), if_neg (by decide), if_pos rfl] at hh he
              rw [if_neg (by decide), if_neg (by decide), if_neg (by decide), if_pos rfl] at h
              simp only [Bool.and_eq_true, decide_eq_true_eq] at h
              obtain ⟨⟨h1, h2⟩, h4⟩ := h
              obtain rfl := noneB_eq h1
              obtain rfl := noneB_eq h2
              have g := hh.head
              have x0 : tx ts i = [69, 78, 68] := g.2.2.1
              simp only [List.length_cons, List.length_nil] at he
              unfold pCt
              rw [x0, if_neg (by decide), if_neg (by decide), if_neg (by decide), if_neg (by decide), if_pos rfl, pN_back h4 hh.tail, show i + 1 + 1 = ts.length by omega]
              rfl
            · rw [if_neg k1, if_neg k2, if_neg k3, if_neg k4, if_neg k5] at hh he
              rw [if_neg (by omega), if_neg k2, if_neg k4, if_neg k5] at h
              by_cases k6 : kind = 6
              · subst k6
                rw [if_pos rfl] at h
                simp only [Bool.and_eq_true, decide_eq_true_eq] at h
                obtain ⟨⟨h1, h2⟩, h4⟩ := h
                obtain rfl := noneB_eq h1
                obtain rfl := noneB_eq h2
                have g := hh.head
                have x0 : tx ts i = [] := g.2.2.1
                have y0 : kd ts i = 1 := g.1
                have z0 : tn ts i = 79 := g.2.1
                simp only [List.length_cons, List.length_nil] at he
                unfold pCt
                rw [x0, if_neg (by decide), if_neg (by decide), if_neg (by decide), if_neg (by decide), if_neg (by decide), if_pos ⟨y0, z0⟩, pN_back h4 hh.tail, show i + 1 + 1 = ts.length by omega]
                rfl
              · rw [if_neg k6] at h; cases h

/-- A valid block's tokens are read as the block. -/
theorem pLn_back {b : Bl} (h : okb b = true) {ts : List Lx.Tok} (hh : ts.map tri = blT b) : pLn ts = .ok b ts.length := by
  have H := has_all hh
  have hlen : (blT b).length = ts.length := by rw [← hh, List.length_map]
  unfold blT at H hlen
  have key : ∀ (i : Nat) (s : Bool), i ≤ ts.length → Has ts i (labT b ++ contT b) → i + (labT b ++ contT b).length = ts.length → s = b.skip →
      (if kd ts i = 1 ∧ tn ts i = 78 then match pN ts 99999 (i + 1) with
        | .bad j => .bad j
        | .ok n j => pEnd ts s n (pCt ts j)
      else pEnd ts s 0 (pCt ts i)) = .ok b ts.length := by
    intro i s hi hH hL hs
    by_cases l0 : b.label = 0
    · have e : labT b = [] := by unfold labT; rw [if_pos l0]
      rw [e, List.nil_append] at hH hL
      have c := cont_first h hH hL
      rw [if_neg c.2, pCt_back h hi hH hL]
      unfold pEnd
      simp only
      rw [if_neg (by omega), hs]
      unfold bare
      rw [← l0]
    · have e : labT b = [let1 78, nmb (b.label * 1000000)] := by unfold labT; rw [if_neg l0]
      rw [e] at hH hL
      have g := hH.head
      have c : cnt b.label 99999 = true := by
        simp only [okb, Bool.and_eq_true, Bool.or_eq_true, decide_eq_true_eq] at h
        rcases h.1 with h | h
        · exact absurd h l0
        · exact h
      simp only [List.length_cons, List.length_append, List.length_nil] at hL
      rw [if_pos ⟨g.1, g.2.1⟩, pN_back c (Has.left (vs := contT b) hH.tail)]
      simp only
      have h2 : Has ts (i + 1 + 1) (contT b) := hH.tail.tail
      rw [pCt_back h (by omega) h2 (by omega)]
      unfold pEnd
      simp only
      rw [if_neg (by omega), hs]
      rfl
  cases hs : b.skip with
  | true =>
    rw [hs, if_pos rfl] at H hlen
    have g := H.head
    have g1 : tx ts 0 = [47] := g.2.2.1
    unfold pLn
    simp only [g1, if_pos]
    refine key 1 _ g.2.2.2 H.tail (by simp only [List.length_cons, List.length_append, List.length_nil] at hlen ⊢; omega) (by rw [hs]; rfl)
  | false =>
    rw [hs, if_neg (by decide), List.nil_append] at H hlen
    have g1 : tx ts 0 ≠ [47] := by
      by_cases l0 : b.label = 0
      · have e : labT b = [] := by unfold labT; rw [if_pos l0]
        rw [e, List.nil_append] at H hlen
        exact (cont_first h H (by omega)).1
      · have e : labT b = [let1 78, nmb (b.label * 1000000)] := by unfold labT; rw [if_neg l0]
        rw [e] at H
        rw [H.head.2.2.1]; simp [let1]
    unfold pLn
    simp only [if_neg g1]
    refine key 0 _ (Nat.zero_le _) H (by omega) (by rw [hs]; exact decide_eq_false g1)

/-! ### what is read is right -/

theorem pV_ok {ts : List Lx.Tok} (hg : Good ts) (i : Nat) : OkR (pV ts i) := by
  unfold pV
  split
  · exact OkR.wrapU (o := 2) ((okr ts hg _).c (i + 1)) (by omega)
  · split
    · exact (okr ts hg _).c (i + 1)
    · exact (okr ts hg _).c i

def wsB (ws : List (Int × Ex)) : Bool := ws.all (fun w => isw w.1 && okx w.2)

theorem pW_ok {ts : List Lx.Tok} (hg : Good ts) : ∀ (f : Nat) (ws : List (Int × Ex)) (i : Nat), wsB ws = true → ∀ us j, pW ts f ws i = .ok us j → wsB us = true
  | 0, ws, i, h, us, j, e => by unfold pW at e; cases e
  | f + 1, ws, i, h, us, j, e => by
    unfold pW at e
    split at e
    · rename_i hc
      have g := pV_ok hg (i + 1)
      cases e1 : pV ts (i + 1) with
      | bad k => rw [e1] at e; cases e
      | ok x k =>
        rw [e1] at e g
        simp only at e
        refine pW_ok hg f _ k ?_ us j e
        unfold wsB at h ⊢
        rw [List.all_append, h]
        simp [hc.2, show okx x = true from g]
    · cases e; exact h

theorem pN_ok {ts : List Lx.Tok} {m i : Nat} {n : Int} {j : Nat} (e : pN ts m i = .ok n j) : cnt n m = true := by
  unfold pN at e
  split at e
  · rename_i h
    have h := h.2
    unfold isc at h
    cases e
    unfold cnt
    simp at h ⊢; omega
  · cases e

theorem wrapC_ok {α β : Type} {g : α → β} {r : Rs α} {y : β} {j : Nat} (e : wrapC g r = .ok y j) : ∃ x, r = .ok x j ∧ y = g x := by
  cases r with
  | bad k => cases e
  | ok x k => cases e; exact ⟨x, rfl, rfl⟩

theorem pCt_ok {ts : List Lx.Tok} (hg : Good ts) {i : Nat} {b : Bl} {j : Nat} (e : pCt ts i = .ok b j) : okb b = true := by
  have O := okr ts hg (fuel ts)
  unfold pCt at e
  split at e
  · have g := O.c (i + 1)
    cases e1 : pC ts (fuel ts) (i + 1) with
    | bad k => rw [e1] at e; cases e
    | ok c k =>
      rw [e1] at e g
      simp only at e
      split at e
      · obtain ⟨x, e2, rfl⟩ := wrapC_ok e
        have g2 := O.e 0 (k + 1)
        rw [e2] at g2
        simp [okb, blk, show okx c = true from g, show okx x = true from g2]
      · cases e
  · split at e
    · have g := O.b (i + 1)
      cases e1 : pB ts (fuel ts) (i + 1) with
      | bad k => rw [e1] at e; cases e
      | ok c k =>
        rw [e1] at e g
        simp only at e
        split at e
        · obtain ⟨x, e2, rfl⟩ := wrapC_ok e
          have g2 := pV_ok hg (k + 1)
          rw [e2] at g2
          simp [okb, blk, show okx c = true from g, show okx x = true from g2]
        · cases e
    · split at e
      · obtain ⟨x, e2, rfl⟩ := wrapC_ok e
        have g2 := pV_ok hg (i + 1)
        rw [e2] at g2
        simp [okb, blk, show okx x = true from g2, noneB_zx]
      · split at e
        · have g := O.b (i + 1)
          cases e1 : pB ts (fuel ts) (i + 1) with
          | bad k => rw [e1] at e; cases e
          | ok c k =>
            rw [e1] at e g
            simp only at e
            split at e
            · obtain ⟨x, e2, rfl⟩ := wrapC_ok e
              simp [okb, blk, show okx c = true from g, noneB_zx, pN_ok e2]
            · cases e
        · split at e
          · obtain ⟨x, e2, rfl⟩ := wrapC_ok e
            simp [okb, blk, noneB_zx, pN_ok e2]
          · split at e
            · obtain ⟨x, e2, rfl⟩ := wrapC_ok e
              simp [okb, blk, noneB_zx, pN_ok e2]
            · obtain ⟨x, e2, rfl⟩ := wrapC_ok e
              have := pW_ok hg _ [] i rfl _ _ e2
              unfold wsB at this
              simp only [okb, blk, noneB_zx, this]
              rfl

theorem pLn_ok {ts : List Lx.Tok} (hg : Good ts) {b : Bl} {j : Nat} (e : pLn ts = .ok b j) : okb b = true := by
  have key : ∀ (s : Bool) (n : Int) (i : Nat), (n = 0 ∨ cnt n 99999 = true) → pEnd ts s n (pCt ts i) = .ok b j → okb b = true := by
    intro s n i hn e
    cases e1 : pCt ts i with
    | bad k => rw [e1] at e; cases e
    | ok c k =>
      have g := pCt_ok hg e1
      rw [e1] at e
      unfold pEnd at e
      simp only at e
      split at e
      · cases e
      · cases e
        simp only [okb, Bool.and_eq_true] at g ⊢
        refine ⟨?_, g.2⟩
        rcases hn with h | h <;> simp [h]
  have two : ∀ (i : Nat) (s : Bool), (if kd ts i = 1 ∧ tn ts i = 78 then match pN ts 99999 (i + 1) with
        | .bad j => .bad j
        | .ok n j => pEnd ts s n (pCt ts j)
      else pEnd ts s 0 (pCt ts i)) = .ok b j → okb b = true := by
    intro i s e
    split at e
    · cases e1 : pN ts 99999 (i + 1) with
      | bad k => rw [e1] at e; cases e
      | ok n k => rw [e1] at e; exact key _ n k (.inr (pN_ok e1)) e
    · exact key _ 0 _ (.inl rfl) e
  exact two _ _ e

theorem okx_num' {n : Int} (h0 : 0 ≤ n) (h1 : n < 1000000000000000) : okx (num n) = true := by
  unfold num; rw [okx_mk]; unfold nodeB; simp [kds, kdsl]; omega
theorem okx_un' {o : Int} {x : Ex} (h : 0 ≤ o ∧ o ≤ 25) (k : kds o.toNat = 1) (hx : okx x = true) : okx (un o x) = true := by
  unfold un; rw [okx_mk]; unfold nodeB; simp [k, hx]; omega
theorem okx_bin' {o : Int} {x y : Ex} (h : 0 ≤ o ∧ o ≤ 25) (k : kds o.toNat = 2) (hx : okx x = true) (hy : okx y = true) : okx (bin o x y) = true := by
  unfold bin; rw [okx_mk]; unfold nodeB; simp [k, hx, hy]; omega
theorem dpt_num (n : Int) : dpt (num n) = 1 := by unfold num; rw [dpt_mk]; rfl
theorem dpt_un (o : Int) (x : Ex) : dpt (un o x) = 1 + dpt x := by unfold un; rw [dpt_mk]; simp [dmx]
theorem dpt_bin (o : Int) (x y : Ex) : dpt (bin o x y) = 1 + max (dpt x) (dpt y) := by unfold bin; rw [dpt_mk]; simp [dmx]
theorem dpt_zx' : dpt zx = 1 := by unfold zx; rw [dpt_mk]; rfl

end Sy
end Go.Proofs.YtkfipjlknfinpaaDoor
