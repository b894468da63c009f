
/- Plain: the tokens of a line, as functions of its bytes. -/
import Derived.Lib.Bytealg
import Derived.Test.YtlinfdgmebogbaaDoorFxP
set_option linter.unusedVariables false
set_option linter.unusedSimpArgs false
namespace Go.Proofs.YtlinfdgmebogbaaDoor
namespace Lx

/-- A token: kind, number, offset, text. -/
structure Tok where
  k : Int
  n : Int
  p : Nat
  x : List UInt8

/-- The names. -/
def nms : List (List UInt8) := [[73, 70], [71, 79, 84, 79], [87, 72, 73, 76, 69], [68, 79], [69, 78, 68], [69, 81], [78, 69], [71, 84], [71, 69], [76, 84], [76, 69], [65, 78, 68], [79, 82], [88, 79, 82], [77, 79, 68], [83, 73, 78], [67, 79, 83], [84, 65, 78], [65, 84, 65, 78], [83, 81, 82, 84], [65, 66, 83], [82, 79, 85, 78, 68], [70, 73, 88], [70, 85, 80]]

def nm (i : Nat) : List UInt8 := nms.getD i []
/-- Does n stand at the beginning of l? -/
def pfx (n l : List UInt8) : Bool := decide (n.length ≤ l.length) && decide (l.take n.length = n)
def nstep (l b n : List UInt8) : List UInt8 := if (decide (b.length < n.length) && pfx n l) = true then n else b
/-- The longest of the first k names that begins at l. -/
def nfold (l : List UInt8) (k : Nat) : List UInt8 := (nms.take k).foldl (nstep l) []
def fnm (l : List UInt8) : List UInt8 := nfold l 24

theorem nms_length : nms.length = 24 := by decide
theorem nfold_succ (l : List UInt8) (k : Nat) (h : k < 24) : nfold l (k + 1) = nstep l (nfold l k) (nm k) := by
  unfold nfold
  have hk : k < nms.length := by rw [nms_length]; exact h
  rw [List.take_succ_eq_append_getElem hk, List.foldl_append]
  unfold nm
  rw [List.getD_eq_getElem?_getD, List.getElem?_eq_getElem hk]
  rfl

def isn (c : UInt8) : Bool := isd c || (c == 46)
def isu (c : UInt8) : Bool := decide (65 ≤ (c.toNat : Int) ∧ (c.toNat : Int) ≤ 90)
def sgs : List UInt8 := [43, 45, 42, 47, 61, 35, 91, 93]
def isg (c : UInt8) : Bool := decide ((0 : Int) ≤ Lib.indexByte sgs c)
def ws (c : UInt8) : Bool := c == 32 || c == 9 || c == 13

/-- How many bytes at the beginning are digits or points. -/
def nrun : List UInt8 → Nat
  | [] => 0
  | c :: l => if isn c = true then nrun l + 1 else 0

/-- What begins here: kind, number, text, length; the length is 0 where no token begins. -/
structure F where
  k : Int
  n : Int
  x : List UInt8
  m : Nat

def fnum (l : List UInt8) : F := if pok (l.take (nrun l)) = true then ⟨2, pnum (l.take (nrun l)), [], nrun l⟩ else ⟨0, 0, [], 0⟩

def fst (l : List UInt8) : F :=
  if isn (l.getD 0 0) = true then fnum l
  else if isu (l.getD 0 0) = true then (if fnm l = [] then ⟨1, (l.getD 0 0).toNat, [], 1⟩ else ⟨3, 0, fnm l, (fnm l).length⟩)
  else if isg (l.getD 0 0) = true then ⟨4, 0, [l.getD 0 0], 1⟩ else ⟨0, 0, [], 0⟩

inductive Ac where
  | bad
  | skip (k : Nat)
  | tok (f : F)

def act (c : UInt8) (t : List UInt8) : Ac :=
  if ws c = true then .skip 0
  else if c = 59 then .skip t.length
  else if c = 40 then (if Lib.indexByte t 41 = -1 then .bad else .skip ((Lib.indexByte t 41).toNat + 1))
  else if (fst (c :: t)).m = 0 then .bad else .tok (fst (c :: t))

inductive Res where
  | ok (l : List Tok)
  | bad (a : Nat)

/-- Behind the tokens ts. -/
def Res.pre (ts : List Tok) : Res → Res
  | .ok l => .ok (ts ++ l)
  | .bad a => .bad a

def lx (l : List UInt8) (a : Nat) : Res :=
  match l with
  | [] => .ok []
  | c :: t =>
    match act c t with
    | .bad => .bad a
    | .skip k => lx (t.drop k) (a + 1 + k)
    | .tok f => (lx (t.drop (f.m - 1)) (a + f.m)).pre [⟨f.k, f.n, a, f.x⟩]
termination_by l.length
decreasing_by all_goals (simp; omega)

def tks (l : List UInt8) : List Tok := match lx l 0 with
  | .ok ts => ts
  | .bad _ => []
def tat (l : List UInt8) : Nat := match lx l 0 with
  | .ok _ => l.length
  | .bad a => a
def ter (l : List UInt8) : Int := match lx l 0 with
  | .ok _ => 0
  | .bad _ => 2

theorem pre_pre (a b : List Tok) (r : Res) : (r.pre b).pre a = r.pre (a ++ b) := by
  cases r <;> simp [Res.pre]
theorem pre_nil (r : Res) : r.pre [] = r := by cases r <;> simp [Res.pre]

theorem lx_nil (a : Nat) : lx [] a = .ok [] := by unfold lx; rfl
theorem lx_bad {c : UInt8} {t : List UInt8} (h : act c t = .bad) (a : Nat) : lx (c :: t) a = .bad a := by unfold lx; rw [h]
theorem lx_skip {c : UInt8} {t : List UInt8} {k : Nat} (h : act c t = .skip k) (a : Nat) : lx (c :: t) a = lx (t.drop k) (a + 1 + k) := by
  rw [lx, h]
theorem lx_tok {c : UInt8} {t : List UInt8} {f : F} (h : act c t = .tok f) (a : Nat) : lx (c :: t) a = (lx (t.drop (f.m - 1)) (a + f.m)).pre [⟨f.k, f.n, a, f.x⟩] := by
  rw [lx, h]

/-! ### the loop's relation -/

/-- At offset k, behind the tokens ts. -/
def At (l : List UInt8) (k : Nat) (ts : List Tok) : Prop := k ≤ l.length ∧ ts.length ≤ k ∧ lx l 0 = (lx (l.drop k) k).pre ts

theorem At.start (l : List UInt8) : At l 0 [] := ⟨Nat.zero_le _, Nat.le_refl _, by rw [pre_nil]; rfl⟩

theorem At.fin {l : List UInt8} {k : Nat} {ts : List Tok} (h : At l k ts) (e : k = l.length) : tks l = ts ∧ tat l = l.length ∧ ter l = 0 := by
  have := h.2.2
  rw [e, List.drop_length, lx_nil] at this
  simp only [Res.pre, List.append_nil] at this
  unfold tks tat ter
  rw [this]; exact ⟨rfl, rfl, rfl⟩

theorem At.bad {l : List UInt8} {k : Nat} {ts : List Tok} (h : At l k ts) (hk : k < l.length) (e : act l[k] (l.drop (k + 1)) = .bad) : tks l = [] ∧ tat l = k ∧ ter l = 2 := by
  have := h.2.2
  rw [List.drop_eq_getElem_cons hk, lx_bad e] at this
  simp only [Res.pre] at this
  unfold tks tat ter
  rw [this]; exact ⟨rfl, rfl, rfl⟩

theorem At.skip {l : List UInt8} {k j : Nat} {ts : List Tok} (h : At l k ts) (hk : k < l.length) (e : act l[k] (l.drop (k + 1)) = .skip j) (hj : k + 1 + j ≤ l.length) : At l (k + 1 + j) ts := by
  refine ⟨hj, by have := h.2.1; omega, ?_⟩
  rw [h.2.2, List.drop_eq_getElem_cons hk, lx_skip e, List.drop_drop]

theorem At.tok {l : List UInt8} {k : Nat} {f : F} {ts : List Tok} (h : At l k ts) (hk : k < l.length) (e : act l[k] (l.drop (k + 1)) = .tok f) (hm : 1 ≤ f.m) (hj : k + f.m ≤ l.length) : At l (k + f.m) (ts ++ [⟨f.k, f.n, k, f.x⟩]) := by
  refine ⟨hj, by have := h.2.1; rw [List.length_append]; simp; omega, ?_⟩
  rw [h.2.2, List.drop_eq_getElem_cons hk, lx_tok e, List.drop_drop, pre_pre, show k + 1 + (f.m - 1) = k + f.m by omega]

/-! ### what begins here -/

theorem nrun_le (l : List UInt8) : nrun l ≤ l.length := by
  induction l with
  | nil => exact Nat.le_refl _
  | cons c l ih => unfold nrun; split <;> simp <;> omega

theorem pfx_le {n l : List UInt8} (h : pfx n l = true) : n.length ≤ l.length := by
  unfold pfx at h; simp at h; exact h.1

theorem nstep_le {l b n : List UInt8} (h : b.length ≤ l.length) : (nstep l b n).length ≤ l.length := by
  unfold nstep
  split
  · rename_i h; simp at h; exact pfx_le h.2
  · exact h

theorem nfold_le (l : List UInt8) : ∀ k, k ≤ 24 → (nfold l k).length ≤ l.length
  | 0, _ => Nat.zero_le _
  | k + 1, h => by rw [nfold_succ l k (by omega)]; exact nstep_le (nfold_le l k (by omega))

theorem fst_le (l : List UInt8) (h : l ≠ []) : (fst l).m ≤ l.length := by
  have h1 : 1 ≤ l.length := by cases l with
    | nil => exact absurd rfl h
    | cons _ _ => simp
  have h2 := nrun_le l
  have h3 := nfold_le l 24 (Nat.le_refl _)
  unfold fst fnum fnm
  (repeat' split) <;> simp_all

end Lx
end Go.Proofs.YtlinfdgmebogbaaDoor
