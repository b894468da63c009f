
/- Plain facts about modal groups: the groups, what a block holds, what is accepted, the state behind a block. -/
import Derived.Test.YtijakijjeoaikaaFxQ
set_option linter.unusedVariables false
set_option linter.unusedSimpArgs false
namespace Go.Proofs.Ytijakijjeoaikaa.Md

/-- The groups of the letter G. -/
def gtab : List (List Int) := [[], [0, 1, 2, 3, 33, 73, 74, 80, 81, 82, 83, 84, 85, 86, 89], [17, 18, 19], [90, 91], [20, 21], [94, 95], [40, 41, 42], [43, 44, 49], [98, 99], [54, 55, 56, 57, 58, 59], [61, 64], [15, 16], [68, 69], [53], [4, 10, 12, 13, 31, 52, 92]]
/-- Those of the letter M, with their numbers. -/
def mtab : List (Int × List Int) := [(21, [0, 1, 2, 30]), (22, [3, 4, 5]), (23, [6]), (24, [7, 8, 9]), (25, [62, 63])]
def fst (c : Int) : Nat → List (List Int) → Int
  | _, [] => 0
  | i, r :: l => if c ∈ r then (i : Int) else fst c (i + 1) l
def grpG (c : Int) : Int := fst c 0 gtab
def grpM (c : Int) : Int := if c ∈ [0, 1, 2, 30] then 21 else if c ∈ [3, 4, 5] then 22 else if c = 6 then 23 else if c ∈ [7, 8, 9] then 24 else if c = 62 ∨ c = 63 then 25 else 0
def grp (l c : Int) : Int := if l = 71 then grpG c else if l = 77 then grpM c else 0

def allG : List Int := gtab.flatten
def allM : List Int := [0, 1, 2, 30, 3, 4, 5, 6, 7, 8, 9, 62, 63]
theorem fst_no (c : Int) (i : Nat) (l : List (List Int)) (h : ∀ r ∈ l, c ∉ r) : fst c i l = 0 := by
  induction l generalizing i with
  | nil => rfl
  | cons r l ih =>
    unfold fst
    rw [if_neg (h r (List.mem_cons_self ..))]
    exact ih _ (fun r' hr => h r' (List.mem_cons_of_mem _ hr))
theorem grpG_no {c : Int} (h : c ∉ allG) : grpG c = 0 := fst_no c 0 gtab (fun r hr hc => h (List.mem_flatten.2 ⟨r, hr, hc⟩))
theorem grpG_all : ∀ c ∈ allG, 1 ≤ grpG c ∧ grpG c ≤ 14 ∧ 0 ≤ c ∧ c ≤ 99 := by decide +kernel
theorem grpG_bd (c : Int) : 0 ≤ grpG c ∧ grpG c ≤ 14 := by
  by_cases h : c ∈ allG
  · have := grpG_all c h; omega
  · rw [grpG_no h]; omega
theorem grpM_no {c : Int} (h : c ∉ allM) : grpM c = 0 := by
  simp [allM] at h
  unfold grpM
  rw [if_neg (by simp; omega), if_neg (by simp; omega), if_neg (by omega), if_neg (by simp; omega), if_neg (by omega)]
theorem grpM_all : ∀ c ∈ allM, 21 ≤ grpM c ∧ grpM c ≤ 25 ∧ 0 ≤ c ∧ c ≤ 63 := by decide +kernel
theorem grpM_bd (c : Int) : grpM c = 0 ∨ 21 ≤ grpM c ∧ grpM c ≤ 25 := by
  by_cases h : c ∈ allM
  · have := grpM_all c h; omega
  · rw [grpM_no h]; omega
theorem grp_bd (l c : Int) : 0 ≤ grp l c ∧ grp l c ≤ 25 := by
  unfold grp
  have := grpG_bd c; have := grpM_bd c
  split
  · omega
  · split <;> omega
theorem grp_pos {l c : Int} (h : grp l c ≠ 0) : 0 ≤ c ∧ c ≤ 99 ∧ (l = 71 ∨ l = 77) := by
  unfold grp at h
  split at h
  · rename_i e
    by_cases k : c ∈ allG
    · have := grpG_all c k; omega
    · exact absurd (grpG_no k) h
  · split at h
    · rename_i e
      by_cases k : c ∈ allM
      · have := grpM_all c k; omega
      · exact absurd (grpM_no k) h
    · exact absurd rfl h

/-- The values of a block: letters and numbers. -/
abbrev V := List (Int × Int)
/-- Whether a value is a code, its code, its group. -/
def isC (p : Int × Int) : Bool := (decide (p.1 = 71) || decide (p.1 = 77)) && whole p.2
def cv (p : Int × Int) : Int := if isC p = true then wholev p.2 else 0
def gof (p : Int × Int) : Int := if isC p = true then grp p.1 (wholev p.2) else 0
theorem gof_bd (p : Int × Int) : 0 ≤ gof p ∧ gof p ≤ 25 := by
  unfold gof
  split
  · exact grp_bd _ _
  · omega
theorem gof_pos {p : Int × Int} (h : gof p ≠ 0) : isC p = true ∧ gof p = grp p.1 (wholev p.2) ∧ 0 ≤ cv p ∧ cv p ≤ 99 := by
  unfold gof at h ⊢
  unfold cv
  split at h
  · rename_i e
    rw [if_pos e, if_pos e]
    have := grp_pos h
    exact ⟨e, rfl, this.1, this.2.1⟩
  · exact absurd rfl h
/-- The group as the specification finds it. -/
theorem gof_ref (p : Int × Int) (g : Int) (hg : g ≠ 0) : (whole p.2 && decide (grp p.1 (wholev p.2) = g)) = decide (gof p = g) := by
  unfold gof isC
  by_cases hl : p.1 = 71 ∨ p.1 = 77
  · have : (decide (p.1 = 71) || decide (p.1 = 77)) = true := by simpa using hl
    rw [this, Bool.true_and]
    cases whole p.2
    · simp; omega
    · simp
  · have e1 : grp p.1 (wholev p.2) = 0 := by unfold grp; rw [if_neg (fun h => hl (.inl h)), if_neg (fun h => hl (.inr h))]
    have e2 : (decide (p.1 = 71) || decide (p.1 = 77)) = false := by simpa using hl
    rw [e1, e2, Bool.false_and, if_neg (by decide), Bool.and_eq_false_imp.2]
    · simp; omega
    · intro _; simp; omega

def has (l : V) (letter code : Int) : Bool := l.any fun p => isC p && decide (p.1 = letter) && decide (cv p = code)
def fnd (l : V) (letter : Int) : Option Int := (l.find? fun p => decide (p.1 = letter)).map (·.2)
def fv (l : V) (letter : Int) : Int := (fnd l letter).getD 0
def fo (l : V) (letter : Int) : Bool := (fnd l letter).isSome
def hg (l : V) (g : Int) : Bool := l.any fun p => decide (gof p = g)
/-- The code of a group in a block, or -1. -/
def gcd (l : V) (g : Int) : Int := match l.find? (fun p => decide (gof p = g)) with | some p => cv p | none => -1
theorem gcd_hg (l : V) (g : Int) (hg0 : g ≠ 0) : (decide (0 ≤ gcd l g)) = hg l g := by
  unfold gcd hg
  induction l with
  | nil => rfl
  | cons p l ih =>
    rw [List.find?_cons, List.any_cons]
    by_cases h : gof p = g
    · rw [decide_eq_true h]
      have := gof_pos (p := p) (by omega)
      simp [this.2.2.1]
    · rw [decide_eq_false h]
      simpa using ih
theorem gcd_cons (p : Int × Int) (l : V) (g : Int) : gcd (p :: l) g = if gof p = g then cv p else gcd l g := by
  unfold gcd
  rw [List.find?_cons]
  by_cases h : gof p = g
  · rw [decide_eq_true h, if_pos h]
  · rw [decide_eq_false h, if_neg h]
theorem gcd_bd (l : V) (g : Int) (hg0 : g ≠ 0) : -1 ≤ gcd l g ∧ gcd l g ≤ 99 := by
  induction l with
  | nil => show -1 ≤ (-1 : Int) ∧ (-1 : Int) ≤ 99; omega
  | cons p l ih =>
    rw [gcd_cons]
    split
    · have := gof_pos (p := p) (by omega); omega
    · exact ih
theorem fnd_cons (p : Int × Int) (l : V) (c : Int) : fnd (p :: l) c = if p.1 = c then some p.2 else fnd l c := by
  unfold fnd
  rw [List.find?_cons]
  by_cases h : p.1 = c
  · rw [decide_eq_true h, if_pos h]; rfl
  · rw [decide_eq_false h, if_neg h]

/-! ### the check -/
/-- The error of a value behind others. -/
def cke (pre : V) (p : Int × Int) : Int :=
  if p.1 < 65 ∨ 90 < p.1 ∨ vld p.2 = false then 1
  else if p.1 = 71 ∨ p.1 = 77 then (if isC p = false ∨ gof p = 0 then 6 else if hg pre (gof p) = true then 8 else 0)
  else if fo pre p.1 = true then 7 else 0
def cend (l : V) : Int := if hg l 14 = true ∧ (hg l 1 = true ∨ hg l 13 = true) then 8 else 0
def chf (pre : V) : V → Int
  | [] => cend pre
  | p :: l => if cke pre p ≠ 0 then cke pre p else chf (pre ++ [p]) l
def chk (l : V) : Int := chf [] l
theorem chf_step (l : V) (k : Nat) (h : k < l.length) : chf (l.take k) (l.drop k) = if cke (l.take k) l[k] ≠ 0 then cke (l.take k) l[k] else chf (l.take (k + 1)) (l.drop (k + 1)) := by
  rw [List.drop_eq_getElem_cons h, List.take_succ_eq_append_getElem h]
  rfl
theorem chf_end (l : V) : chf (l.take l.length) (l.drop l.length) = cend l := by
  rw [List.take_length, List.drop_length]; rfl

theorem cke_bd (pre : V) (p : Int × Int) : 0 ≤ cke pre p ∧ cke pre p ≤ 8 := by
  unfold cke
  repeat' split
  all_goals omega
theorem chf_bd (pre l : V) : 0 ≤ chf pre l ∧ chf pre l ≤ 8 := by
  induction l generalizing pre with
  | nil => show 0 ≤ cend pre ∧ cend pre ≤ 8; unfold cend; split <;> omega
  | cons p l ih =>
    unfold chf
    split
    · exact cke_bd _ _
    · exact ih _
theorem chk_bd (l : V) : 0 ≤ chk l ∧ chk l ≤ 8 := chf_bd [] l

/-! ### feed rates -/
def ree (n u : Int) : Int := if vld n = true ∧ (u = 20 ∨ u = 21) then (if 1 ≤ ln n u ∧ ln n u ≤ 60000000 then 0 else 3) else 1
def rev (n u : Int) : Int := if ree n u = 0 then ln n u else 0

/-! ### the state -/
structure S where
  (mo pl di un fe cu le re sy pa po tu sp : Int)
  (mi fl : Bool)
  (bl fd se tl lo h d : Int)
  deriving DecidableEq
def S.zero : S := ⟨0, 0, 0, 0, 0, 0, 0, 0, 0, 0, 0, 0, 0, false, false, 0, 0, 0, 0, 0, 0, 0⟩
def S.start : S := ⟨80, 17, 90, 21, 94, 40, 49, 98, 54, 61, 15, 69, 5, false, false, 0, 0, 0, 0, 0, 0, 0⟩

/-- The state behind a code of the coolant. -/
def wcl (s : S) (c : Int) : S := if c = 7 then { s with mi := true } else if c = 8 then { s with fl := true } else if c = 9 then { s with mi := false, fl := false } else s
/-- The state behind a code c of group g. -/
def wgc (s : S) (g c : Int) : S :=
  if g = 1 then { s with mo := c } else if g = 2 then { s with pl := c } else if g = 3 then { s with di := c } else if g = 4 then { s with un := c } else if g = 5 then { s with fe := c }
  else if g = 6 then (if c = 40 then { s with cu := c, d := 0 } else { s with cu := c }) else if g = 7 then (if c = 49 then { s with le := c, h := 0 } else { s with le := c })
  else if g = 8 then { s with re := c } else if g = 9 then { s with sy := c } else if g = 10 then { s with pa := c, bl := 0 } else if g = 11 then { s with po := c } else if g = 12 then { s with tu := c }
  else if g = 22 then { s with sp := c } else if g = 24 then wcl s c else s
def wcs (s : S) (p : Int × Int) : S := wgc s (gof p) (cv p)
def codes (s : S) (l : V) : S := l.foldl wcs s

/-- The words: errors and states. -/
def fde (s : S) (l : V) : Int := if fo l 70 = true then ree (fv l 70) s.un else 0
def fds (s : S) (l : V) : S := if fo l 70 = true then { s with fd := rev (fv l 70) s.un } else s
/-- Whether the word of a letter is an integer up to a greatest one, if it is there. -/
def nok (l : V) (c m : Int) : Bool := !fo l c || (whole (fv l c) && decide (0 ≤ wholev (fv l c)) && decide (wholev (fv l c) ≤ m))
def nst (l : V) (c was : Int) : Int := if fo l c = true then wholev (fv l c) else was
def nue (l : V) : Int := if (nok l 83 30000 && nok l 84 32 && nok l 72 32 && nok l 68 32) = true then 0 else 1
def nus (s : S) (l : V) : S := { s with se := nst l 83 s.se, tl := nst l 84 s.tl, h := nst l 72 s.h, d := nst l 68 s.d }
def blw (l : V) : Bool := fo l 80 && has l 71 64
def ble (s : S) (l : V) : Int := if blw l = true then (if lene (fv l 80) s.un = 0 ∧ (lenv (fv l 80) s.un < 0 ∨ 1000 < lenv (fv l 80) s.un) then 3 else lene (fv l 80) s.un) else 0
def bls (s : S) (l : V) : S := if blw l = true then { s with bl := lenv (fv l 80) s.un } else s
def wde (s : S) (l : V) : Int := if fde s l ≠ 0 then fde s l else if nue l ≠ 0 then nue l else ble s l
def wds (s : S) (l : V) : S := bls (nus (fds s l) l) l
def ape (s : S) (l : V) : Int := if chk l ≠ 0 then chk l else wde (codes s l) l
def lod (s : S) (l : V) : S := if has l 77 6 = true then { s with lo := s.tl } else s
def aps (s : S) (l : V) : S := if ape s l = 0 then lod (wds (codes s l) l) l else S.zero

end Go.Proofs.Ytijakijjeoaikaa.Md
