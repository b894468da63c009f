import Derived.Test.YtnjcbgnghfppoaaDoorGG
import Derived.Test.YtnjcbgnghfppoaaDoorGF
import Derived.Great.Ranges
import Derived.Laws.Tables
import Derived.Laws.Rows

/- Plain facts about modal groups: the groups, what a block holds, what is accepted, the state behind a block. -/
set_option linter.unusedVariables false
set_option linter.unusedSimpArgs false
namespace Go.Proofs.YtnjcbgnghfppoaaDoor.Md

/-- The groups of the letter G. -/
def gtab : List (List Int) := [[], [0, 1, 2, 3, 33, 73, 74, 80, 81, 82, 83, 84, 85, 86, 89], [17, 18, 19], [90, 91], [20, 21], [94, 95], [40, 41, 42], [43, 44, 49], [98, 99], [54, 55, 56, 57, 58, 59], [61, 64], [15, 16], [68, 69], [53], [4, 10, 12, 13, 31, 52, 92]]
/-- Those of the letter M, with their numbers. -/
def mtab : List (Int × List Int) := [(21, [0, 1, 2, 30]), (22, [3, 4, 5]), (23, [6]), (24, [7, 8, 9]), (25, [62, 63])]
def fst (c : Int) : Nat → List (List Int) → Int
  | _, [] => 0
  | i, r :: l => if c ∈ r then (i : Int) else fst c (i + 1) l
def grpG (c : Int) : Int := fst c 0 gtab
def grpM (c : Int) : Int := if c ∈ [0, 1, 2, 30] then 21 else if c ∈ [3, 4, 5] then 22 else if c = 6 then 23 else if c ∈ [7, 8, 9] then 24 else if c = 62 ∨ c = 63 then 25 else 0
def grp (l c : Int) : Int := if l = 71 then grpG c else if l = 77 then grpM c else 0

def allG : List Int := gtab.flatten
def allM : List Int := [0, 1, 2, 30, 3, 4, 5, 6, 7, 8, 9, 62, 63]
theorem fst_no (c : Int) (i : Nat) (l : List (List Int)) (h : ∀ r ∈ l, c ∉ r) : fst c i l = 0 := by
  induction l generalizing i with
  | nil => rfl
  | cons r l ih =>
    unfold fst
    rw [if_neg (h r (List.mem_cons_self ..))]
    exact ih _ (fun r' hr => h r' (List.mem_cons_of_mem _ hr))
theorem grpG_no {c : Int} (h : c ∉ allG) : grpG c = 0 := fst_no c 0 gtab (fun r hr hc => h (List.mem_flatten.2 ⟨r, hr, hc⟩))
theorem grpG_all : ∀ c ∈ allG, 1 ≤ grpG c ∧ grpG c ≤ 14 ∧ 0 ≤ c ∧ c ≤ 99 := by decide +kernel
theorem grpG_bd (c : Int) : 0 ≤ grpG c ∧ grpG c ≤ 14 := by
  by_cases h : c ∈ allG
  · have := grpG_all c h; omega
  · rw [grpG_no h]; omega
theorem grpM_no {c : Int} (h : c ∉ allM) : grpM c = 0 := by
  simp [allM] at h
  unfold grpM
  rw [if_neg (by simp; omega), if_neg (by simp; omega), if_neg (by omega), if_neg (by simp; omega), if_neg (by omega)]
theorem grpM_all : ∀ c ∈ allM, 21 ≤ grpM c ∧ grpM c ≤ 25 ∧ 0 ≤ c ∧ c ≤ 63 := by decide +kernel
theorem grpM_bd (c : Int) : grpM c = 0 ∨ 21 ≤ grpM c ∧ grpM c ≤ 25 := by
  by_cases h : c ∈ allM
  · have := grpM_all c h; omega
  · rw [grpM_no h]; omega
theorem grp_bd (l c : Int) : 0 ≤ grp l c ∧ grp l c ≤ 25 := by
  unfold grp
  have := grpG_bd c; have := grpM_bd c
  split
  · omega
  · split <;> omega
theorem grp_pos {l c : Int} (h : grp l c ≠ 0) : 0 ≤ c ∧ c ≤ 99 ∧ (l = 71 ∨ l = 77) := by
  unfold grp at h
  split at h
  · rename_i e
    by_cases k : c ∈ allG
    · have := grpG_all c k; omega
    · exact absurd (grpG_no k) h
  · split at h
    · rename_i e
      by_cases k : c ∈ allM
      · have := grpM_all c k; omega
      · exact absurd (grpM_no k) h
    · exact absurd rfl h

/-- The values of a block: letters and numbers. -/
abbrev V := List (Int × Int)
/-- Whether a value is a code, its code, its group. -/
def isC (p : Int × Int) : Bool := (decide (p.1 = 71) || decide (p.1 = 77)) && whole p.2
def cv (p : Int × Int) : Int := if isC p = true then wholev p.2 else 0
def gof (p : Int × Int) : Int := if isC p = true then grp p.1 (wholev p.2) else 0
theorem gof_bd (p : Int × Int) : 0 ≤ gof p ∧ gof p ≤ 25 := by
  unfold gof
  split
  · exact grp_bd _ _
  · omega
theorem gof_pos {p : Int × Int} (h : gof p ≠ 0) : isC p = true ∧ gof p = grp p.1 (wholev p.2) ∧ 0 ≤ cv p ∧ cv p ≤ 99 := by
  unfold gof at h ⊢
  unfold cv
  split at h
  · rename_i e
    rw [if_pos e, if_pos e]
    have := grp_pos h
    exact ⟨e, rfl, this.1, this.2.1⟩
  · exact absurd rfl h
/-- The group as the specification finds it. -/
theorem gof_ref (p : Int × Int) (g : Int) (hg : g ≠ 0) : (whole p.2 && decide (grp p.1 (wholev p.2) = g)) = decide (gof p = g) := by
  unfold gof isC
  by_cases hl : p.1 = 71 ∨ p.1 = 77
  · have : (decide (p.1 = 71) || decide (p.1 = 77)) = true := by simpa using hl
    rw [this, Bool.true_and]
    cases whole p.2
    · simp; omega
    · simp
  · have e1 : grp p.1 (wholev p.2) = 0 := by unfold grp; rw [if_neg (fun h => hl (.inl h)), if_neg (fun h => hl (.inr h))]
    have e2 : (decide (p.1 = 71) || decide (p.1 = 77)) = false := by simpa using hl
    rw [e1, e2, Bool.false_and, if_neg (by decide), Bool.and_eq_false_imp.2]
    · simp; omega
    · intro _; simp; omega

def has (l : V) (letter code : Int) : Bool := l.any fun p => isC p && decide (p.1 = letter) && decide (cv p = code)
def fnd (l : V) (letter : Int) : Option Int := (l.find? fun p => decide (p.1 = letter)).map (·.2)
def fv (l : V) (letter : Int) : Int := (fnd l letter).getD 0
def fo (l : V) (letter : Int) : Bool := (fnd l letter).isSome
def hg (l : V) (g : Int) : Bool := l.any fun p => decide (gof p = g)
/-- The code of a group in a block, or -1. -/
def gcd (l : V) (g : Int) : Int := match l.find? (fun p => decide (gof p = g)) with | some p => cv p | none => -1
theorem gcd_hg (l : V) (g : Int) (hg0 : g ≠ 0) : (decide (0 ≤ gcd l g)) = hg l g := by
  unfold gcd hg
  induction l with
  | nil => rfl
  | cons p l ih =>
    rw [List.find?_cons, List.any_cons]
    by_cases h : gof p = g
    · rw [decide_eq_true h]
      have := gof_pos (p := p) (by omega)
      simp [this.2.2.1]
    · rw [decide_eq_false h]
      simpa using ih
theorem gcd_cons (p : Int × Int) (l : V) (g : Int) : gcd (p :: l) g = if gof p = g then cv p else gcd l g := by
  unfold gcd
  rw [List.find?_cons]
  by_cases h : gof p = g
  · rw [decide_eq_true h, if_pos h]
  · rw [decide_eq_false h, if_neg h]
theorem gcd_bd (l : V) (g : Int) (hg0 : g ≠ 0) : -1 ≤ gcd l g ∧ gcd l g ≤ 99 := by
  induction l with
  | nil => show -1 ≤ (-1 : Int) ∧ (-1 : Int) ≤ 99; omega
  | cons p l ih =>
    rw [gcd_cons]
    split
    · have := gof_pos (p := p) (by omega); omega
    · exact ih
theorem fnd_cons (p : Int × Int) (l : V) (c : Int) : fnd (p :: l) c = if p.1 = c then some p.2 else fnd l c := by
  unfold fnd
  rw [List.find?_cons]
  by_cases h : p.1 = c
  · rw [decide_eq_true h, if_pos h]; rfl
  · rw [decide_eq_false h, if_neg h]

/-! ### the check -/
/-- The error of a value behind others. -/
def cke (pre : V) (p : Int × Int) : Int :=
  if p.1 < 65 ∨ 90 < p.1 ∨ vld p.2 = false then 1
  else if p.1 = 71 ∨ p.1 = 77 then (if isC p = false ∨ gof p = 0 then 6 else if hg pre (gof p) = true then 8 else 0)
  else if fo pre p.1 = true then 7 else 0
def cend (l : V) : Int := if hg l 14 = true ∧ (hg l 1 = true ∨ hg l 13 = true) then 8 else 0
def chf (pre : V) : V → Int
  | [] => cend pre
  | p :: l => if cke pre p ≠ 0 then cke pre p else chf (pre ++ [p]) l
def chk (l : V) : Int := chf [] l
theorem chf_step (l : V) (k : Nat) (h : k < l.length) : chf (l.take k) (l.drop k) = if cke (l.take k) l[k] ≠ 0 then cke (l.take k) l[k] else chf (l.take (k + 1)) (l.drop (k + 1)) := by
  rw [List.drop_eq_getElem_cons h, List.take_succ_eq_append_getElem h]
  rfl
theorem chf_end (l : V) : chf (l.take l.length) (l.drop l.length) = cend l := by
  rw [List.take_length, List.drop_length]; rfl

theorem cke_bd (pre : V) (p : Int × Int) : 0 ≤ cke pre p ∧ cke pre p ≤ 8 := by
  unfold cke
  repeat' split
  all_goals omega
theorem chf_bd (pre l : V) : 0 ≤ chf pre l ∧ chf pre l ≤ 8 := by
  induction l generalizing pre with
  | nil => show 0 ≤ cend pre ∧ cend pre ≤ 8; unfold cend; split <;> omega
  | cons p l ih =>
    unfold chf
    split
    · exact cke_bd _ _
    · exact ih _
theorem chk_bd (l : V) : 0 ≤ chk l ∧ chk l ≤ 8 := chf_bd [] l

/-! ### feed rates -/
def ree (n u : Int) : Int := if vld n = true ∧ (u = 20 ∨ u = 21) then (if 1 ≤ ln n u ∧ ln n u ≤ 60000000 then 0 else 3) else 1
def rev (n u : Int) : Int := if ree n u = 0 then ln n u else 0

/-! ### the state -/
structure S where
  (mo pl di un fe cu le re sy pa po tu sp : Int)
  (mi fl : Bool)
  (bl fd se tl lo h d : Int)
  deriving DecidableEq
def S.zero : S := ⟨0, 0, 0, 0, 0, 0, 0, 0, 0, 0, 0, 0, 0, false, false, 0, 0, 0, 0, 0, 0, 0⟩
def S.start : S := ⟨80, 17, 90, 21, 94, 40, 49, 98, 54, 61, 15, 69, 5, false, false, 0, 0, 0, 0, 0, 0, 0⟩

/-- The state behind a code of the coolant. -/
def wcl (s : S) (c : Int) : S := if c = 7 then { s with mi := true } else if c = 8 then { s with fl := true } else if c = 9 then { s with mi := false, fl := false } else s
/-- The state behind a code c of group g. -/
def wgc (s : S) (g c : Int) : S :=
  if g = 1 then { s with mo := c } else if g = 2 then { s with pl := c } else if g = 3 then { s with di := c } else if g = 4 then { s with un := c } else if g = 5 then { s with fe := c }
  else if g = 6 then (if c = 40 then { s with cu := c, d := 0 } else { s with cu := c }) else if g = 7 then (if c = 49 then { s with le := c, h := 0 } else { s with le := c })
  else if g = 8 then { s with re := c } else if g = 9 then { s with sy := c } else if g = 10 then { s with pa := c, bl := 0 } else if g = 11 then { s with po := c } else if g = 12 then { s with tu := c }
  else if g = 22 then { s with sp := c } else if g = 24 then wcl s c else s
def wcs (s : S) (p : Int × Int) : S := wgc s (gof p) (cv p)
def codes (s : S) (l : V) : S := l.foldl wcs s

/-- The words: errors and states. -/
def fde (s : S) (l : V) : Int := if fo l 70 = true then ree (fv l 70) s.un else 0
def fds (s : S) (l : V) : S := if fo l 70 = true then { s with fd := rev (fv l 70) s.un } else s
/-- Whether the word of a letter is an integer up to a greatest one, if it is there. -/
def nok (l : V) (c m : Int) : Bool := !fo l c || (whole (fv l c) && decide (0 ≤ wholev (fv l c)) && decide (wholev (fv l c) ≤ m))
def nst (l : V) (c was : Int) : Int := if fo l c = true then wholev (fv l c) else was
def nue (l : V) : Int := if (nok l 83 30000 && nok l 84 32 && nok l 72 32 && nok l 68 32) = true then 0 else 1
def nus (s : S) (l : V) : S := { s with se := nst l 83 s.se, tl := nst l 84 s.tl, h := nst l 72 s.h, d := nst l 68 s.d }
def blw (l : V) : Bool := fo l 80 && has l 71 64
def ble (s : S) (l : V) : Int := if blw l = true then (if lene (fv l 80) s.un = 0 ∧ (lenv (fv l 80) s.un < 0 ∨ 1000 < lenv (fv l 80) s.un) then 3 else lene (fv l 80) s.un) else 0
def bls (s : S) (l : V) : S := if blw l = true then { s with bl := lenv (fv l 80) s.un } else s
def wde (s : S) (l : V) : Int := if fde s l ≠ 0 then fde s l else if nue l ≠ 0 then nue l else ble s l
def wds (s : S) (l : V) : S := bls (nus (fds s l) l) l
def ape (s : S) (l : V) : Int := if chk l ≠ 0 then chk l else wde (codes s l) l
def lod (s : S) (l : V) : S := if has l 77 6 = true then { s with lo := s.tl } else s
def aps (s : S) (l : V) : S := if ape s l = 0 then lod (wds (codes s l) l) l else S.zero

end Go.Proofs.YtnjcbgnghfppoaaDoor.Md

/- Plain facts about modal groups: the state as the specification reckons it. -/
set_option linter.unusedVariables false
set_option linter.unusedSimpArgs false
namespace Go.Proofs.YtnjcbgnghfppoaaDoor.Md

/-- The same, field by field. -/
def wgf (s : S) (g c : Int) : S :=
  { mo := if g = 1 then c else s.mo, pl := if g = 2 then c else s.pl, di := if g = 3 then c else s.di, un := if g = 4 then c else s.un, fe := if g = 5 then c else s.fe, cu := if g = 6 then c else s.cu, le := if g = 7 then c else s.le, re := if g = 8 then c else s.re, sy := if g = 9 then c else s.sy, pa := if g = 10 then c else s.pa, po := if g = 11 then c else s.po, tu := if g = 12 then c else s.tu, sp := if g = 22 then c else s.sp, mi := if g = 24 then (wcl s c).mi else s.mi, fl := if g = 24 then (wcl s c).fl else s.fl, bl := if g = 10 then 0 else s.bl, fd := s.fd, se := s.se, tl := s.tl, lo := s.lo, h := if g = 7 ∧ c = 49 then 0 else s.h, d := if g = 6 ∧ c = 40 then 0 else s.d }
theorem wcl_keep (s : S) (c : Int) : wcl s c = { s with mi := (wcl s c).mi, fl := (wcl s c).fl } := by
  unfold wcl
  by_cases h7 : c = 7
  · rw [if_pos h7]
  · by_cases h8 : c = 8
    · rw [if_neg h7, if_pos h8]
    · by_cases h9 : c = 9
      · rw [if_neg h7, if_neg h8, if_pos h9]
      · rw [if_neg h7, if_neg h8, if_neg h9]
set_option maxRecDepth 100000 in
theorem wgf_eq (s : S) (g c : Int) : wgc s g c = wgf s g c := by
  by_cases h1 : g = 1
  · subst h1; rfl
  by_cases h2 : g = 2
  · subst h2; rfl
  by_cases h3 : g = 3
  · subst h3; rfl
  by_cases h4 : g = 4
  · subst h4; rfl
  by_cases h5 : g = 5
  · subst h5; rfl
  by_cases h6 : g = 6
  · subst h6
    by_cases hc : c = 40
    · subst hc; rfl
    · show (if c = 40 then _ else _) = _
      rw [if_neg hc]; unfold wgf; rw [if_neg (show ¬ ((6 : Int) = 6 ∧ c = 40) from fun h => hc h.2)]; rfl
  by_cases h7 : g = 7
  · subst h7
    by_cases hc : c = 49
    · subst hc; rfl
    · show (if c = 49 then _ else _) = _
      rw [if_neg hc]; unfold wgf; rw [if_neg (show ¬ ((7 : Int) = 7 ∧ c = 49) from fun h => hc h.2)]; rfl
  by_cases h8 : g = 8
  · subst h8; rfl
  by_cases h9 : g = 9
  · subst h9; rfl
  by_cases h10 : g = 10
  · subst h10; rfl
  by_cases h11 : g = 11
  · subst h11; rfl
  by_cases h12 : g = 12
  · subst h12; rfl
  by_cases h22 : g = 22
  · subst h22; rfl
  by_cases h24 : g = 24
  · subst h24
    exact wcl_keep s c
  unfold wgc wgf
  simp only [if_neg h1, if_neg h2, if_neg h3, if_neg h4, if_neg h5, if_neg h6, if_neg h7, if_neg h8, if_neg h9, if_neg h10, if_neg h11, if_neg h12, if_neg h22, if_neg h24, if_neg (show ¬ (g = 7 ∧ c = 49) from fun h => h7 h.1), if_neg (show ¬ (g = 6 ∧ c = 40) from fun h => h6 h.1)]

theorem hg_cons (p : Int × Int) (l : V) (g : Int) : hg (p :: l) g = (decide (gof p = g) || hg l g) := rfl
theorem hgS (l : V) (p : Int × Int) (g : Int) : hg (l ++ [p]) g = (hg l g || decide (gof p = g)) := by
  unfold hg
  rw [List.any_append]
  simp
theorem chf_cons {pre l : V} {p : Int × Int} (h : chf pre (p :: l) = 0) : cke pre p = 0 ∧ chf (pre ++ [p]) l = 0 := by
  unfold chf at h
  split at h
  · rename_i k; exact absurd h k
  · rename_i k; exact ⟨by omega, h⟩
theorem gof_gm {p : Int × Int} (h : gof p ≠ 0) : p.1 = 71 ∨ p.1 = 77 := (grp_pos (l := p.1) (c := wholev p.2) (by rw [← (gof_pos h).2.1]; exact h)).2.2
theorem cke_gof {pre : V} {p : Int × Int} (h : cke pre p = 0) (hg0 : gof p ≠ 0) : hg pre (gof p) = false := by
  unfold cke at h
  have k := gof_gm hg0
  split at h
  · cases h
  · split at h
    · cases h
    · split at h
      · cases h
      · rename_i e; simpa using e
/-- A group comes up once. -/
theorem uq {pre l : V} (h : chf pre l = 0) {g : Int} (hg0 : g ≠ 0) (hp : hg pre g = true) : hg l g = false := by
  induction l generalizing pre with
  | nil => rfl
  | cons p l ih =>
    obtain ⟨h1, h2⟩ := chf_cons h
    rw [hg_cons, ih h2 (by rw [hgS, hp]; rfl), Bool.or_false]
    by_cases e : gof p = g
    · have := cke_gof h1 (by omega)
      rw [e, hp] at this
      cases this
    · simpa using e
theorem uq_next {pre l : V} {p : Int × Int} (h : chf pre (p :: l) = 0) {g : Int} (hg0 : g ≠ 0) (e : gof p = g) : hg l g = false :=
  uq (chf_cons h).2 hg0 (by rw [hgS, e]; simp)
theorem gcd_no {l : V} {g : Int} (h : hg l g = false) : gcd l g = -1 := by
  induction l with
  | nil => rfl
  | cons p l ih =>
    rw [hg_cons, Bool.or_eq_false_iff] at h
    rw [gcd_cons, if_neg (of_decide_eq_false h.1), ih h.2]
theorem gcd_at {l : V} {g : Int} (h : hg l g = true) : ∃ p ∈ l, gof p = g ∧ gcd l g = cv p := by
  induction l with
  | nil => cases h
  | cons p l ih =>
    rw [gcd_cons]
    by_cases e : gof p = g
    · exact ⟨p, List.mem_cons_self .., e, if_pos e⟩
    · rw [hg_cons, decide_eq_false e, Bool.false_or] at h
      obtain ⟨q, h1, h2, h3⟩ := ih h
      exact ⟨q, List.mem_cons_of_mem _ h1, h2, by rw [if_neg e, h3]⟩

/-- What stands for a field behind the codes. -/
def cdv (l : V) (g was : Int) : Int := if 0 ≤ gcd l g then gcd l g else was
theorem codes_field (f : S → Int) (g : Int) (hg0 : g ≠ 0) (h1 : ∀ s p, gof p = g → f (wcs s p) = cv p) (h2 : ∀ s p, gof p ≠ g → f (wcs s p) = f s) {pre l : V} (h : chf pre l = 0) (s : S) : f (codes s l) = cdv l g (f s) := by
  induction l generalizing pre s with
  | nil => show f s = if 0 ≤ (-1 : Int) then _ else _; rw [if_neg (by decide)]
  | cons p l ih =>
    have k : codes s (p :: l) = codes (wcs s p) l := rfl
    rw [k, ih (chf_cons h).2]
    unfold cdv
    rw [gcd_cons]
    by_cases e : gof p = g
    · rw [if_pos e, gcd_no (uq_next h hg0 e), if_neg (by decide), h1 s p e, if_pos (gof_pos (p := p) (by omega)).2.2.1]
    · rw [if_neg e, h2 s p e]
/-- A field that codes leave alone. -/
theorem codes_same {α : Type} (f : S → α) (h : ∀ s p, f (wcs s p) = f s) (l : V) (s : S) : f (codes s l) = f s := by
  induction l generalizing s with
  | nil => rfl
  | cons p l ih => exact (ih (wcs s p)).trans (h s p)
/-- A field that one code clears. -/
theorem codes_clear (f : S → Int) (g c : Int) (h : ∀ s p, f (wcs s p) = if gof p = g ∧ cv p = c then 0 else f s) (l : V) (s : S) : f (codes s l) = if (l.any fun p => decide (gof p = g) && decide (cv p = c)) = true then 0 else f s := by
  induction l generalizing s with
  | nil => rfl
  | cons p l ih =>
    have k : codes s (p :: l) = codes (wcs s p) l := rfl
    rw [k, ih, h, List.any_cons]
    by_cases e : gof p = g ∧ cv p = c
    · rw [if_pos e, decide_eq_true e.1, decide_eq_true e.2]; simp
    · rw [if_neg e]
      have : (decide (gof p = g) && decide (cv p = c)) = false := by simpa using e
      rw [this, Bool.false_or]
theorem codes_clear2 (f : S → Int) (g : Int) (h : ∀ s p, f (wcs s p) = if gof p = g then 0 else f s) (l : V) (s : S) : f (codes s l) = if hg l g = true then 0 else f s := by
  induction l generalizing s with
  | nil => rfl
  | cons p l ih =>
    have k : codes s (p :: l) = codes (wcs s p) l := rfl
    rw [k, ih, h, hg_cons]
    by_cases e : gof p = g
    · rw [if_pos e, decide_eq_true e]; simp
    · rw [if_neg e, decide_eq_false e, Bool.false_or]

/-- A code of a block is that of its group. -/
theorem has_any (l : V) (lt c g : Int) (hlt : lt = 71 ∨ lt = 77) (hgr : grp lt c = g) (hg0 : g ≠ 0) (huq : ∀ x, (x = 71 ∨ x = 77) → grp x c = g → x = lt) : has l lt c = l.any fun p => decide (gof p = g) && decide (cv p = c) := by
  unfold has
  have q : (fun p => isC p && decide (p.1 = lt) && decide (cv p = c)) = fun p => decide (gof p = g) && decide (cv p = c) := by
    funext p
    rw [Bool.eq_iff_iff]
    simp only [Bool.and_eq_true, decide_eq_true_eq]
    constructor
    · rintro ⟨⟨h1, h2⟩, h3⟩
      refine ⟨?_, h3⟩
      unfold gof
      unfold cv at h3
      rw [if_pos h1] at h3 ⊢
      rw [h2, h3]; exact hgr
    · rintro ⟨h1, h3⟩
      have k := gof_pos (p := p) (by omega)
      have m := gof_gm (p := p) (by omega)
      have e : cv p = wholev p.2 := by unfold cv; rw [if_pos k.1]
      refine ⟨⟨k.1, huq _ m ?_⟩, h3⟩
      rw [← h1, k.2.1, ← e, h3]
  rw [q]
theorem any_gcd {pre l : V} (h : chf pre l = 0) (g c : Int) (hg0 : g ≠ 0) (hc : 0 ≤ c) : (l.any fun p => decide (gof p = g) && decide (cv p = c)) = decide (gcd l g = c) := by
  induction l generalizing pre with
  | nil => show false = decide ((-1 : Int) = c); rw [decide_eq_false (by omega)]
  | cons p l ih =>
    rw [List.any_cons, gcd_cons, ih (chf_cons h).2]
    by_cases e : gof p = g
    · rw [if_pos e, gcd_no (uq_next h hg0 e), decide_eq_true e, Bool.true_and, decide_eq_false (show ¬ (-1 : Int) = c by omega), Bool.or_false]
    · rw [if_neg e, decide_eq_false e, Bool.false_and, Bool.false_or]
theorem has_G {l : V} (h : chk l = 0) (c g : Int) (hgr : grpG c = g) (hg0 : g ≠ 0) (hc : 0 ≤ c) (h14 : g ≤ 14) : has l 71 c = decide (gcd l g = c) := by
  rw [has_any l 71 c g (.inl rfl) (by unfold grp; rw [if_pos rfl]; exact hgr) hg0 (fun x hx e => by
    rcases hx with rfl | rfl
    · rfl
    · unfold grp at e
      rw [if_neg (by decide), if_pos rfl] at e
      have := grpM_bd c; omega)]
  exact any_gcd h g c hg0 hc
theorem has_M {l : V} (h : chk l = 0) (c g : Int) (hgr : grpM c = g) (hg0 : 21 ≤ g) (hc : 0 ≤ c) : has l 77 c = decide (gcd l g = c) := by
  rw [has_any l 77 c g (.inr rfl) (by unfold grp; rw [if_neg (by decide), if_pos rfl]; exact hgr) (by omega) (fun x hx e => by
    rcases hx with rfl | rfl
    · unfold grp at e
      rw [if_pos rfl] at e
      have := grpG_bd c; omega
    · rfl)]
  exact any_gcd h g c (by omega) hc

theorem codes_mi {pre l : V} (h : chf pre l = 0) (s : S) : (codes s l).mi = ((s.mi || decide (gcd l 24 = 7)) && !decide (gcd l 24 = 9)) := by
  induction l generalizing pre s with
  | nil => show s.mi = ((s.mi || decide ((-1 : Int) = 7)) && !decide ((-1 : Int) = 9)); simp
  | cons p l ih =>
    have k : codes s (p :: l) = codes (wcs s p) l := rfl
    rw [k, ih (chf_cons h).2, gcd_cons]
    by_cases e : gof p = 24
    · rw [if_pos e, gcd_no (uq_next h (by decide) e)]
      have : (wcs s p).mi = (wcl s (cv p)).mi := by unfold wcs wgc; rw [e]; rfl
      rw [this]
      unfold wcl
      by_cases h7 : cv p = 7
      · rw [if_pos h7, h7]; simp
      · rw [if_neg h7]
        by_cases h8 : cv p = 8
        · rw [if_pos h8, h8]; simp
        · rw [if_neg h8]
          by_cases h9 : cv p = 9
          · rw [if_pos h9, h9]; simp
          · rw [if_neg h9]; simp [h7, h9]
    · rw [if_neg e]
      have : (wcs s p).mi = s.mi := by
        rw [show wcs s p = wgf s (gof p) (cv p) from wgf_eq s (gof p) (cv p)]
        exact if_neg e
      rw [this]
theorem codes_fl {pre l : V} (h : chf pre l = 0) (s : S) : (codes s l).fl = ((s.fl || decide (gcd l 24 = 8)) && !decide (gcd l 24 = 9)) := by
  induction l generalizing pre s with
  | nil => show s.fl = ((s.fl || decide ((-1 : Int) = 8)) && !decide ((-1 : Int) = 9)); simp
  | cons p l ih =>
    have k : codes s (p :: l) = codes (wcs s p) l := rfl
    rw [k, ih (chf_cons h).2, gcd_cons]
    by_cases e : gof p = 24
    · rw [if_pos e, gcd_no (uq_next h (by decide) e)]
      have : (wcs s p).fl = (wcl s (cv p)).fl := by unfold wcs wgc; rw [e]; rfl
      rw [this]
      unfold wcl
      by_cases h7 : cv p = 7
      · rw [if_pos h7, h7]; simp
      · rw [if_neg h7]
        by_cases h8 : cv p = 8
        · rw [if_pos h8, h8]; simp
        · rw [if_neg h8]
          by_cases h9 : cv p = 9
          · rw [if_pos h9, h9]; simp
          · rw [if_neg h9]; simp [h8, h9]
    · rw [if_neg e]
      have : (wcs s p).fl = s.fl := by
        rw [show wcs s p = wgf s (gof p) (cv p) from wgf_eq s (gof p) (cv p)]
        exact if_neg e
      rw [this]

/-- The state as the specification reckons it. -/
def rfs (s : S) (l : V) : S :=
  { mo := cdv l 1 s.mo, pl := cdv l 2 s.pl, di := cdv l 3 s.di, un := cdv l 4 s.un, fe := cdv l 5 s.fe, cu := cdv l 6 s.cu, le := cdv l 7 s.le, re := cdv l 8 s.re, sy := cdv l 9 s.sy, pa := cdv l 10 s.pa, po := cdv l 11 s.po, tu := cdv l 12 s.tu, sp := cdv l 22 s.sp,
    mi := (s.mi || has l 77 7) && !has l 77 9, fl := (s.fl || has l 77 8) && !has l 77 9,
    bl := if has l 71 61 = true then 0 else if has l 71 64 = true then (if fo l 80 = true then lenv (fv l 80) (cdv l 4 s.un) else 0) else s.bl,
    fd := if fo l 70 = true then rev (fv l 70) (cdv l 4 s.un) else s.fd, se := nst l 83 s.se, tl := nst l 84 s.tl, lo := if has l 77 6 = true then nst l 84 s.tl else s.lo,
    h := if (has l 71 49 && !fo l 72) = true then 0 else nst l 72 s.h, d := if (has l 71 40 && !fo l 68) = true then 0 else nst l 68 s.d }

theorem S.ext' {a b : S} (h1 : a.mo = b.mo) (h2 : a.pl = b.pl) (h3 : a.di = b.di) (h4 : a.un = b.un) (h5 : a.fe = b.fe) (h6 : a.cu = b.cu) (h7 : a.le = b.le) (h8 : a.re = b.re) (h9 : a.sy = b.sy) (h10 : a.pa = b.pa) (h11 : a.po = b.po) (h12 : a.tu = b.tu) (h13 : a.sp = b.sp)
    (h14 : a.mi = b.mi) (h15 : a.fl = b.fl) (h16 : a.bl = b.bl) (h17 : a.fd = b.fd) (h18 : a.se = b.se) (h19 : a.tl = b.tl) (h20 : a.lo = b.lo) (h21 : a.h = b.h) (h22 : a.d = b.d) : a = b := by
  cases a; cases b; simp only at *; subst h1 h2 h3 h4 h5 h6 h7 h8 h9 h10 h11 h12 h13 h14 h15 h16 h17 h18 h19 h20 h21 h22; rfl
theorem wds_keep (s : S) (l : V) : (wds s l).mo = s.mo ∧ (wds s l).pl = s.pl ∧ (wds s l).di = s.di ∧ (wds s l).un = s.un ∧ (wds s l).fe = s.fe ∧ (wds s l).cu = s.cu ∧ (wds s l).le = s.le ∧ (wds s l).re = s.re ∧ (wds s l).sy = s.sy ∧ (wds s l).pa = s.pa ∧ (wds s l).po = s.po ∧ (wds s l).tu = s.tu ∧ (wds s l).sp = s.sp ∧ (wds s l).mi = s.mi ∧ (wds s l).fl = s.fl ∧ (wds s l).lo = s.lo := by
  unfold wds bls nus fds
  cases blw l <;> cases fo l 70 <;> exact ⟨rfl, rfl, rfl, rfl, rfl, rfl, rfl, rfl, rfl, rfl, rfl, rfl, rfl, rfl, rfl, rfl⟩
theorem wds_words (s : S) (l : V) : (wds s l).bl = (if blw l = true then lenv (fv l 80) s.un else s.bl) ∧ (wds s l).fd = (if fo l 70 = true then rev (fv l 70) s.un else s.fd) ∧ (wds s l).se = nst l 83 s.se ∧ (wds s l).tl = nst l 84 s.tl ∧ (wds s l).h = nst l 72 s.h ∧ (wds s l).d = nst l 68 s.d := by
  unfold wds bls nus fds
  cases blw l <;> cases fo l 70 <;> exact ⟨rfl, rfl, rfl, rfl, rfl, rfl⟩
theorem lod_all (s : S) (l : V) : (lod s l) = { s with lo := if has l 77 6 = true then s.tl else s.lo } := by
  unfold lod
  cases has l 77 6 <;> rfl
theorem nst_nst (l : V) (c a b : Int) (x : Bool) : nst l c (if x = true then a else b) = if x = true then nst l c a else nst l c b := by cases x <;> rfl

theorem same_rfs {l : V} (hk : chk l = 0) (s : S) : lod (wds (codes s l) l) l = rfs s l := by
  have F := fun (f : S → Int) g h0 h1 h2 => codes_field f g h0 h1 h2 (show chf [] l = 0 from hk) s
  have W : ∀ (s : S) (p : Int × Int), wcs s p = wgf s (gof p) (cv p) := fun s p => wgf_eq s (gof p) (cv p)
  have fmo : (codes s l).mo = cdv l 1 s.mo := F (·.mo) 1 (by decide) (fun s p e => by rw [W, e]; rfl) (fun s p e => by rw [W]; exact if_neg e)
  have fpl : (codes s l).pl = cdv l 2 s.pl := F (·.pl) 2 (by decide) (fun s p e => by rw [W, e]; rfl) (fun s p e => by rw [W]; exact if_neg e)
  have fdi : (codes s l).di = cdv l 3 s.di := F (·.di) 3 (by decide) (fun s p e => by rw [W, e]; rfl) (fun s p e => by rw [W]; exact if_neg e)
  have fun_ : (codes s l).un = cdv l 4 s.un := F (·.un) 4 (by decide) (fun s p e => by rw [W, e]; rfl) (fun s p e => by rw [W]; exact if_neg e)
  have ffe : (codes s l).fe = cdv l 5 s.fe := F (·.fe) 5 (by decide) (fun s p e => by rw [W, e]; rfl) (fun s p e => by rw [W]; exact if_neg e)
  have fcu : (codes s l).cu = cdv l 6 s.cu := F (·.cu) 6 (by decide) (fun s p e => by rw [W, e]; rfl) (fun s p e => by rw [W]; exact if_neg e)
  have fle : (codes s l).le = cdv l 7 s.le := F (·.le) 7 (by decide) (fun s p e => by rw [W, e]; rfl) (fun s p e => by rw [W]; exact if_neg e)
  have fre : (codes s l).re = cdv l 8 s.re := F (·.re) 8 (by decide) (fun s p e => by rw [W, e]; rfl) (fun s p e => by rw [W]; exact if_neg e)
  have fsy : (codes s l).sy = cdv l 9 s.sy := F (·.sy) 9 (by decide) (fun s p e => by rw [W, e]; rfl) (fun s p e => by rw [W]; exact if_neg e)
  have fpa : (codes s l).pa = cdv l 10 s.pa := F (·.pa) 10 (by decide) (fun s p e => by rw [W, e]; rfl) (fun s p e => by rw [W]; exact if_neg e)
  have fpo : (codes s l).po = cdv l 11 s.po := F (·.po) 11 (by decide) (fun s p e => by rw [W, e]; rfl) (fun s p e => by rw [W]; exact if_neg e)
  have ftu : (codes s l).tu = cdv l 12 s.tu := F (·.tu) 12 (by decide) (fun s p e => by rw [W, e]; rfl) (fun s p e => by rw [W]; exact if_neg e)
  have fsp : (codes s l).sp = cdv l 22 s.sp := F (·.sp) 22 (by decide) (fun s p e => by rw [W, e]; rfl) (fun s p e => by rw [W]; exact if_neg e)
  have fse : (codes s l).se = s.se := codes_same (·.se) (fun s p => by rw [W]; rfl) l s
  have ftl : (codes s l).tl = s.tl := codes_same (·.tl) (fun s p => by rw [W]; rfl) l s
  have flo : (codes s l).lo = s.lo := codes_same (·.lo) (fun s p => by rw [W]; rfl) l s
  have ffd : (codes s l).fd = s.fd := codes_same (·.fd) (fun s p => by rw [W]; rfl) l s
  have fbl : (codes s l).bl = if hg l 10 = true then 0 else s.bl := codes_clear2 (·.bl) 10 (fun s p => by rw [W]; rfl) l s
  have fd' : (codes s l).d = if (l.any fun p => decide (gof p = 6) && decide (cv p = 40)) = true then 0 else s.d := codes_clear (·.d) 6 40 (fun s p => by rw [W]; rfl) l s
  have fh' : (codes s l).h = if (l.any fun p => decide (gof p = 7) && decide (cv p = 49)) = true then 0 else s.h := codes_clear (·.h) 7 49 (fun s p => by rw [W]; rfl) l s
  have fmi := codes_mi (show chf [] l = 0 from hk) s
  have ffl := codes_fl (show chf [] l = 0 from hk) s
  have H61 := has_G hk 61 10 (by decide) (by decide) (by decide) (by decide)
  have H64 := has_G hk 64 10 (by decide) (by decide) (by decide) (by decide)
  have H40 := has_G hk 40 6 (by decide) (by decide) (by decide) (by decide)
  have H49 := has_G hk 49 7 (by decide) (by decide) (by decide) (by decide)
  have H7 := has_M hk 7 24 (by decide) (by decide) (by decide)
  have H8 := has_M hk 8 24 (by decide) (by decide) (by decide)
  have H9 := has_M hk 9 24 (by decide) (by decide) (by decide)
  have A40 := any_gcd (show chf [] l = 0 from hk) 6 40 (by decide) (by decide)
  have A49 := any_gcd (show chf [] l = 0 from hk) 7 49 (by decide) (by decide)
  obtain ⟨k1, k2, k3, k4, k5, k6, k7, k8, k9, k10, k11, k12, k13, k14, k15, k16⟩ := wds_keep (codes s l) l
  obtain ⟨m1, m2, m3, m4, m5, m6⟩ := wds_words (codes s l) l
  have G10 : hg l 10 = true → gcd l 10 = 61 ∨ gcd l 10 = 64 := fun h => by
    obtain ⟨p, _, e1, e2⟩ := gcd_at h
    have k := gof_pos (p := p) (by omega)
    have hc : cv p = wholev p.2 := by unfold cv; rw [if_pos k.1]
    have g := k.2.1
    rw [e1, ← hc] at g
    rw [e2]
    have q : cv p ∈ allG := by
      refine Classical.byContradiction fun hn => ?_
      unfold grp at g
      rw [grpG_no hn] at g
      have := grpM_bd (cv p)
      split at g
      · omega
      · split at g <;> omega
    have all : ∀ c ∈ allG, grpG c = 10 → c = 61 ∨ c = 64 := by decide +kernel
    refine all _ q ?_
    unfold grp at g
    have := grpM_bd (cv p)
    split at g
    · exact g.symm
    · split at g <;> omega
  rw [lod_all]
  refine S.ext' (k1.trans fmo) (k2.trans fpl) (k3.trans fdi) (k4.trans fun_) (k5.trans ffe) (k6.trans fcu) (k7.trans fle) (k8.trans fre) (k9.trans fsy) (k10.trans fpa) (k11.trans fpo) (k12.trans ftu) (k13.trans fsp) ?_ ?_ ?_ ?_ (m3.trans (by rw [fse]; rfl)) (m4.trans (by rw [ftl]; rfl)) ?_ ?_ ?_
  · show (wds (codes s l) l).mi = ((s.mi || has l 77 7) && !has l 77 9)
    rw [k14, fmi, H7, H9]
  · show (wds (codes s l) l).fl = ((s.fl || has l 77 8) && !has l 77 9)
    rw [k15, ffl, H8, H9]
  · show (wds (codes s l) l).bl = if has l 71 61 = true then 0 else if has l 71 64 = true then (if fo l 80 = true then lenv (fv l 80) (cdv l 4 s.un) else 0) else s.bl
    rw [m1, fbl, fun_]
    unfold blw
    rw [H61, H64]
    cases h10 : hg l 10
    · rw [gcd_no h10]
      simp
    · rcases G10 h10 with e | e
      · rw [e]; simp
      · rw [e]; cases fo l 80 <;> simp
  · show (wds (codes s l) l).fd = if fo l 70 = true then rev (fv l 70) (cdv l 4 s.un) else s.fd
    rw [m2, fun_, ffd]
  · show (if has l 77 6 = true then (wds (codes s l) l).tl else (wds (codes s l) l).lo) = if has l 77 6 = true then nst l 84 s.tl else s.lo
    rw [m4, ftl, k16, flo]
  · show (wds (codes s l) l).h = if (has l 71 49 && !fo l 72) = true then 0 else nst l 72 s.h
    rw [m5, fh', A49, H49]
    unfold nst
    cases decide (gcd l 7 = 49) <;> cases fo l 72 <;> simp
  · show (wds (codes s l) l).d = if (has l 71 40 && !fo l 68) = true then 0 else nst l 68 s.d
    rw [m6, fd', A40, H40]
    unfold nst
    cases decide (gcd l 6 = 40) <;> cases fo l 68 <;> simp
theorem codes_un {l : V} (hk : chk l = 0) (s : S) : (codes s l).un = cdv l 4 s.un :=
  codes_field (·.un) 4 (by decide) (fun s p e => by rw [show wcs s p = wgf s (gof p) (cv p) from wgf_eq s (gof p) (cv p), e]; rfl) (fun s p e => by rw [show wcs s p = wgf s (gof p) (cv p) from wgf_eq s (gof p) (cv p)]; exact if_neg e) (show chf [] l = 0 from hk) s

end Go.Proofs.YtnjcbgnghfppoaaDoor.Md

/- The walks of package modal: groups, codes, Has, Find, Rate. -/
set_option linter.unusedVariables false
set_option linter.unusedSimpArgs false
namespace Go.Proofs.YtnjcbgnghfppoaaDoor
open Go.RowKit

theorem md_code (x y : Int) : Md.cv (x, y) = (if x = 71 ∨ x = 77 then wholev y else 0) ∧ Md.isC (x, y) = (if x = 71 ∨ x = 77 then whole y else false) := by
  unfold Md.cv Md.isC
  by_cases h : x = 71 ∨ x = 77
  · have e : (decide (x = 71) || decide (x = 77)) = true := by simpa using h
    simp only [e, Bool.true_and, if_pos h, and_true]
    by_cases k : whole y = true
    · rw [if_pos k]
    · rw [if_neg k]; unfold wholev; rw [if_neg k]
  · have e : (decide (x = 71) || decide (x = 77)) = false := by simpa using h
    simp only [e, Bool.false_and, if_neg h, and_true]
    rfl
theorem ret_in {a b : Int} (h : a = b) : Ending.returned (.int .i64 a) = .returned (.int .i64 b) := by rw [h]
/-! ### Has and Find -/
theorem v_drop (l : Vs.Ar) (i : Nat) (h : i < l.length) : l.drop i = (Vs.ltr l i, Vs.num l i) :: l.drop (i + 1) := by
  rw [List.drop_eq_getElem_cons h]
  unfold Vs.ltr Vs.num
  rw [List.getD_eq_getElem?_getD, List.getElem?_eq_getElem h]
  rfl
theorem v_take (l : Vs.Ar) (i : Nat) (h : i < l.length) : l.take (i + 1) = l.take i ++ [(Vs.ltr l i, Vs.num l i)] := by
  rw [List.take_succ_eq_append_getElem h]
  unfold Vs.ltr Vs.num
  rw [List.getD_eq_getElem?_getD, List.getElem?_eq_getElem h]
  rfl
theorem v_at (l : Vs.Ar) (i : Nat) (h : i < l.length) : l[i] = (Vs.ltr l i, Vs.num l i) := by
  unfold Vs.ltr Vs.num
  rw [List.getD_eq_getElem?_getD, List.getElem?_eq_getElem h]
  rfl
theorem has_cons (p : Int × Int) (l : Vs.Ar) (c k : Int) : Md.has (p :: l) c k = ((Md.isC p && decide (p.1 = c) && decide (Md.cv p = k)) || Md.has l c k) := rfl
theorem fo_cons (p : Int × Int) (l : Vs.Ar) (c : Int) : Md.fo (p :: l) c = (decide (p.1 = c) || Md.fo l c) ∧ Md.fv (p :: l) c = if p.1 = c then p.2 else Md.fv l c := by
  unfold Md.fo Md.fv
  rw [Md.fnd_cons]
  by_cases h : p.1 = c
  · rw [if_pos h, if_pos h, decide_eq_true h]; exact ⟨rfl, rfl⟩
  · rw [if_neg h, if_neg h, decide_eq_false h]; exact ⟨rfl, rfl⟩
theorem ret_ib2 {a b : Int} {c d : Bool} (h : a = b) (g : c = d) : Ending.returned (.tuple #[.int .i64 a, .bool c]) = .returned (.tuple #[.int .i64 b, .bool d]) := by rw [h, g]
set_option maxRecDepth 100000 in
set_option maxHeartbeats 1000000 in
theorem mdFind {C : Nat} {w : World} {v : Value} {l : Vs.Ar} (h : ValsB C w v l) (hC : C ≤ w.heap.size) (c : Int) :
    Calls Tryd.prog 83 #[v, .int .i64 c] w fun e w' => e = .returned (.tuple #[.int .i64 (Md.fv l c), .bool (Md.fo l c)]) ∧ Qw w w' := by
  obtain ⟨a, cap, rfl, l1, l2, hA⟩ := h
  have HA := Lib.hid hA
  clear hA
  go_enter Tryd.func83, Tryd.ntmps83
  go_wp2
  go_loopw [10] (fun iv wr => ∃ i : Nat, i ≤ l.length ∧ iv = .int .i64 (i : Int) ∧ Hid (Md.fo l c = Md.fo (l.drop i) c ∧ Md.fv l c = Md.fv (l.drop i) c) ∧ Hid (Qw w wr)) (fun iv _ => l.length - (intOf iv).toNat)
  case atStart => exact ⟨0, by omega, rfl, Lib.hid ⟨rfl, rfl⟩, Lib.hid (Qw.refl w)⟩
  case round =>
    obtain ⟨i, hi, rfl, HE, HQ⟩ := hrel
    by_cases hlt : i < l.length
    · rcases HA.out with hn | ⟨b, off, rfl, hb, hc⟩
      · rw [hn] at hlt; simp at hlt
      · obtain ⟨c0, c1, _, _⟩ := hc i hlt
        have d0 := (HQ.out.cell (p := ⟨b, off + i * 2, none⟩) (by show b < w.heap.size; omega)).trans c0
        have d1 := (HQ.out.cell (p := ⟨b, off + i * 2 + 1, none⟩) (by show b < w.heap.size; omega)).trans c1
        have hD := v_drop l i hlt
        have hE := HE.out
        rw [hD, (fo_cons _ _ _).1, (fo_cons _ _ _).2] at hE
        generalize Vs.ltr l i = x at *
        generalize Vs.num l i = y at *
        simp only at hE
        have HE2 := Lib.hid hE
        have hl1 : (i : Int) < (l.length : Int) := by omega
        clear hc c0 c1 hD hE HE
        have fin : ∀ (wz : World), Qw wr wz → Hid (Qw w wz) := fun wz q => Lib.hid (HQ.out.trans q)
        have FIN := Lib.hid fin
        clear fin
        by_cases hxc : x = c
        · subst hxc
          have EE : Hid (Md.fo l x = true ∧ Md.fv l x = y) := Lib.hid ⟨HE2.out.1.trans (by simp), HE2.out.2.trans (by simp)⟩
          go_wp2
          go_ret2
          exact ⟨ret_ib2 EE.out.2.symm EE.out.1.symm, (FIN.out _ (Qw.al (Qw.refl wr) _)).out⟩
        · have z2 : (x == c) = false := beq_eq_false_iff_ne.2 hxc
          have HE3 : Hid (Md.fo l c = Md.fo (l.drop (i + 1)) c ∧ Md.fv l c = Md.fv (l.drop (i + 1)) c) := Lib.hid ⟨HE2.out.1.trans (by simp [hxc]), HE2.out.2.trans (by simp [hxc])⟩
          clear hxc
          go_wp2
          go_roundw
          case rel => exact ⟨i + 1, by omega, by go_num, HE3, FIN.out _ (Qw.al (Qw.refl wr) _)⟩
          case measure => simp [intOf]; omega
    · obtain rfl : i = l.length := by omega
      have EE : Hid (Md.fo l c = false ∧ Md.fv l c = 0) := Lib.hid ⟨HE.out.1.trans (by rw [List.drop_length]; rfl), HE.out.2.trans (by rw [List.drop_length]; rfl)⟩
      go_wp2
      go_ret2
      exact ⟨ret_ib2 EE.out.2.symm EE.out.1.symm, HQ.out⟩

/-! ### feed rates -/
end Go.Proofs.YtnjcbgnghfppoaaDoor

/- The walk of package modal's Check. -/
set_option linter.unusedVariables false
set_option linter.unusedSimpArgs false
namespace Go.Proofs.YtnjcbgnghfppoaaDoor
open Go.RowKit

theorem hg_snoc (l : Vs.Ar) (p : Int × Int) (g : Int) : Md.hg (l ++ [p]) g = (Md.hg l g || decide (Md.gof p = g)) := by
  unfold Md.hg
  rw [List.any_append]
  simp
theorem fo_any (l : Vs.Ar) (c : Int) : Md.fo l c = l.any fun p => decide (p.1 = c) := by
  induction l with
  | nil => rfl
  | cons p l ih => rw [(fo_cons p l c).1, List.any_cons, ih]
theorem fo_snoc (l : Vs.Ar) (p : Int × Int) (c : Int) : Md.fo (l ++ [p]) c = (Md.fo l c || decide (p.1 = c)) := by
  rw [fo_any, fo_any, List.any_append]
  simp

/-- What is marked. -/
def gmk (l : Vs.Ar) (i : Nat) : Bool := decide (i ≠ 0) && Md.hg l i
def lmk (l : Vs.Ar) (i : Nat) : Bool := decide (i ≠ 71 ∧ i ≠ 77) && Md.fo l i
def cmk (l : Vs.Ar) (i : Nat) : Bool := if i < 26 then gmk l i else lmk l (i - 26)
def cnt (l : Vs.Ar) : Array Value := ((List.range 117).map fun i => Value.bool (cmk l i)).toArray
theorem cnt_at (l : Vs.Ar) {i : Nat} (h : i < 117) : (cnt l)[i]? = some (.bool (cmk l i)) := by simp [cnt, h]
theorem cnt_set (l : Vs.Ar) (p : Int × Int) (i : Nat) (h : ∀ j, j < 117 → cmk (l ++ [p]) j = if j = i then true else cmk l j) : (cnt l).setIfInBounds i (.bool true) = cnt (l ++ [p]) := by
  apply Array.ext'
  unfold cnt
  rw [Array.toList_setIfInBounds]
  apply List.ext_getElem?
  intro j
  rw [List.getElem?_set]
  by_cases hj : j < 117
  · by_cases e : i = j
    · subst e
      simp [hj, h i hj]
    · have e2 : ¬ j = i := fun h => e h.symm
      simp [hj, h j hj, e, e2]
  · by_cases e : i = j
    · subst e
      simp [hj]
    · simp [hj, e]
theorem cnt_setg (l : Vs.Ar) (p : Int × Int) {G : Nat} (h : Md.gof p = G) (h0 : G ≠ 0) (h1 : G ≤ 25) (hx : p.1 = 71 ∨ p.1 = 77) : (cnt l).setIfInBounds G (.bool true) = cnt (l ++ [p]) := by
  refine cnt_set l p G fun j hj => ?_
  unfold cmk
  by_cases k : j < 26
  · rw [if_pos k, if_pos k]
    unfold gmk
    rw [hg_snoc, h]
    by_cases e : j = G
    · subst e; simp [h0]
    · have : ¬ ((G : Int) = j) := by omega
      simp [e, this]
  · rw [if_neg k, if_neg k, if_neg (by omega)]
    unfold lmk
    rw [fo_snoc]
    by_cases e : j - 26 = 71 ∨ j - 26 = 77
    · have : ¬ (j - 26 ≠ 71 ∧ j - 26 ≠ 77) := by omega
      simp only [decide_eq_false this, Bool.false_and]
    · have : ¬ p.1 = ((j - 26 : Nat) : Int) := by omega
      simp [this]
theorem cnt_setl (l : Vs.Ar) (p : Int × Int) {X : Nat} (h : p.1 = X) (h1 : X ≠ 71) (h2 : X ≠ 77) (hX : X ≤ 90) : (cnt l).setIfInBounds (26 + X) (.bool true) = cnt (l ++ [p]) := by
  refine cnt_set l p (26 + X) fun j hj => ?_
  unfold cmk
  by_cases k : j < 26
  · rw [if_pos k, if_pos k, if_neg (by omega)]
    unfold gmk
    rw [hg_snoc]
    have : Md.gof p = 0 := by
      unfold Md.gof Md.isC
      have : (decide (p.1 = 71) || decide (p.1 = 77)) = false := by simp; omega
      rw [this, Bool.false_and]; rfl
    rw [this]
    by_cases e : j = 0
    · subst e; rfl
    · have : ¬ ((0 : Int) = j) := by omega
      simp [this]
  · rw [if_neg k, if_neg k]
    unfold lmk
    rw [fo_snoc, h]
    by_cases e : j = 26 + X
    · subst e
      rw [if_pos rfl, show 26 + X - 26 = X by omega]
      simp [h1, h2]
    · rw [if_neg e]
      have : ¬ ((X : Int) = ((j - 26 : Nat) : Int)) := by omega
      simp [this]
theorem cnt_nil : cnt [] = (List.replicate 117 (Value.bool false)).toArray := by kernel_rfl

theorem chf_rest (l : Vs.Ar) (i : Nat) (h : i < l.length) : Md.chf (l.take i) (l.drop i) = if Md.cke (l.take i) (Vs.ltr l i, Vs.num l i) ≠ 0 then Md.cke (l.take i) (Vs.ltr l i, Vs.num l i) else Md.chf (l.take (i + 1)) (l.drop (i + 1)) := by
  rw [Md.chf_step l i h, v_at l i h]
theorem ty_new {w wr wz : World} {D : Nat} {o : Obj} (h : Qw w wr) (hD : w.heap.size ≤ D) (q : Ty D D (wr.alloc o) wz) : Qw w wz :=
  ⟨q.os.trans h.os, q.tape.trans h.tape, q.output.trans h.output, Nat.le_trans h.size (Nat.le_trans (by simp) q.size), fun k hk => (q.block k (by have := h.size; simp; omega) (by omega) (by omega)).trans ((Below.heap_alloc wr _ k (by have := h.size; omega)).trans (h.block k hk))⟩
end Go.Proofs.YtnjcbgnghfppoaaDoor

/- Modal states in memory. -/
set_option linter.unusedVariables false
set_option linter.unusedSimpArgs false
namespace Go.Proofs.YtnjcbgnghfppoaaDoor
open Go.RowKit

/-- The cells of a state. -/
def mdc (s : Md.S) : Array Value := #[.int .i64 s.mo, .int .i64 s.pl, .int .i64 s.di, .int .i64 s.un, .int .i64 s.fe, .int .i64 s.cu, .int .i64 s.le, .int .i64 s.re, .int .i64 s.sy, .int .i64 s.pa, .int .i64 s.po, .int .i64 s.tu, .int .i64 s.sp, .bool s.mi, .bool s.fl, .int .i64 s.bl, .int .i64 s.fd, .int .i64 s.se, .int .i64 s.tl, .int .i64 s.lo, .int .i64 s.h, .int .i64 s.d]
theorem mdc_size (s : Md.S) : (mdc s).size = 22 := rfl
theorem mdc_one (s : Md.S) : (mdc s).all (·.oneCell') = true := by simp [mdc, Value.oneCell']
theorem mdc_cells (s : Md.S) : (Value.agg (mdc s)).cells = mdc s := by simp [Value.cells, mdc]
theorem info_md : (Tryd.prog.info? 44).map (·.size) = some 22 := by kernel_rfl
theorem zero_md (w : World) : (zeroValue 44).run Tryd.prog w = .ok (.agg (mdc Md.S.zero)) w := by kernel_rfl
theorem built_md : Tryd.prog.built 44 [] = some (mdc Md.S.zero) := by kernel_rfl
theorem built_start : ∀ l, l = [(0, Value.int .i64 80), (1, .int .i64 17), (2, .int .i64 90), (3, .int .i64 21), (4, .int .i64 94), (5, .int .i64 40), (6, .int .i64 49), (7, .int .i64 98), (8, .int .i64 54), (9, .int .i64 61), (10, .int .i64 15), (11, .int .i64 69), (12, .int .i64 5)] → Tryd.prog.built 44 l = some (mdc Md.S.start) := by rintro l rfl; kernel_rfl
theorem run_alloc_md (w : World) : (Instr.alloc 44 true (.tuple #[])).run Tryd.prog w = .ok (.pointer (some ⟨w.heap.size, 0, none⟩)) (w.alloc (.cells (mdc Md.S.zero) 44)) := by
  simp only [Instr.alloc, Sem.run_bind, zero_md, Result.andThen_ok]
  simp only [newVar, newRow, Sem.run_bind, run_newObj_alloc, Sem.run_pure, Result.andThen_ok, mdc_cells]
abbrev MT : TypeId := 44
/-- Two blocks of a call's own: a state and the result's. -/
structure Two (w0 w : World) (P R : Nat) (s r : Md.S) : Prop where
  bp : Bx w P (mdc s) MT
  br : Bx w R (mdc r) MT
  ne : P ≠ R
  q : Qw w0 w
  hp : w0.heap.size ≤ P
  hr : w0.heap.size ≤ R
section
variable {w0 w w' : World} {P R : Nat} {s r : Md.S}
theorem Two.kept (h : Two w0 w P R s r) (q : Qw w w') : Two w0 w' P R s r := ⟨h.bp.kept q, h.br.kept q, h.ne, Qw.trans h.q q, h.hp, h.hr⟩
theorem Bx.sr' {g b : Nat} {old cs : Array Value} {t : TypeId} (h : Bx w b old t) (hb : b ≠ g) : Bx (w.setRow g cs) b old t := (setRow_other w g b cs hb).trans h
theorem Bx.srS {g : Nat} {old cs : Array Value} {t : TypeId} (h : Bx w g old t) : Bx (w.setRow g cs) g cs t := setRow_heap w g old cs t _ h
theorem Qw.sr' {a w : World} (h : Qw a w) {g : Nat} (hg : a.heap.size ≤ g) (cs : Array Value) : Qw a (w.setRow g cs) :=
  ⟨h.os, h.tape, h.output, by rw [setRow_size]; exact h.size, fun k hk => (setRow_other w g k cs (by omega)).trans (h.block k hk)⟩
theorem Two.putR (h : Two w0 w P R s r) (t : Md.S) : Two w0 (w.setRow R (mdc t)) P R s t := ⟨h.bp.sr' h.ne, h.br.srS, h.ne, h.q.sr' h.hr _, h.hp, h.hr⟩
theorem Two.putP (h : Two w0 w P R s r) (t : Md.S) : Two w0 (w.setRow P (mdc t)) P R t r := ⟨h.bp.srS, h.br.sr' (fun e => h.ne e.symm), h.ne, h.q.sr' h.hp _, h.hp, h.hr⟩
theorem Two.setP (h : Two w0 w P R s r) (k : Nat) (v : Value) (t : Md.S) (ht : (mdc s).setIfInBounds k v = mdc t) : Two w0 (w.setCell ⟨P, k, none⟩ v) P R t r :=
  ⟨ht ▸ h.bp.set k v, h.br.other (fun e => h.ne e.symm) v, h.ne, h.q.sc h.hp v, h.hp, h.hr⟩
theorem Two.cell (h : Two w0 w P R s r) (k : Nat) (v : Value) (hv : (mdc s)[k]? = some v) : w.cell? ⟨P, k, none⟩ = some v := h.bp.cell' k v hv
end

section
variable {ops : Array Oper} {rest : List Oper} {dst : Option Tmp} {ty : TypeId} {pos : String} {after : Array Edge} {a : Act} {w w0 : World} {Q : Exit → Act → World → Prop} {P R : Nat} {s r : Md.S}
set_option maxRecDepth 100000 in
/-- The head of a function with a state as its argument and a state as its result. -/
theorem two_start (x : Tmp) {dst2 : Option Tmp} {ty2 : TypeId} {pos2 : String} {after2 : Array Edge} (hx : a.eval (.tmp x) = .agg (mdc s))
    (h : ∀ w' P R, Two w w' P R s Md.S.zero → wpList Tryd.prog ops Q rest ((a.put dst (.pointer (some ⟨P, 0, none⟩))).put dst2 (.pointer (some ⟨R, 0, none⟩))) w') :
    wpList Tryd.prog ops Q (⟨dst, .box MT (.tmp x), ty, pos, after, none⟩ :: ⟨dst2, .alloc MT, ty2, pos2, after2, none⟩ :: rest) a w := by
  refine Go.Great.wpList_boxTo rfl MT (.tmp x) rfl dst rfl w.heap.size rfl (mdc s) (by rw [hx]; exact mdc_cells s) ?_
  refine wpList_plain rfl fun K hK => ?_
  unfold Oper.wp execOp
  have e := run_alloc_md (w.alloc (.cells (mdc s) MT))
  simp only [e]
  refine hK _ _ ?_
  have hs : (w.alloc (.cells (mdc s) MT)).heap.size = w.heap.size + 1 := by simp
  refine h _ w.heap.size _ ⟨(Bx.new w _ _).alloc _, Bx.new _ _ _, by omega, Qw.al (Qw.al (Qw.refl w) _) _, Nat.le_refl _, by omega⟩
set_option maxRecDepth 100000 in
theorem box_md (x : Tmp) (hx : a.eval (.tmp x) = .agg (mdc s))
    (h : ∀ w' P, w.heap.size ≤ P → Bx w' P (mdc s) MT → Qw w w' → wpList Tryd.prog ops Q rest (a.put dst (.pointer (some ⟨P, 0, none⟩))) w') :
    wpList Tryd.prog ops Q (⟨dst, .box MT (.tmp x), ty, pos, after, none⟩ :: rest) a w :=
  Go.Great.wpList_boxTo rfl MT (.tmp x) rfl dst rfl w.heap.size rfl (mdc s) (by rw [hx]; exact mdc_cells s) (h _ _ (Nat.le_refl _) (Bx.new w _ _) (Qw.al (Qw.refl w) _))
set_option maxRecDepth 100000 in
theorem al_md (h : ∀ w' P, w.heap.size ≤ P → Bx w' P (mdc Md.S.zero) MT → Qw w w' → wpList Tryd.prog ops Q rest (a.put dst (.pointer (some ⟨P, 0, none⟩))) w') :
    wpList Tryd.prog ops Q (⟨dst, .alloc MT, ty, pos, after, none⟩ :: rest) a w := by
  refine wpList_plain rfl fun K hK => ?_
  unfold Oper.wp execOp
  simp only [run_alloc_md w]
  exact hK _ _ (h _ _ (Nat.le_refl _) (Bx.new w _ _) (Qw.al (Qw.refl w) _))
theorem bu_md (h : wpList Tryd.prog ops Q rest (a.put dst (.agg (mdc Md.S.zero))) w) : wpList Tryd.prog ops Q (⟨dst, .build MT #[], ty, pos, after, none⟩ :: rest) a w := by
  have e : Tryd.prog.built MT ((#[] : Array (Nat × Operand)).map fun (i, x) => (i, a.eval x)).toList = some (mdc Md.S.zero) := by simpa using built_md
  refine wpList_build rfl MT #[] rfl (by rw [e]; rfl) ?_
  rw [e]
  exact h
theorem ld_md (x : Tmp) {P : Nat} (hx : a.eval (.tmp x) = .pointer (some ⟨P, 0, none⟩)) (X : Bx w P (mdc s) MT) (h : wpList Tryd.prog ops Q rest (a.put dst (.agg (mdc s))) w) :
    wpList Tryd.prog ops Q (⟨dst, .load MT (.tmp x), ty, pos, after, none⟩ :: rest) a w := by
  exact wpList_load_row rfl MT (.tmp x) rfl P hx MT (mdc s) (0, 0) _ X Tryd.underlying44 rfl (by rw [mdc_size]; exact info_md) h
theorem st_md (x y : Tmp) {t : Md.S} {old : Md.S} (hx : a.eval (.tmp x) = .pointer (some ⟨P, 0, none⟩)) (hy : a.eval (.tmp y) = .agg (mdc t)) (X : Bx w P (mdc old) MT)
    (h : wpList Tryd.prog ops Q rest (a.put dst undef) (w.setRow P (mdc t))) : wpList Tryd.prog ops Q (⟨dst, .store MT (.tmp x) (.tmp y), ty, pos, after, none⟩ :: rest) a w :=
  wpList_store_row rfl MT (.tmp x) (.tmp y) rfl P (mdc t) hx hy MT (mdc old) X (by rw [mdc_size]; exact info_md) (by rw [mdc_size, mdc_size]) (mdc_one t) h
/-- The result is put in its place. -/
theorem st_R (x y : Tmp) {t : Md.S} (T : Two w0 w P R s r) (hx : a.eval (.tmp x) = .pointer (some ⟨R, 0, none⟩)) (hy : a.eval (.tmp y) = .agg (mdc t))
    (h : ∀ w', Two w0 w' P R s t → wpList Tryd.prog ops Q rest (a.put dst undef) w') : wpList Tryd.prog ops Q (⟨dst, .store MT (.tmp x) (.tmp y), ty, pos, after, none⟩ :: rest) a w :=
  st_md x y hx hy T.br (h _ (T.putR t))
theorem st_P (x y : Tmp) {t : Md.S} (T : Two w0 w P R s r) (hx : a.eval (.tmp x) = .pointer (some ⟨P, 0, none⟩)) (hy : a.eval (.tmp y) = .agg (mdc t))
    (h : ∀ w', Two w0 w' P R t r → wpList Tryd.prog ops Q rest (a.put dst undef) w') : wpList Tryd.prog ops Q (⟨dst, .store MT (.tmp x) (.tmp y), ty, pos, after, none⟩ :: rest) a w :=
  st_md x y hx hy T.bp (h _ (T.putP t))
end
theorem ret_m1 {fn : Func} {a : Act} {w : World} {R : Nat} {s : Md.S} (p : Tmp) (hr : fn.results = #[.cell p MT]) (h2 : a.tmps.getD p undef = .pointer (some ⟨R, 0, none⟩)) (X : Bx w R (mdc s) MT) : (results fn a.tmps).run Tryd.prog w = .ok (.agg (mdc s)) w := by
  exact results_cell_row hr a.tmps w R MT (mdc s) (0, 0) _ h2 X Tryd.underlying44 rfl (by rw [mdc_size]; exact info_md)
theorem ret_m2 {fn : Func} {a : Act} {w : World} {R : Nat} {s : Md.S} {n : Int} (p q : Tmp) (hr : fn.results = #[.cell p MT, .tmp q]) (h2 : a.tmps[p]?.getD undef = .pointer (some ⟨R, 0, none⟩)) (h3 : a.tmps[q]?.getD undef = .int .i64 n) (X : Bx w R (mdc s) MT) :
    (results fn a.tmps).run Tryd.prog w = .ok (.tuple #[.agg (mdc s), .int .i64 n]) w := by
  have h := run_loadVar_row (P := Tryd.prog) w R MT MT (mdc s) (0, 0) _ X Tryd.underlying44 rfl (by rw [mdc_size]; exact info_md)
  simp [results, hr, h2, h3, asAddr, h]
/-- States compare as they are. -/
theorem fields_md : Tryd.prog.underlying MT = some (.struct (Tryd.prog.fieldsOf MT)) := by kernel_rfl
theorem held_md : Tryd.prog.stoodInHeld MT = false := by kernel_rfl
theorem guard_md : Tryd.prog.eqGuardType Tryd.prog.depth MT = false := by kernel_rfl
set_option maxRecDepth 100000 in
theorem eq_md (w : World) (s : Md.S) : (binOp .eql MT (.agg (mdc s)) (.agg (mdc s))).run Tryd.prog w = .ok (.bool true) w := by
  rw [run_eql_struct, run_equalIn_agg w 9999 MT _ _ fields_md held_md]
  have e : (Op.eqFields 9999 (mdc s) (mdc s) (Tryd.prog.fieldsOf MT).toList).run Tryd.prog w = .ok true w := by
    unfold mdc
    go_simp
    done
  rw [e]
  rfl
end Go.Proofs.YtnjcbgnghfppoaaDoor

/- The walks of package modal's words. -/
set_option linter.unusedVariables false
set_option linter.unusedSimpArgs false
namespace Go.Proofs.YtnjcbgnghfppoaaDoor
open Go.RowKit

theorem ret_mi {s t : Md.S} {a b : Int} (h : s = t) (g : a = b) : Ending.returned (.tuple #[.agg (mdc s), .int .i64 a]) = .returned (.tuple #[.agg (mdc t), .int .i64 b]) := by rw [h, g]
end Go.Proofs.YtnjcbgnghfppoaaDoor

/- The walk of package modal's words that are integers. -/
set_option linter.unusedVariables false
set_option linter.unusedSimpArgs false
namespace Go.Proofs.YtnjcbgnghfppoaaDoor
open Go.RowKit

def nuS (s : Md.S) (l : Vs.Ar) : Nat → Md.S
  | 0 => s
  | 1 => { s with se := Md.nst l 83 s.se }
  | 2 => { s with se := Md.nst l 83 s.se, tl := Md.nst l 84 s.tl }
  | 3 => { s with se := Md.nst l 83 s.se, tl := Md.nst l 84 s.tl, h := Md.nst l 72 s.h }
  | _ => Md.nus s l
def nuk (l : Vs.Ar) : Nat → Bool
  | 0 => Md.nok l 83 30000
  | 1 => Md.nok l 84 32
  | 2 => Md.nok l 72 32
  | _ => Md.nok l 68 32
theorem nue_bad {l : Vs.Ar} {k : Nat} (hk : k < 4) (h : nuk l k = false) : Md.nue l = 1 := by
  unfold Md.nue
  refine if_neg fun e => ?_
  simp only [Bool.and_eq_true] at e
  obtain ⟨⟨⟨e0, e1⟩, e2⟩, e3⟩ := e
  match k, hk with
  | 0, _ => rw [show nuk l 0 = Md.nok l 83 30000 from rfl, e0] at h; cases h
  | 1, _ => rw [show nuk l 1 = Md.nok l 84 32 from rfl, e1] at h; cases h
  | 2, _ => rw [show nuk l 2 = Md.nok l 72 32 from rfl, e2] at h; cases h
  | 3, _ => rw [show nuk l 3 = Md.nok l 68 32 from rfl, e3] at h; cases h
theorem nue_ok {l : Vs.Ar} (h : ∀ j, j < 4 → nuk l j = true) : Md.nue l = 0 := by
  unfold Md.nue
  refine if_pos ?_
  rw [show Md.nok l 83 30000 = true from h 0 (by decide), show Md.nok l 84 32 = true from h 1 (by decide), show Md.nok l 72 32 = true from h 2 (by decide), show Md.nok l 68 32 = true from h 3 (by decide)]
  rfl
theorem nok_no {l : Vs.Ar} {c m : Int} (h : Md.fo l c = false) : Md.nok l c m = true ∧ ∀ was, Md.nst l c was = was := by
  unfold Md.nok Md.nst
  rw [h]
  exact ⟨rfl, fun _ => rfl⟩
theorem nok_yes {l : Vs.Ar} {c m : Int} (h : Md.fo l c = true) : Md.nok l c m = (whole (Md.fv l c) && decide (0 ≤ wholev (Md.fv l c)) && decide (wholev (Md.fv l c) ≤ m)) ∧ ∀ was, Md.nst l c was = wholev (Md.fv l c) := by
  unfold Md.nok Md.nst
  rw [h]
  exact ⟨rfl, fun _ => rfl⟩
def NuR (s : Md.S) (l : Vs.Ar) (w : World) (e : Ending) (w' : World) : Prop := (∃ r, e = .returned (.tuple #[.agg (mdc r), .int .i64 (Md.nue l)]) ∧ (Md.nue l = 0 → r = Md.nus s l)) ∧ Qw w w'
theorem NuR.bad {s r : Md.S} {l : Vs.Ar} {w w' : World} {e : Ending} (h : Md.nue l = 1) (he : e = .returned (.tuple #[.agg (mdc r), .int .i64 1])) (q : Qw w w') : NuR s l w e w' :=
  ⟨⟨r, he.trans (by rw [h]), fun h0 => by rw [h] at h0; exact absurd h0 (by decide)⟩, q⟩
theorem NuR.ok {s : Md.S} {l : Vs.Ar} {w w' : World} {e : Ending} (h : Md.nue l = 0) (he : e = .returned (.tuple #[.agg (mdc (Md.nus s l)), .int .i64 0])) (q : Qw w w') : NuR s l w e w' :=
  ⟨⟨_, he.trans (by rw [h]), fun _ => rfl⟩, q⟩
def numA (P : Nat) : Array Value := #[.int .i64 83, .int .i64 30000, .pointer (some ⟨P, 17, none⟩), .int .i64 84, .int .i64 32, .pointer (some ⟨P, 18, none⟩), .int .i64 72, .int .i64 32, .pointer (some ⟨P, 20, none⟩), .int .i64 68, .int .i64 32, .pointer (some ⟨P, 21, none⟩)]
theorem up_to {l : Vs.Ar} {k : Nat} (h : ∀ j, j < k → nuk l j = true) (hk : nuk l k = true) : ∀ j, j < k + 1 → nuk l j = true := fun j hj => by
  by_cases e : j = k
  · rw [e]; exact hk
  · exact h j (by omega)
/-- What a round knows. -/
structure NumK (s : Md.S) (l : Vs.Ar) (P k : Nat) (c m : Int) (cl : Nat) (old : Int) : Prop where
  a0 : (numA P)[k * 3]? = some (.int .i64 c)
  a1 : (numA P)[k * 3 + 1]? = some (.int .i64 m)
  a2 : (numA P)[k * 3 + 2]? = some (.pointer (some ⟨P, cl, none⟩))
  nk : nuk l k = Md.nok l c m
  no : Md.fo l c = false → nuS s l (k + 1) = nuS s l k
  yes : Md.fo l c = true → (mdc (nuS s l k)).setIfInBounds cl (.int .i64 (wholev (Md.fv l c))) = mdc (nuS s l (k + 1))
  old : (mdc (nuS s l k))[cl]? = some (.int .i64 old)
theorem numK (s : Md.S) (l : Vs.Ar) (P k : Nat) (hk : k < 4) : ∃ c m cl old, NumK s l P k c m cl old := by
  match k, hk with
  | 0, _ => exact ⟨83, 30000, 17, s.se, rfl, rfl, rfl, rfl, fun h => by show { s with se := Md.nst l 83 s.se } = s; rw [(nok_no (m := 30000) h).2], fun h => by rw [← (nok_yes (m := 30000) h).2 s.se]; rfl, rfl⟩
  | 1, _ => exact ⟨84, 32, 18, s.tl, rfl, rfl, rfl, rfl, fun h => by show { s with se := Md.nst l 83 s.se, tl := Md.nst l 84 s.tl } = { s with se := Md.nst l 83 s.se }; rw [(nok_no (m := 32) h).2], fun h => by rw [← (nok_yes (m := 32) h).2 s.tl]; rfl, rfl⟩
  | 2, _ => exact ⟨72, 32, 20, s.h, rfl, rfl, rfl, rfl, fun h => by show { s with se := Md.nst l 83 s.se, tl := Md.nst l 84 s.tl, h := Md.nst l 72 s.h } = { s with se := Md.nst l 83 s.se, tl := Md.nst l 84 s.tl }; rw [(nok_no (m := 32) h).2], fun h => by rw [← (nok_yes (m := 32) h).2 s.h]; rfl, rfl⟩
  | 3, _ => exact ⟨68, 32, 21, s.d, rfl, rfl, rfl, rfl, fun h => by show { s with se := Md.nst l 83 s.se, tl := Md.nst l 84 s.tl, h := Md.nst l 72 s.h, d := Md.nst l 68 s.d } = { s with se := Md.nst l 83 s.se, tl := Md.nst l 84 s.tl, h := Md.nst l 72 s.h }; rw [(nok_no (m := 32) h).2], fun h => by rw [← (nok_yes (m := 32) h).2 s.d]; rfl, rfl⟩

end Go.Proofs.YtnjcbgnghfppoaaDoor

/- The walk of package modal's Apply. -/
set_option linter.unusedVariables false
set_option linter.unusedSimpArgs false
namespace Go.Proofs.YtnjcbgnghfppoaaDoor
open Go.RowKit

def wS (s : Md.S) (l : Vs.Ar) : Nat → Md.S
  | 0 => s
  | 1 => Md.fds s l
  | 2 => Md.nus (Md.fds s l) l
  | _ => Md.wds s l
def wE (s : Md.S) (l : Vs.Ar) : Nat → Int
  | 0 => Md.fde s l
  | 1 => Md.nue l
  | _ => Md.ble s l
theorem ble_un {s t : Md.S} (l : Vs.Ar) (h : s.un = t.un) : Md.ble s l = Md.ble t l := by unfold Md.ble; rw [h]
theorem fds_un (s : Md.S) (l : Vs.Ar) : (Md.nus (Md.fds s l) l).un = s.un := by
  unfold Md.nus Md.fds
  cases Md.fo l 70 <;> rfl
theorem wde_bad {s : Md.S} {l : Vs.Ar} {k : Nat} (hk : k < 3) (h : ∀ j, j < k → wE s l j = 0) (hn : wE s l k ≠ 0) : Md.wde s l = wE s l k := by
  unfold Md.wde
  match k, hk with
  | 0, _ => rw [if_pos (show Md.fde s l ≠ 0 from hn)]; rfl
  | 1, _ => rw [if_neg (show ¬ Md.fde s l ≠ 0 from fun e => e (h 0 (by decide))), if_pos (show Md.nue l ≠ 0 from hn)]; rfl
  | 2, _ => rw [if_neg (show ¬ Md.fde s l ≠ 0 from fun e => e (h 0 (by decide))), if_neg (show ¬ Md.nue l ≠ 0 from fun e => e (h 1 (by decide)))]; rfl
theorem wde_ok {s : Md.S} {l : Vs.Ar} (h : ∀ j, j < 3 → wE s l j = 0) : Md.wde s l = 0 := by
  unfold Md.wde
  rw [if_neg (show ¬ Md.fde s l ≠ 0 from fun e => e (h 0 (by decide))), if_neg (show ¬ Md.nue l ≠ 0 from fun e => e (h 1 (by decide)))]
  exact h 2 (by decide)
theorem up_w {s : Md.S} {l : Vs.Ar} {k : Nat} (h : ∀ j, j < k → wE s l j = 0) (hk : wE s l k = 0) : ∀ j, j < k + 1 → wE s l j = 0 := fun j hj => by
  by_cases e : j = k
  · rw [e]; exact hk
  · exact h j (by omega)
def StR (s' : Md.S) (err : Int) (w : World) (e : Ending) (w' : World) : Prop := (∃ r, e = .returned (.tuple #[.agg (mdc r), .int .i64 err]) ∧ (err = 0 → r = s')) ∧ Qw w w'
def wdz (s : Md.S) (l : Vs.Ar) : Md.S := if Md.wde s l = 0 then Md.wds s l else Md.S.zero
theorem codes_next (s : Md.S) (l : Vs.Ar) (i : Nat) (h : i < l.length) : Md.codes s (l.take (i + 1)) = Md.wcs (Md.codes s (l.take i)) (Vs.ltr l i, Vs.num l i) := by
  rw [v_take l i h]
  unfold Md.codes
  rw [List.foldl_append]
  rfl
theorem wcs_no {s : Md.S} {p : Int × Int} (h : Md.isC p = false) : Md.wcs s p = s := by
  have e : Md.gof p = 0 := by unfold Md.gof; rw [if_neg (by rw [h]; decide)]
  unfold Md.wcs
  rw [e]
  rfl
theorem wcs_yes {s : Md.S} {x y : Int} (h : Md.isC (x, y) = true) : Md.wcs s (x, y) = Md.wgc s (Md.grp x (Md.cv (x, y))) (Md.cv (x, y)) := by
  have e : Md.gof (x, y) = Md.grp x (Md.cv (x, y)) := by unfold Md.gof Md.cv; rw [if_pos h, if_pos h]
  unfold Md.wcs
  rw [e]
end Go.Proofs.YtnjcbgnghfppoaaDoor

/- The sanity check of the laws of layer 11. -/
set_option linter.unusedVariables false
set_option linter.unusedSimpArgs false
namespace Go.Proofs.YtnjcbgnghfppoaaDoor
open Go.RowKit

section
variable {ops : Array Oper} {rest : List Oper} {dst : Option Tmp} {ty : TypeId} {pos : String} {after : Array Edge} {a : Act} {w : World} {Q : Exit → Act → World → Prop}
set_option maxRecDepth 100000 in
theorem bu_start (h : wpList Tryd.prog ops Q rest (a.put dst (.agg (mdc Md.S.start))) w) :
    wpList Tryd.prog ops Q (⟨dst, .build MT #[(0, .const (.int .i64 80)), (1, .const (.int .i64 17)), (2, .const (.int .i64 90)), (3, .const (.int .i64 21)), (4, .const (.int .i64 94)), (5, .const (.int .i64 40)), (6, .const (.int .i64 49)), (7, .const (.int .i64 98)), (8, .const (.int .i64 54)), (9, .const (.int .i64 61)), (10, .const (.int .i64 15)), (11, .const (.int .i64 69)), (12, .const (.int .i64 5))], ty, pos, after, none⟩ :: rest) a w := by
  have e : Tryd.prog.built MT ((#[(0, .const (.int .i64 80)), (1, .const (.int .i64 17)), (2, .const (.int .i64 90)), (3, .const (.int .i64 21)), (4, .const (.int .i64 94)), (5, .const (.int .i64 40)), (6, .const (.int .i64 49)), (7, .const (.int .i64 98)), (8, .const (.int .i64 54)), (9, .const (.int .i64 61)), (10, .const (.int .i64 15)), (11, .const (.int .i64 69)), (12, .const (.int .i64 5))] : Array (Nat × Operand)).map fun (i, x) => (i, a.eval x)).toList = some (mdc Md.S.start) := built_start _ (by simp [Act.eval])
  refine wpList_build rfl MT _ rfl (by rw [e]; rfl) ?_
  rw [e]
  exact h
theorem st_to (x y : Tmp) {P : Nat} {t : Md.S} {old : Md.S} (hx : a.eval (.tmp x) = .pointer (some ⟨P, 0, none⟩)) (hy : a.eval (.tmp y) = .agg (mdc t)) (X : Bx w P (mdc old) MT)
    (h : ∀ w', Bx w' P (mdc t) MT → (∀ w0, Qw w0 w → w0.heap.size ≤ P → Qw w0 w') → wpList Tryd.prog ops Q rest (a.put dst undef) w') : wpList Tryd.prog ops Q (⟨dst, .store MT (.tmp x) (.tmp y), ty, pos, after, none⟩ :: rest) a w :=
  st_md x y hx hy X (h _ X.srS (fun w0 q hp => q.sr' hp _))
end
theorem vals_two (w : World) (a b c d : Int) (t : TypeId) (b1 : -9223372036854775808 ≤ b) (b2 : b ≤ 9223372036854775807) (d1 : -9223372036854775808 ≤ d) (d2 : d ≤ 9223372036854775807) :
    ValsB (w.alloc (.cells #[.int .i64 a, .int .i64 b, .int .i64 c, .int .i64 d] t)).heap.size (w.alloc (.cells #[.int .i64 a, .int .i64 b, .int .i64 c, .int .i64 d] t)) (.slice (some ⟨w.heap.size, 0, none⟩) 2 2) [(a, b), (c, d)] := by
  have X := Bx.new w #[.int .i64 a, .int .i64 b, .int .i64 c, .int .i64 d] t
  refine ⟨some ⟨w.heap.size, 0, none⟩, 2, rfl, by simp, by decide, .inr ⟨w.heap.size, 0, rfl, by simp, fun i hi => ?_⟩⟩
  match i, hi with
  | 0, _ => exact ⟨X.cell' 0 _ rfl, X.cell' 1 _ rfl, b1, b2⟩
  | 1, _ => exact ⟨X.cell' 2 _ rfl, X.cell' 3 _ rfl, d1, d2⟩
theorem vals_one' (w : World) (a b : Int) (t : TypeId) (b1 : -9223372036854775808 ≤ b) (b2 : b ≤ 9223372036854775807) :
    ValsB (w.alloc (.cells #[.int .i64 a, .int .i64 b] t)).heap.size (w.alloc (.cells #[.int .i64 a, .int .i64 b] t)) (.slice (some ⟨w.heap.size, 0, none⟩) 1 1) [(a, b)] := by
  have X := Bx.new w #[.int .i64 a, .int .i64 b] t
  refine ⟨some ⟨w.heap.size, 0, none⟩, 1, rfl, by simp, by decide, .inr ⟨w.heap.size, 0, rfl, by simp, fun i hi => ?_⟩⟩
  match i, hi with
  | 0, _ => exact ⟨X.cell' 0 _ rfl, X.cell' 1 _ rfl, b1, b2⟩
theorem aw_1 : Md.aps Md.S.start [(70, 100000000), (71, 20000000)] = { Md.S.start with un := 20, fd := 2540000 } ∧ Md.ape Md.S.start [(70, 100000000), (71, 20000000)] = 0 := by decide +kernel
theorem aw_2 : Md.chk [(71, 1000000), (71, 2000000)] = 8 := by decide +kernel
theorem aw_3 : Md.grp 71 2 = 1 := by decide +kernel
end Go.Proofs.YtnjcbgnghfppoaaDoor
