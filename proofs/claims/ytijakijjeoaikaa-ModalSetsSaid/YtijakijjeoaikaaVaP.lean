
/- Plain facts about the variables of a program: what the calls return, and what they leave. -/
namespace Go.Proofs.Ytijakijjeoaikaa.Vs

/-- The letters' local variables. -/
def tab : List Int := List.replicate 65 0 ++ [1, 2, 3, 7, 8, 9, 0, 11, 4, 5, 6, 0, 13, 0, 0, 0, 17, 18, 19, 20, 21, 22, 23, 24, 25, 26]
def loc (c : Int) : Int := if 0 ≤ c ∧ c < 91 then tab.getD c.toNat 0 else 0

theorem tab_length : tab.length = 91 := by decide +kernel
theorem tab_all : ∀ i, i < 91 → 0 ≤ tab.getD i 0 ∧ tab.getD i 0 ≤ 26 := by decide +kernel
theorem loc_bd (c : Int) : 0 ≤ loc c ∧ loc c ≤ 26 := by
  unfold loc
  split
  · exact tab_all _ (by omega)
  · omega
theorem tab_inj : ∀ i, i < 91 → ∀ j, j < 91 → tab.getD i 0 ≠ 0 → tab.getD i 0 = tab.getD j 0 → i = j := by decide +kernel
theorem loc_inj {c d : Int} (h : loc c ≠ 0) (e : loc c = loc d) : c = d := by
  unfold loc at h e
  by_cases hc : 0 ≤ c ∧ c < 91
  · by_cases hd : 0 ≤ d ∧ d < 91
    · rw [if_pos hc] at h e
      rw [if_pos hd] at e
      have := tab_inj _ (by omega) _ (by omega) h e
      omega
    · rw [if_neg hd, if_pos hc] at e
      rw [if_pos hc] at h
      exact absurd e h
  · rw [if_neg hc] at h
    exact absurd rfl h

/-- The state of a store. -/
structure St where
  n : Nat
  ls : List Int
  cm : List Int
  sy : List Int

structure St.ok (s : St) : Prop where
  n1 : 1 ≤ s.n
  n2 : s.n ≤ 9
  hl : s.ls.length = s.n * 33
  hc : s.cm.length = 100
  hs : s.sy.length = 1000

def zer (n : Nat) : List Int := List.replicate n 0
theorem zer_length (n : Nat) : (zer n).length = n := List.length_replicate
def new : St := ⟨1, zer 33, zer 100, zer 1000⟩
theorem new_ok : new.ok := ⟨by decide, by decide, zer_length 33, zer_length 100, zer_length 1000⟩

def vld (v : Int) : Prop := -1000000000000000 ≤ v ∧ v ≤ 1000000000000000
instance (v : Int) : Decidable (vld v) := by unfold vld; infer_instance

def isL (n : Int) : Prop := 1 ≤ n ∧ n ≤ 33
def isC (n : Int) : Prop := 100 ≤ n ∧ n ≤ 199
def isS (n : Int) : Prop := 5000 ≤ n ∧ n ≤ 5999
instance (v : Int) : Decidable (isL v) := by unfold isL; infer_instance
instance (v : Int) : Decidable (isC v) := by unfold isC; infer_instance
instance (v : Int) : Decidable (isS v) := by unfold isS; infer_instance

/-- Where a local variable of the present level lies. -/
def St.at (s : St) (n : Int) : Nat := (s.n - 1) * 33 + (n - 1).toNat

def St.get (s : St) (n : Int) : Int :=
  if isL n then s.ls.getD (s.at n) 0 else if isC n then s.cm.getD (n - 100).toNat 0 else if isS n then s.sy.getD (n - 5000).toNat 0 else 0
def gerr (n : Int) : Int := if isL n ∨ isC n ∨ isS n then 0 else 6
def serr (n v : Int) : Int := if isS n then 13 else if ¬ isL n ∧ ¬ isC n then 6 else if vld v then 0 else 3
def herr (n v : Int) : Int := if ¬ isS n then 6 else if vld v then 0 else 3
def St.set (s : St) (n v : Int) : St :=
  if serr n v ≠ 0 then s else if isL n then { s with ls := s.ls.set (s.at n) v } else { s with cm := s.cm.set (n - 100).toNat v }
def St.host (s : St) (n v : Int) : St :=
  if herr n v ≠ 0 then s else { s with sy := s.sy.set (n - 5000).toNat v }
def St.pop (s : St) : St := if s.n = 1 then s else { s with n := s.n - 1, ls := s.ls.take ((s.n - 1) * 33) }
def St.poperr (s : St) : Int := if s.n = 1 then 13 else 0

theorem set_ok {s : St} (h : s.ok) (n v : Int) : (s.set n v).ok := by
  obtain ⟨h1, h2, h3, h4, h5⟩ := h
  unfold St.set
  split
  · exact ⟨h1, h2, h3, h4, h5⟩
  · split
    · exact ⟨h1, h2, by simpa using h3, h4, h5⟩
    · exact ⟨h1, h2, h3, by simpa using h4, h5⟩
theorem host_ok {s : St} (h : s.ok) (n v : Int) : (s.host n v).ok := by
  obtain ⟨h1, h2, h3, h4, h5⟩ := h
  unfold St.host
  split
  · exact ⟨h1, h2, h3, h4, h5⟩
  · exact ⟨h1, h2, h3, h4, by simpa using h5⟩
theorem pop_ok {s : St} (h : s.ok) : (s.pop).ok := by
  obtain ⟨h1, h2, h3, h4, h5⟩ := h
  unfold St.pop
  split
  · exact ⟨h1, h2, h3, h4, h5⟩
  · exact ⟨by simp; omega, by simp; omega, by simp only [List.length_take]; omega, h4, h5⟩

/-! ### arguments -/
abbrev Ar := List (Int × Int)
def ltr (l : Ar) (i : Nat) : Int := (l.getD i (0, 0)).1
def num (l : Ar) (i : Nat) : Int := (l.getD i (0, 0)).2
def dup (l : Ar) (i : Nat) : Prop := ∃ k, k < i ∧ ltr l k = ltr l i
instance (l : Ar) (i : Nat) : Decidable (dup l i) := by unfold dup; infer_instance
def errAt (l : Ar) (i : Nat) : Int := if loc (ltr l i) = 0 then 1 else if dup l i then 7 else if vld (num l i) then 0 else 3
def errTo (l : Ar) : Nat → Int
  | 0 => 0
  | m + 1 => if errTo l m = 0 then errAt l m else errTo l m
def err (l : Ar) : Int := errTo l l.length
theorem errTo_mono {l : Ar} {i : Nat} (h : errTo l i ≠ 0) (k : Nat) : errTo l (i + k) = errTo l i := by
  induction k with
  | zero => rfl
  | succ k ih =>
    show (if errTo l (i + k) = 0 then errAt l (i + k) else errTo l (i + k)) = _
    rw [ih, if_neg h]
theorem err_of {l : Ar} {i : Nat} (hi : i < l.length) (h0 : errTo l i = 0) (h : errAt l i ≠ 0) : err l = errAt l i := by
  have e : errTo l (i + 1) = errAt l i := by show (if errTo l i = 0 then _ else _) = _; rw [if_pos h0]
  have := errTo_mono (l := l) (i := i + 1) (by rw [e]; exact h) (l.length - (i + 1))
  rw [show i + 1 + (l.length - (i + 1)) = l.length by omega] at this
  unfold err
  rw [this, e]
theorem errTo_succ {l : Ar} {i : Nat} (h0 : errTo l i = 0) (h : errAt l i = 0) : errTo l (i + 1) = 0 := by
  show (if errTo l i = 0 then _ else _) = _
  rw [if_pos h0, h]
theorem errTo_all {l : Ar} {i : Nat} (h0 : errTo l i = 0) : ∀ k, k < i → errAt l k = 0 := by
  induction i with
  | zero => intro k hk; omega
  | succ i ih =>
    intro k hk
    by_cases e : errTo l i = 0
    · have : errAt l i = 0 := by
        have : (if errTo l i = 0 then errAt l i else errTo l i) = 0 := h0
        rwa [if_pos e] at this
      by_cases hk' : k < i
      · exact ih e k hk'
      · obtain rfl : k = i := by omega
        exact this
    · exfalso
      have : (if errTo l i = 0 then errAt l i else errTo l i) = 0 := h0
      rw [if_neg e] at this
      exact e this
theorem errAt_loc {l : Ar} {i : Nat} (h : errAt l i = 0) : loc (ltr l i) ≠ 0 := by
  unfold errAt at h
  split at h
  · cases h
  · assumption

def slot (l : Ar) (i : Nat) : Nat := (loc (ltr l i) - 1).toNat
/-- The locals of the new level behind the first elements. -/
def vals (l : Ar) : Nat → List Int
  | 0 => zer 33
  | m + 1 => (vals l m).set (slot l m) (num l m)
/-- Which were given. -/
def givn (l : Ar) : Nat → List Bool
  | 0 => List.replicate 33 false
  | m + 1 => (givn l m).set (slot l m) true
theorem vals_length (l : Ar) (m : Nat) : (vals l m).length = 33 := by
  induction m with
  | zero => exact zer_length 33
  | succ m ih => simpa [vals] using ih
theorem givn_length (l : Ar) (m : Nat) : (givn l m).length = 33 := by
  induction m with
  | zero => simp [givn]
  | succ m ih => simpa [givn] using ih
theorem slot_lt (l : Ar) (i : Nat) : slot l i < 33 := by
  have := loc_bd (ltr l i)
  unfold slot
  omega
theorem givn_iff {l : Ar} {m : Nat} (j : Nat) (hj : j < 33) : (givn l m).getD j false = true ↔ ∃ k, k < m ∧ slot l k = j := by
  induction m with
  | zero =>
    constructor
    · intro h
      exfalso
      have e : (givn l 0).getD j false = false := by
        simp only [givn, List.getD_eq_getElem?_getD, List.getElem?_replicate]
        split <;> rfl
      rw [e] at h
      cases h
    · intro ⟨k, hk, _⟩; omega
  | succ m ih =>
    simp only [givn, List.getD_eq_getElem?_getD, List.getElem?_set, givn_length] at ih ⊢
    by_cases e : slot l m = j
    · subst e
      simp only [if_true, slot_lt, Option.getD_some, true_iff]
      exact ⟨m, by omega, rfl⟩
    · rw [if_neg e, ih]
      constructor
      · intro ⟨k, hk, h⟩; exact ⟨k, by omega, h⟩
      · intro ⟨k, hk, h⟩
        refine ⟨k, ?_, h⟩
        rcases Nat.lt_or_ge k m with h' | h'
        · exact h'
        · exfalso
          obtain rfl : k = m := by omega
          exact e h
theorem givn_dup {l : Ar} {i : Nat} (h0 : errTo l i = 0) (h : loc (ltr l i) ≠ 0) : (givn l i).getD (slot l i) false = decide (dup l i) := by
  rw [Bool.eq_iff_iff, givn_iff _ (slot_lt l i), decide_eq_true_iff]
  have hb := loc_bd (ltr l i)
  constructor
  · intro ⟨k, hk, e⟩
    refine ⟨k, hk, ?_⟩
    have hk0 := errAt_loc (errTo_all h0 k hk)
    have hb' := loc_bd (ltr l k)
    unfold slot at e
    exact loc_inj hk0 (by omega)
  · intro ⟨k, hk, e⟩
    exact ⟨k, hk, by unfold slot; rw [e]⟩

def perr (s : St) (l : Ar) : Int := if s.n = 9 then 10 else err l
def St.push (s : St) (l : Ar) : St := if perr s l = 0 then { s with n := s.n + 1, ls := s.ls ++ vals l l.length } else s
theorem push_ok {s : St} (h : s.ok) (l : Ar) : (s.push l).ok := by
  unfold St.push
  split
  · obtain ⟨h1, h2, h3, h4, h5⟩ := h
    rename_i e
    have : s.n ≠ 9 := by intro k; unfold perr at e; rw [if_pos k] at e; cases e
    exact ⟨by simp, by simp; omega, by simp [vals_length]; omega, h4, h5⟩
  · exact h

theorem errAt_cases (l : Ar) (i : Nat) : (loc (ltr l i) = 0 ∧ errAt l i = 1) ∨ (loc (ltr l i) ≠ 0 ∧ dup l i ∧ errAt l i = 7) ∨ (loc (ltr l i) ≠ 0 ∧ ¬ dup l i ∧ ¬ vld (num l i) ∧ errAt l i = 3) ∨ (loc (ltr l i) ≠ 0 ∧ ¬ dup l i ∧ vld (num l i) ∧ errAt l i = 0) := by
  unfold errAt
  by_cases h1 : loc (ltr l i) = 0
  · left; exact ⟨h1, by rw [if_pos h1]⟩
  · right
    rw [if_neg h1]
    by_cases h2 : dup l i
    · left; exact ⟨h1, h2, by rw [if_pos h2]⟩
    · right
      rw [if_neg h2]
      by_cases h3 : vld (num l i)
      · right; exact ⟨h1, h2, h3, by rw [if_pos h3]⟩
      · left; exact ⟨h1, h2, h3, by rw [if_neg h3]⟩

end Go.Proofs.Ytijakijjeoaikaa.Vs
