
/- Plain facts on the texts of numbers: digits, what Parse accepts, what Format writes. -/
import Derived.Lib.ItoaNum
import Derived.Test.YtlinfdgmebogbaaDoorFxQ
set_option linter.unusedVariables false
set_option linter.unusedSimpArgs false
namespace Go.Proofs.YtlinfdgmebogbaaDoor

/-! ### digits -/

theorem getD_of (l : List UInt8) (i : Nat) (h : i < l.length) : l.getD i 0 = l[i] := by rw [List.getD_eq_getElem?_getD, List.getElem?_eq_getElem h]; rfl
theorem pow10_nat (k : Nat) : (10 : Int) ^ k = ((10 ^ k : Nat) : Int) := by rw [Int.natCast_pow]; rfl
theorem pow10_le {a b : Nat} (h : a ≤ b) : (10 : Int) ^ a ≤ 10 ^ b := by
  have := Nat.pow_le_pow_right (show 0 < 10 by decide) h
  rw [pow10_nat, pow10_nat]; exact Int.ofNat_le.2 this

def isd (c : UInt8) : Bool := decide (48 ≤ (c.toNat : Int) ∧ (c.toNat : Int) ≤ 57)
theorem isd_t {c : UInt8} (h : isd c = true) : 48 ≤ (c.toNat : Int) ∧ (c.toNat : Int) ≤ 57 := of_decide_eq_true h
theorem isd_f {c : UInt8} (h : isd c = false) : (c.toNat : Int) < 48 ∨ 57 < (c.toNat : Int) := by have := of_decide_eq_false h; omega

/-- The number that digits write behind n. -/
def vl (n : Int) : List UInt8 → Int
  | [] => n
  | c :: l => vl (n * 10 + ((c.toNat : Int) - 48)) l

theorem vl_append (l k : List UInt8) : ∀ n, vl n (l ++ k) = vl (vl n l) k := by
  induction l with
  | nil => intro n; rfl
  | cons c l ih => intro n; exact ih _

theorem vl_snoc (n : Int) (l : List UInt8) (c : UInt8) : vl n (l ++ [c]) = vl n l * 10 + ((c.toNat : Int) - 48) := by rw [vl_append]; rfl

theorem vl_bd (l : List UInt8) : ∀ n : Int, 0 ≤ n → (∀ c ∈ l, isd c = true) → n ≤ vl n l ∧ vl n l < (n + 1) * 10 ^ l.length := by
  induction l with
  | nil => intro n h _; simp [vl]; omega
  | cons c l ih =>
    intro n h hd
    have d := isd_t (hd c (List.mem_cons_self ..))
    obtain ⟨x, y⟩ := ih (n * 10 + ((c.toNat : Int) - 48)) (by omega) (fun c hc => hd c (List.mem_cons_of_mem _ hc))
    refine ⟨by show n ≤ vl _ l; omega, ?_⟩
    show vl _ l < _
    refine Int.lt_of_lt_of_le y ?_
    rw [List.length_cons, Int.pow_succ, Int.mul_comm ((10 : Int) ^ l.length) 10, ← Int.mul_assoc]
    exact Int.mul_le_mul_of_nonneg_right (by omega) (Int.le_of_lt (Int.pow_pos (by decide)))

theorem vl_shift (l : List UInt8) : ∀ n : Int, vl n l = n * 10 ^ l.length + vl 0 l := by
  induction l with
  | nil => intro n; simp [vl]
  | cons c l ih =>
    intro n
    show vl _ l = _ + vl _ l
    rw [ih (n * 10 + _), ih (0 * 10 + _), List.length_cons, Int.pow_succ, Int.add_mul, Int.zero_mul, Int.zero_add, Int.mul_assoc, Int.mul_comm (10 : Int), Int.add_assoc]

/-- How many digits stand at the beginning, at most k. -/
def rk : List UInt8 → Nat → Nat
  | [], _ => 0
  | _ :: _, 0 => 0
  | c :: l, k + 1 => if isd c = true then rk l k + 1 else 0

theorem rk_le : ∀ (l : List UInt8) (k : Nat), rk l k ≤ k ∧ rk l k ≤ l.length
  | [], k => by simp [rk]
  | c :: l, 0 => by simp [rk]
  | c :: l, k + 1 => by
    have := rk_le l k
    unfold rk
    split <;> simp <;> omega

theorem rk_uniq : ∀ (l : List UInt8) (k j : Nat), j ≤ k → j ≤ l.length → (∀ i, i < j → isd (l.getD i 0) = true) → (j = k ∨ j = l.length ∨ isd (l.getD j 0) = false) → rk l k = j
  | [], k, j, _, h2, _, _ => by simp at h2; simp [rk, h2]
  | c :: l, 0, j, h1, _, _, _ => by simp [rk]; omega
  | c :: l, k + 1, 0, _, _, _, h4 => by
    unfold rk
    have : isd c = false := by
      rcases h4 with h | h | h
      · omega
      · simp at h
      · simpa using h
    rw [if_neg (by rw [this]; decide)]
  | c :: l, k + 1, j + 1, h1, h2, h3, h4 => by
    unfold rk
    rw [if_pos (by simpa using h3 0 (by omega)), rk_uniq l k j (by omega) (by simpa using h2) (fun i hi => by simpa using h3 (i + 1) (by omega)) (by
      rcases h4 with h | h | h
      · exact .inl (by omega)
      · exact .inr (.inl (by simpa using h))
      · exact .inr (.inr (by simpa using h)))]

theorem rk_dig : ∀ (l : List UInt8) (k i : Nat), i < rk l k → isd (l.getD i 0) = true
  | [], k, i, h => by simp [rk] at h
  | c :: l, 0, i, h => by simp [rk] at h
  | c :: l, k + 1, i, h => by
    unfold rk at h
    split at h
    · rename_i hc
      cases i with
      | zero => simpa using hc
      | succ i => simpa using rk_dig l k i (by omega)
    · omega

theorem all_take (l : List UInt8) (j : Nat) (hj : j ≤ l.length) (h : ∀ i, i < j → isd (l.getD i 0) = true) : ∀ c ∈ l.take j, isd c = true := by
  intro c hc
  obtain ⟨i, hi, rfl⟩ := List.getElem_of_mem hc
  have hi' : i < j := by simp at hi; omega
  have := h i hi'
  rw [getD_of _ _ (by omega)] at this
  rw [List.getElem_take]; exact this

/-! ### what Parse returns -/

/-- The digits before the point; whether there is a point; the digits behind it; where the text should end. -/
def pw (l : List UInt8) : Nat := rk l 9
def pdot (l : List UInt8) : Bool := decide (pw l < l.length) && (l.getD (pw l) 0 == 46)
def pf (l : List UInt8) : Nat := if pdot l = true then rk (l.drop (pw l + 1)) 6 else 0
def pend (l : List UInt8) : Nat := if pdot l = true then pw l + 1 + pf l else pw l
def pok (l : List UInt8) : Bool := decide (pend l = l.length) && decide (pw l + pf l ≠ 0)
def pnum (l : List UInt8) : Int := vl (vl 0 (l.take (pw l))) ((l.drop (pw l + 1)).take (pf l)) * 10 ^ (6 - pf l)
def prv (l : List UInt8) : Int := if pok l = true then pnum l else 0
def pre (l : List UInt8) : Int := if pok l = true then 0 else 2

theorem pf_le (l : List UInt8) : pf l ≤ 6 := by unfold pf; split; exact (rk_le _ _).1; omega
theorem pw_le (l : List UInt8) : pw l ≤ 9 ∧ pw l ≤ l.length := rk_le l 9
theorem pf_none {l : List UInt8} (h : pdot l = false) : pf l = 0 ∧ pend l = pw l := by unfold pend pf; rw [h]; exact ⟨rfl, rfl⟩

/-- The digits before the point. -/
theorem whole_bd (l : List UInt8) : 0 ≤ vl 0 (l.take (pw l)) ∧ vl 0 (l.take (pw l)) ≤ 999999999 := by
  have b := pw_le l
  obtain ⟨x, y⟩ := vl_bd (l.take (pw l)) 0 (by omega) (all_take l _ b.2 (rk_dig l 9))
  refine ⟨x, ?_⟩
  have : (10 : Int) ^ (l.take (pw l)).length ≤ 10 ^ 9 := pow10_le (by rw [List.length_take]; omega)
  have e : (10 : Int) ^ 9 = 1000000000 := by decide
  omega

/-! ### the form of an accepted text -/

/-- Digits, at most so many. -/
def Dgs (D : List UInt8) (k : Nat) : Prop := D.length ≤ k ∧ ∀ c ∈ D, isd c = true

theorem Dgs.at {D : List UInt8} {k : Nat} (h : Dgs D k) {i : Nat} (hi : i < D.length) : isd (D.getD i 0) = true := by
  rw [getD_of _ _ hi]; exact h.2 _ (List.getElem_mem hi)

theorem getD_left (a b : List UInt8) (i : Nat) (h : i < a.length) : (a ++ b).getD i 0 = a.getD i 0 := by
  rw [List.getD_eq_getElem?_getD, List.getD_eq_getElem?_getD, List.getElem?_append_left h]
theorem getD_mid (a b : List UInt8) (c : UInt8) : (a ++ c :: b).getD a.length 0 = c := by
  rw [List.getD_eq_getElem?_getD, List.getElem?_append_right (Nat.le_refl _)]; simp

theorem parse_plain {D : List UInt8} (h : Dgs D 9) : pw D = D.length ∧ pf D = 0 ∧ pend D = D.length := by
  have e : pw D = D.length := rk_uniq D 9 _ h.1 (Nat.le_refl _) (fun i hi => h.at hi) (.inr (.inl rfl))
  have d : pdot D = false := by unfold pdot; rw [e]; simp
  obtain ⟨x, y⟩ := pf_none d
  exact ⟨e, x, by omega⟩

theorem parse_point {D F : List UInt8} (h : Dgs D 9) (g : Dgs F 6) : pw (D ++ 46 :: F) = D.length ∧ pf (D ++ 46 :: F) = F.length ∧ pend (D ++ 46 :: F) = (D ++ 46 :: F).length := by
  have e : pw (D ++ 46 :: F) = D.length := rk_uniq _ 9 _ h.1 (by simp) (fun i hi => by rw [getD_left _ _ _ hi]; exact h.at hi) (.inr (.inr (by rw [getD_mid]; decide)))
  have d : pdot (D ++ 46 :: F) = true := by unfold pdot; rw [e, getD_mid]; simp
  have dr : (D ++ 46 :: F).drop (D.length + 1) = F := by rw [show D ++ 46 :: F = (D ++ [46]) ++ F by simp]; rw [List.drop_left' (by simp)]
  have f : pf (D ++ 46 :: F) = F.length := by
    unfold pf; rw [if_pos d, e, dr]
    exact rk_uniq F 6 _ g.1 (Nat.le_refl _) (fun i hi => g.at hi) (.inr (.inl rfl))
  refine ⟨e, f, ?_⟩
  unfold pend; rw [if_pos d, e, f]; simp; omega

theorem pnum_plain {D : List UInt8} (h : Dgs D 9) : pnum D = vl 0 D * 1000000 := by
  obtain ⟨e, f, _⟩ := parse_plain h
  unfold pnum; rw [e, f]; simp [vl]

theorem pnum_point {D F : List UInt8} (h : Dgs D 9) (g : Dgs F 6) : pnum (D ++ 46 :: F) = vl (vl 0 D) F * 10 ^ (6 - F.length) := by
  obtain ⟨e, f, _⟩ := parse_point h g
  have dr : (D ++ 46 :: F).drop (D.length + 1) = F := by rw [show D ++ 46 :: F = (D ++ [46]) ++ F by simp]; rw [List.drop_left' (by simp)]
  unfold pnum; rw [e, f, dr, List.take_left' rfl, List.take_of_length_le (Nat.le_refl _)]

/-- A text that is accepted is of the form. -/
theorem pok_form {l : List UInt8} (h : pok l = true) : (Dgs l 9 ∧ l ≠ []) ∨ ∃ D F, l = D ++ 46 :: F ∧ Dgs D 9 ∧ Dgs F 6 ∧ D.length + F.length ≠ 0 := by
  unfold pok at h
  simp only [Bool.and_eq_true, decide_eq_true_eq] at h
  obtain ⟨h1, h2⟩ := h
  have b := pw_le l
  cases d : pdot l
  · obtain ⟨x, y⟩ := pf_none d
    refine .inl ⟨⟨by omega, ?_⟩, by rintro rfl; simp [pw, rk] at h2; omega⟩
    have := all_take l (pw l) b.2 (rk_dig l 9)
    rwa [List.take_of_length_le (by omega)] at this
  · have d' := d
    unfold pdot at d'
    simp only [Bool.and_eq_true, decide_eq_true_eq, beq_iff_eq] at d'
    obtain ⟨d1, d2⟩ := d'
    have e1 : pf l = rk (l.drop (pw l + 1)) 6 := by unfold pf; rw [if_pos d]
    have e2 : pend l = pw l + 1 + pf l := by unfold pend; rw [if_pos d]
    have sp : l = l.take (pw l) ++ 46 :: l.drop (pw l + 1) := by
      rw [← d2, getD_of _ _ d1, ← List.drop_eq_getElem_cons d1, List.take_append_drop]
    have lf : (l.drop (pw l + 1)).length = pf l := by rw [List.length_drop]; omega
    refine .inr ⟨l.take (pw l), l.drop (pw l + 1), sp, ⟨by rw [List.length_take]; omega, all_take l _ b.2 (rk_dig l 9)⟩, ⟨by rw [lf]; exact pf_le l, ?_⟩, by rw [lf, List.length_take]; omega⟩
    have := all_take (l.drop (pw l + 1)) (pf l) (by omega) (fun i hi => rk_dig _ 6 i (by omega))
    rwa [List.take_of_length_le (by omega)] at this

theorem pok_plain {D : List UInt8} (h : Dgs D 9) (h0 : D ≠ []) : pok D = true := by
  obtain ⟨e, f, g⟩ := parse_plain h
  have : D.length ≠ 0 := by intro x; exact h0 (List.eq_nil_of_length_eq_zero x)
  unfold pok; rw [e, f, g]; simp [h0]

theorem pok_point {D F : List UInt8} (h : Dgs D 9) (g : Dgs F 6) (h0 : D.length + F.length ≠ 0) : pok (D ++ 46 :: F) = true := by
  obtain ⟨e, f, k⟩ := parse_point h g
  unfold pok; rw [e, f, k, decide_eq_true rfl, decide_eq_true h0]; rfl

end Go.Proofs.YtlinfdgmebogbaaDoor
