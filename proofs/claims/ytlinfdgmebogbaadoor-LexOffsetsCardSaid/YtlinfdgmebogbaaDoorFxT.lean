
/- Plain facts on the bytes of a text: digits, points and other bytes. -/
import Derived.Test.YtlinfdgmebogbaaDoorFxP
set_option linter.unusedVariables false
set_option linter.unusedSimpArgs false
namespace Go.Proofs.YtlinfdgmebogbaaDoor

def cd : List UInt8 → Int
  | [] => 0
  | c :: l => (if isd c = true then 1 else 0) + cd l
def cp : List UInt8 → Int
  | [] => 0
  | c :: l => (if isd c = true then 0 else if c = 46 then 1 else 0) + cp l
def co : List UInt8 → Int
  | [] => 0
  | c :: l => (if isd c = true then 0 else if c = 46 then 0 else 1) + co l
/-- For each digit the points ahead of it, p of them ahead of the list. -/
def ct (p : Int) : List UInt8 → Int
  | [] => 0
  | c :: l => if isd c = true then p + ct p l else if c = 46 then ct (p + 1) l else ct p l

theorem cd_append (l k : List UInt8) : cd (l ++ k) = cd l + cd k := by
  induction l with
  | nil => simp [cd]
  | cons c l ih => simp only [List.cons_append, cd, ih]; omega
theorem cp_append (l k : List UInt8) : cp (l ++ k) = cp l + cp k := by
  induction l with
  | nil => simp [cp]
  | cons c l ih => simp only [List.cons_append, cp, ih]; omega
theorem co_append (l k : List UInt8) : co (l ++ k) = co l + co k := by
  induction l with
  | nil => simp [co]
  | cons c l ih => simp only [List.cons_append, co, ih]; omega
theorem ct_append (l k : List UInt8) : ∀ p, ct p (l ++ k) = ct p l + ct (p + cp l) k := by
  induction l with
  | nil => intro p; simp [ct, cp]
  | cons c l ih =>
    intro p
    simp only [List.cons_append, ct, cp]
    by_cases h : isd c = true
    · simp only [h, if_true]; rw [ih]; simp only [Int.zero_add]; omega
    · by_cases g : c = 46
      · rw [if_neg h, if_neg h, if_neg h, if_pos g, if_pos g, if_pos g, ih, Int.add_assoc]
      · rw [if_neg h, if_neg h, if_neg h, if_neg g, if_neg g, if_neg g, ih, Int.zero_add]

theorem dig_counts (D : List UInt8) (h : ∀ c ∈ D, isd c = true) : cd D = D.length ∧ cp D = 0 ∧ co D = 0 ∧ ∀ p, ct p D = p * D.length := by
  induction D with
  | nil => simp [cd, cp, co, ct]
  | cons c l ih =>
    obtain ⟨a, b, d, e⟩ := ih (fun c hc => h c (List.mem_cons_of_mem _ hc))
    have hc := h c (List.mem_cons_self ..)
    refine ⟨by simp only [cd, hc, if_true, a, List.length_cons]; omega, by simp only [cp, hc, if_true, b]; omega, by simp only [co, hc, if_true, d]; omega, fun p => ?_⟩
    simp only [ct, hc, if_true, e, List.length_cons]
    rw [Int.natCast_add, Int.mul_add]; simp; omega

theorem counts_pos (l : List UInt8) : 0 ≤ cd l ∧ 0 ≤ cp l ∧ 0 ≤ co l ∧ (∀ p, 0 ≤ p → 0 ≤ ct p l) ∧ cd l + cp l + co l = l.length := by
  induction l with
  | nil => simp [cd, cp, co, ct]
  | cons c l ih =>
    obtain ⟨a, b, d, e, f⟩ := ih
    by_cases h : isd c = true
    · simp only [cd, cp, co, ct, h, if_true, List.length_cons]
      exact ⟨by omega, by omega, by omega, fun p hp => by have := e p hp; omega, by omega⟩
    · by_cases g : c = 46
      · simp only [cd, cp, co, ct, if_neg h, if_pos g, List.length_cons]
        exact ⟨by omega, by omega, by omega, fun p hp => e (p + 1) (by omega), by omega⟩
      · simp only [cd, cp, co, ct, if_neg h, if_neg g, List.length_cons]
        exact ⟨by omega, by omega, by omega, fun p hp => e p hp, by omega⟩

theorem ct_le (l : List UInt8) : ∀ p, 0 ≤ p → ct p l ≤ (p + l.length) * l.length := by
  induction l with
  | nil => intro p _; simp [ct]
  | cons c l ih =>
    intro p hp
    have e : (p + ((c :: l).length : Nat)) * ((c :: l).length : Nat) = (p + 1 + (l.length : Nat)) * (l.length : Nat) + (p + 1 + (l.length : Nat)) := by
      have q : p + ((c :: l).length : Nat) = p + 1 + (l.length : Nat) := by rw [List.length_cons]; omega
      rw [q, List.length_cons, Int.natCast_add, Int.mul_add, Int.natCast_one, Int.mul_one]
    have m : (p + (l.length : Nat)) * (l.length : Nat) ≤ (p + 1 + (l.length : Nat)) * (l.length : Nat) := Int.mul_le_mul_of_nonneg_right (by omega) (by omega)
    have i0 := ih p hp
    have i1 := ih (p + 1) (by omega)
    rw [e]
    simp only [ct]
    split
    · omega
    · split <;> omega

/-- A text without points and other bytes holds digits alone. -/
theorem all_digits {l : List UInt8} (hp : cp l = 0) (ho : co l = 0) : ∀ c ∈ l, isd c = true := by
  induction l with
  | nil => intro c hc; simp at hc
  | cons c l ih =>
    obtain ⟨_, a, b, _, _⟩ := counts_pos l
    by_cases h : isd c = true
    · simp only [cp, co, h, if_true] at hp ho
      intro x hx
      rcases List.mem_cons.1 hx with rfl | hx
      · exact h
      · exact ih (by omega) (by omega) x hx
    · exfalso
      by_cases g : c = 46
      · simp only [cp, if_neg h, if_pos g] at hp; omega
      · simp only [co, if_neg h, if_neg g] at ho; omega

/-- A text of digits and at most one point. -/
theorem split_point {l : List UInt8} (hp : cp l ≤ 1) (ho : co l = 0) : (∀ c ∈ l, isd c = true) ∨ ∃ D F, l = D ++ 46 :: F ∧ (∀ c ∈ D, isd c = true) ∧ ∀ c ∈ F, isd c = true := by
  induction l with
  | nil => exact .inl (fun c hc => by simp at hc)
  | cons c l ih =>
    obtain ⟨_, a, b, _, _⟩ := counts_pos l
    by_cases h : isd c = true
    · simp only [cp, co, h, if_true] at hp ho
      rcases ih (by omega) (by omega) with k | ⟨D, F, rfl, k1, k2⟩
      · left; intro x hx
        rcases List.mem_cons.1 hx with rfl | hx
        · exact h
        · exact k x hx
      · right
        refine ⟨c :: D, F, rfl, ?_, k2⟩
        intro x hx
        rcases List.mem_cons.1 hx with rfl | hx
        · exact h
        · exact k1 x hx
    · by_cases g : c = 46
      · simp only [cp, co, if_neg h, if_pos g] at hp ho
        exact .inr ⟨[], l, by rw [g]; rfl, fun x hx => by simp at hx, all_digits (by omega) (by omega)⟩
      · exfalso
        simp only [co, if_neg h, if_neg g] at ho; omega

theorem counts_point {D F : List UInt8} (hD : ∀ c ∈ D, isd c = true) (hF : ∀ c ∈ F, isd c = true) :
    cd (D ++ 46 :: F) = D.length + F.length ∧ cp (D ++ 46 :: F) = 1 ∧ co (D ++ 46 :: F) = 0 ∧ ct 0 (D ++ 46 :: F) = F.length := by
  obtain ⟨a1, b1, c1, d1⟩ := dig_counts D hD
  obtain ⟨a2, b2, c2, d2⟩ := dig_counts F hF
  have n : ¬ isd 46 = true := by decide
  rw [cd_append, cp_append, co_append, ct_append]
  simp only [cd, cp, co, ct, if_neg n, if_true, a1, b1, c1, d1, a2, b2, c2, d2]
  refine ⟨by omega, by omega, by omega, by omega⟩

/-- Which texts are accepted, by counts. -/
theorem pok_counts (l : List UInt8) : pok l = true ↔ (0 < cd l ∧ cp l ≤ 1 ∧ co l = 0 ∧ cd l - ct 0 l ≤ 9 ∧ ct 0 l ≤ 6) := by
  constructor
  · intro h
    rcases pok_form h with ⟨⟨h1, h2⟩, h3⟩ | ⟨D, F, rfl, ⟨h1, h2⟩, ⟨h3, h4⟩, h5⟩
    · obtain ⟨a, b, c, d⟩ := dig_counts l h2
      have : l.length ≠ 0 := fun h => h3 (List.eq_nil_of_length_eq_zero h)
      rw [a, b, c, d 0]; omega
    · obtain ⟨a, b, c, d⟩ := counts_point h2 h4
      rw [a, b, c, d]; omega
  · rintro ⟨h1, h2, h3, h4, h5⟩
    rcases split_point h2 h3 with k | ⟨D, F, rfl, k1, k2⟩
    · obtain ⟨a, b, c, d⟩ := dig_counts l k
      rw [a] at h1 h4
      rw [d 0] at h4
      exact pok_plain ⟨by omega, k⟩ (by rintro rfl; simp at h1)
    · obtain ⟨a, b, c, d⟩ := counts_point k1 k2
      rw [a] at h1 h4
      rw [d] at h4 h5
      exact pok_point ⟨by omega, k1⟩ ⟨by omega, k2⟩ (by omega)

/-- A number that was read is not negative, and a zero ahead does not matter. -/
theorem pok_zero {l : List UInt8} (h : pok l = true) : 0 ≤ prv l ∧ (cd l - ct 0 l < 9 → prv (48 :: l) = prv l ∧ pre (48 :: l) = 0) := by
  have z : vl 0 [48] = 0 := by decide
  have vz : ∀ D, vl 0 (48 :: D) = vl 0 D := fun D => by rw [show (48 : UInt8) :: D = [48] ++ D from rfl, vl_append, z]
  have d48 : isd 48 = true := by decide
  unfold prv pre
  rw [if_pos h]
  rcases pok_form h with ⟨h1, h3⟩ | ⟨D, F, rfl, h1, h3, h5⟩
  · obtain ⟨a, b, c, d⟩ := dig_counts l h1.2
    rw [pnum_plain h1]
    have v := vl_bd l 0 (by omega) h1.2
    refine ⟨by omega, fun g => ?_⟩
    rw [a, d 0] at g
    have D' : Dgs (48 :: l) 9 := ⟨by rw [List.length_cons]; omega, fun c hc => by
      rcases List.mem_cons.1 hc with rfl | hc
      · exact d48
      · exact h1.2 c hc⟩
    have ok := pok_plain D' (by simp)
    rw [if_pos ok, if_pos ok, pnum_plain D', vz]
    exact ⟨rfl, rfl⟩
  · obtain ⟨a, b, c, d⟩ := counts_point h1.2 h3.2
    rw [pnum_point h1 h3]
    have v := vl_bd D 0 (by omega) h1.2
    have v2 := vl_bd F (vl 0 D) (by omega) h3.2
    refine ⟨Int.mul_nonneg (by omega) (Int.le_of_lt (Int.pow_pos (by decide))), fun g => ?_⟩
    rw [a, d] at g
    have D' : Dgs (48 :: D) 9 := ⟨by rw [List.length_cons]; omega, fun c hc => by
      rcases List.mem_cons.1 hc with rfl | hc
      · exact d48
      · exact h1.2 c hc⟩
    have ok := pok_point D' h3 (by simp)
    rw [List.cons_append] at ok
    rw [if_pos ok, if_pos ok, show (48 : UInt8) :: (D ++ 46 :: F) = (48 :: D) ++ 46 :: F from rfl, pnum_point D' h3, vz]
    exact ⟨rfl, rfl⟩

end Go.Proofs.YtlinfdgmebogbaaDoor
