
/- Plain facts on numbers for the laws that do without the specification. -/
import Derived.Test.YthfgpmdgklphkaaDoorFxL
import Derived.Test.YthfgpmdgklphkaaDoorFxF
set_option linter.unusedVariables false
set_option linter.unusedSimpArgs false
namespace Go.Proofs.YthfgpmdgklphkaaDoor
open Go.RowKit

theorem btw_bd (v l h : Int) (lh : l ≤ h) : l ≤ l + v % (h - l + 1) ∧ l + v % (h - l + 1) ≤ h := by
  have m0 : 0 ≤ v % (h - l + 1) := Int.emod_nonneg _ (by omega)
  have m1 : v % (h - l + 1) < h - l + 1 := Int.emod_lt_of_pos _ (by omega)
  omega

theorem both_t {a b : Int} (ha : vld a = true) (hb : vld b = true) : both a b = true := by unfold both; rw [ha, hb]; rfl
theorem tv_t {n : Int} (h : vld n = true) : tv n true = n ∧ te n true = 0 := by unfold tv te; rw [h]; exact ⟨rfl, rfl⟩
theorem tv_f {n : Int} (h : vld n = false) : tv n true = 0 ∧ te n true = 3 := by unfold tv te; rw [h]; exact ⟨rfl, rfl⟩
theorem add_t {a b : Int} (ha : vld a = true) (hb : vld b = true) (h : vld (a + b) = true) : addv a b = a + b ∧ adde a b = 0 := by
  unfold addv adde; rw [if_pos (both_t ha hb), if_pos (both_t ha hb)]; exact tv_t h
theorem add_f {a b : Int} (ha : vld a = true) (hb : vld b = true) (h : vld (a + b) = false) : addv a b = 0 ∧ adde a b = 3 := by
  unfold addv adde; rw [if_pos (both_t ha hb), if_pos (both_t ha hb)]; exact tv_f h
theorem sub_t {a b : Int} (ha : vld a = true) (hb : vld b = true) (h : vld (a - b) = true) : subv a b = a - b ∧ sube a b = 0 := by
  unfold subv sube; rw [if_pos (both_t ha hb), if_pos (both_t ha hb)]; exact tv_t h
theorem sub_f {a b : Int} (ha : vld a = true) (hb : vld b = true) (h : vld (a - b) = false) : subv a b = 0 ∧ sube a b = 3 := by
  unfold subv sube; rw [if_pos (both_t ha hb), if_pos (both_t ha hb)]; exact tv_f h

theorem group_cases (A B : Int) (A1 : -1000000000000000 ≤ A) (A2 : A ≤ 1000000000000000) (B1 : -1000000000000000 ≤ B) (B2 : B ≤ 1000000000000000) :
    (addv A B = A + B ∧ adde A B = 0 ∧ addv B A = A + B ∧ adde B A = 0 ∧ subv (A + B) B = A ∧ sube (A + B) B = 0 ∧ -1000000000000000 ≤ A + B ∧ A + B ≤ 1000000000000000) ∨
    (addv A B = 0 ∧ adde A B = 3 ∧ addv B A = 0 ∧ adde B A = 3 ∧ 1000000000000000 < A + B) ∨
    (addv A B = 0 ∧ adde A B = 3 ∧ addv B A = 0 ∧ adde B A = 3 ∧ A + B < -1000000000000000) := by
  have vA := vld_t A1 A2
  have vB := vld_t B1 B2
  have cm : B + A = A + B := Int.add_comm B A
  have sb : A + B - B = A := by omega
  by_cases h1 : 1000000000000000 < A + B
  · have v := vld_f (n := A + B) (.inr h1)
    have x := add_f vA vB v
    have y := add_f vB vA (by rw [cm]; exact v)
    exact .inr (.inl ⟨x.1, x.2, y.1, y.2, h1⟩)
  · by_cases h2 : A + B < -1000000000000000
    · have v := vld_f (n := A + B) (.inl h2)
      have x := add_f vA vB v
      have y := add_f vB vA (by rw [cm]; exact v)
      exact .inr (.inr ⟨x.1, x.2, y.1, y.2, h2⟩)
    · have v := vld_t (n := A + B) (by omega) (by omega)
      have x := add_t vA vB v
      have y := add_t vB vA (by rw [cm]; exact v)
      have z := sub_t v vB (by rw [sb]; exact vA)
      rw [sb] at z
      exact .inl ⟨x.1, x.2, y.1.trans cm, y.2, z.1, z.2, by omega, by omega⟩

theorem sub_cases (A B : Int) (vA : vld A = true) (vB : vld B = true) : (subv A B = A - B ∧ sube A B = 0) ∨ (subv A B = 0 ∧ sube A B = 3) := by
  cases v : vld (A - B)
  · exact .inr (sub_f vA vB v)
  · exact .inl (sub_t vA vB v)

/-- A product of two valid numbers, or its error. -/
theorem mul_cases (A B : Int) (vA : vld A = true) (vB : vld B = true) :
    (mule A B = 0 ∧ 2 * (mulv A B * 1000000 - A * B) ≤ 1000000 ∧ 2 * (A * B - mulv A B * 1000000) ≤ 1000000 ∧ -1000000000000000 ≤ mulv A B ∧ mulv A B ≤ 1000000000000000) ∨ (mule A B = 3 ∧ mulv A B = 0) := by
  unfold mulv mule
  rw [if_pos (both_t vA vB), if_pos (both_t vA vB)]
  have nr := md_near A B 1000000
  cases k : mdok A B 1000000 2
  · exact .inr ⟨rfl, rfl⟩
  · obtain ⟨n1, n2⟩ := nr k
    rw [show Mth.mag 1000000 = 1000000 from rfl] at n1 n2
    generalize mdv A B 1000000 2 = v at *
    rcases vld_cases v with ⟨h, g1, g2⟩ | ⟨h, _⟩
    · obtain ⟨x, y⟩ := tv_t h
      rw [x, y]; exact .inl ⟨rfl, n1, n2, g1, g2⟩
    · obtain ⟨x, y⟩ := tv_f h
      rw [x, y]; exact .inr ⟨rfl, rfl⟩

theorem div_cases (A B : Int) (vA : vld A = true) (vB : vld B = true) (hB : B ≠ 0) :
    (dive A B = 0 ∧ 2 * (divv A B * B - A * 1000000) ≤ Mth.mag B ∧ 2 * (A * 1000000 - divv A B * B) ≤ Mth.mag B ∧ -1000000000000000 ≤ divv A B ∧ divv A B ≤ 1000000000000000) ∨ (dive A B = 3 ∧ divv A B = 0) := by
  have d : dve A B = 0 := by unfold dve; rw [if_pos (both_t vA vB), if_neg hB]
  unfold divv dive
  rw [if_pos d, if_pos d]
  have nr := md_near A 1000000 B
  cases k : mdok A 1000000 B 2
  · exact .inr ⟨rfl, rfl⟩
  · obtain ⟨n1, n2⟩ := nr k
    generalize mdv A 1000000 B 2 = v at *
    rcases vld_cases v with ⟨h, g1, g2⟩ | ⟨h, _⟩
    · obtain ⟨x, y⟩ := tv_t h
      rw [x, y]; exact .inl ⟨rfl, n1, n2, g1, g2⟩
    · obtain ⟨x, y⟩ := tv_f h
      rw [x, y]; exact .inr ⟨rfl, rfl⟩

theorem div_zero (A : Int) (vA : vld A = true) : dive A 0 = 4 ∧ divv A 0 = 0 := by
  have d : dve A 0 = 4 := by unfold dve; rw [if_pos (both_t vA (by decide)), if_pos rfl]
  unfold divv dive
  rw [if_neg (by omega), if_neg (by omega), d]; exact ⟨rfl, rfl⟩

theorem mod_cases (A B : Int) (vA : vld A = true) (vB : vld B = true) : (B = 0 → dve A B = 4 ∧ modv A B = 0) ∧ (B ≠ 0 → dve A B = 0 ∧ modv A B = A % B) := by
  refine ⟨fun h => ?_, fun h => ?_⟩
  · have d : dve A B = 4 := by unfold dve; rw [if_pos (both_t vA vB), if_pos h]
    exact ⟨d, if_neg (by omega)⟩
  · have d : dve A B = 0 := by unfold dve; rw [if_pos (both_t vA vB), if_neg h]
    exact ⟨d, if_pos d⟩

/-- The rounded integers of a valid number. -/
theorem int_cases (A : Int) (vA : vld A = true) : arge A = 0 ∧ roundv A = (A + 500000) / 1000000 * 1000000 ∧ fixv A = (if A < 0 then clv A else flv A) ∧ fupv A = (if A < 0 then flv A else clv A) ∧
    vld (roundv A) = true ∧ vld (fixv A) = true ∧ vld (fupv A) = true := by
  have b := vld_bd vA
  have r : roundv A = (A + 500000) / 1000000 * 1000000 := if_pos vA
  have f : fixv A = (if A < 0 then clv A else flv A) := if_pos vA
  have g : fupv A = (if A < 0 then flv A else clv A) := if_pos vA
  refine ⟨if_pos vA, r, f, g, vld_t ?_ ?_, vld_t ?_ ?_, vld_t ?_ ?_⟩
  · rw [r]; omega
  · rw [r]; omega
  · rw [f]; unfold clv flv; split <;> omega
  · rw [f]; unfold clv flv; split <;> omega
  · rw [g]; unfold clv flv; split <;> omega
  · rw [g]; unfold clv flv; split <;> omega

theorem whole_of (x : Int) (h : vld x = true) (z : x % 1000000 = 0) : whole x = true ∧ wholev x = x / 1000000 := by
  have e : whole x = true := by unfold whole; rw [h, decide_eq_true z]; rfl
  exact ⟨e, if_pos e⟩
theorem whole_not (x : Int) (z : x % 1000000 ≠ 0) : whole x = false ∧ wholev x = 0 := by
  have e : whole x = false := by unfold whole; rw [decide_eq_false z, Bool.and_false]
  exact ⟨e, if_neg (by rw [e]; decide)⟩

/-- The nearest root. -/
theorem sq_near (A : Int) (A1 : 0 ≤ A) (A2 : A ≤ 1000000000000000) : sqe A = 0 ∧ 0 ≤ sqv A ∧ sqv A ≤ 40000000000 ∧ (sqv A = 0 ∨ cmpI ((2 * sqv A - 1) * (2 * sqv A - 1)) (4 * A * 1000000) ≤ 0) ∧ 0 < cmpI ((2 * sqv A + 1) * (2 * sqv A + 1)) (4 * A * 1000000) := by
  have vA := vld_t (show -1000000000000000 ≤ A by omega) A2
  have hN : 0 ≤ A * 1000000 := by omega
  have s := Mth.rt_spec (A * 1000000) hN
  have s0 := Mth.rt_nonneg (A * 1000000)
  have z := rr_one (A * 1000000) hN
  have q1 : rq (A * 1000000) 1 = Mth.rt (A * 1000000) := rq_one _
  have big : Mth.rt (A * 1000000) ≤ 31622776602 := Mth.isq_le_of s0 (by omega) (by omega)
  have e : ¬ (A < 0 ∨ (1000000 : Int) < 0) := by omega
  have v : Mth.rnd 2 false (rq (A * 1000000) 1) (rr (A * 1000000) 1) = if A * 1000000 ≤ Mth.rt (A * 1000000) * Mth.rt (A * 1000000) + Mth.rt (A * 1000000) then Mth.rt (A * 1000000) else Mth.rt (A * 1000000) + 1 := by
    rw [q1, z]
    generalize Mth.rt (A * 1000000) * Mth.rt (A * 1000000) = S at *
    generalize Mth.rt (A * 1000000) = r at *
    unfold Mth.rnd Mth.away
    by_cases c : A * 1000000 = S
    · have d : A * 1000000 ≤ S + r := by omega
      rw [if_pos c, if_pos d]; simp
    · rw [if_neg c]
      by_cases d : A * 1000000 ≤ S + r
      · rw [if_pos d, if_pos d]; simp
      · rw [if_neg d, if_neg d]; simp
  obtain ⟨x, y⟩ := rok_true 2 false (rq (A * 1000000) 1) (rr (A * 1000000) 1) _ (by omega) (by omega) v (by split <;> omega) (by split <;> omega)
  have ok : rtok A 1000000 2 = true := by unfold rtok; rw [if_neg e, y]
  have va : rtv A 1000000 2 = if A * 1000000 ≤ Mth.rt (A * 1000000) * Mth.rt (A * 1000000) + Mth.rt (A * 1000000) then Mth.rt (A * 1000000) else Mth.rt (A * 1000000) + 1 := by unfold rtv; rw [if_neg e, x]
  have sv : sqv A = rtv A 1000000 2 ∧ sqe A = 0 := by
    unfold sqv sqe
    rw [if_pos vA, if_pos vA, if_neg (by omega), if_neg (by omega), ok]
    exact tv_t (vld_t (by rw [va]; split <;> omega) (by rw [va]; split <;> omega))
  rw [sv.1, sv.2, va]
  clear x y ok va sv v z q1
  have s1 : (Mth.rt (A * 1000000) + 1) * (Mth.rt (A * 1000000) + 1) = Mth.rt (A * 1000000) * Mth.rt (A * 1000000) + 2 * Mth.rt (A * 1000000) + 1 := by simp only [Int.add_mul, Int.mul_add]; omega
  have s2 : (2 * Mth.rt (A * 1000000) - 1) * (2 * Mth.rt (A * 1000000) - 1) = 4 * (Mth.rt (A * 1000000) * Mth.rt (A * 1000000)) - 4 * Mth.rt (A * 1000000) + 1 := by
    simp only [Int.sub_mul, Int.mul_sub, Int.mul_assoc, Int.mul_left_comm _ (2 : Int)]; omega
  have s3 : (2 * Mth.rt (A * 1000000) + 1) * (2 * Mth.rt (A * 1000000) + 1) = 4 * (Mth.rt (A * 1000000) * Mth.rt (A * 1000000)) + 4 * Mth.rt (A * 1000000) + 1 := by
    simp only [Int.add_mul, Int.mul_add, Int.mul_assoc, Int.mul_left_comm _ (2 : Int)]; omega
  have s4 : (2 * (Mth.rt (A * 1000000) + 1) - 1) * (2 * (Mth.rt (A * 1000000) + 1) - 1) = 4 * (Mth.rt (A * 1000000) * Mth.rt (A * 1000000)) + 4 * Mth.rt (A * 1000000) + 1 := by
    rw [← s3]; congr 1 <;> omega
  have s5 : (2 * (Mth.rt (A * 1000000) + 1) + 1) * (2 * (Mth.rt (A * 1000000) + 1) + 1) = 4 * (Mth.rt (A * 1000000) * Mth.rt (A * 1000000)) + 12 * Mth.rt (A * 1000000) + 9 := by
    simp only [Int.add_mul, Int.mul_add, Int.mul_assoc, Int.mul_left_comm _ (2 : Int)]; omega
  rw [s1] at s
  by_cases c : A * 1000000 ≤ Mth.rt (A * 1000000) * Mth.rt (A * 1000000) + Mth.rt (A * 1000000)
  · rw [if_pos c, s2, s3]
    generalize Mth.rt (A * 1000000) * Mth.rt (A * 1000000) = S at *
    generalize Mth.rt (A * 1000000) = r at *
    refine ⟨rfl, s0, by omega, ?_, ?_⟩
    · by_cases h : r = 0
      · exact .inl h
      · right; unfold cmpI; split
        · decide
        · rw [if_pos (by omega)]; decide
    · unfold cmpI; rw [if_neg (by omega), if_neg (by omega)]; decide
  · rw [if_neg c, s4, s5]
    generalize Mth.rt (A * 1000000) * Mth.rt (A * 1000000) = S at *
    generalize Mth.rt (A * 1000000) = r at *
    refine ⟨rfl, by omega, by omega, ?_, ?_⟩
    · right; unfold cmpI; rw [if_pos (by omega)]; decide
    · unfold cmpI; rw [if_neg (by omega), if_neg (by omega)]; decide

end Go.Proofs.YthfgpmdgklphkaaDoor
