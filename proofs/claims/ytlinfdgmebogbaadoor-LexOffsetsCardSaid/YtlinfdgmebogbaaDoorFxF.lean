
/- Plain facts on what Format writes. -/
import Derived.Test.YtlinfdgmebogbaaDoorFxP
set_option linter.unusedVariables false
set_option linter.unusedSimpArgs false
namespace Go.Proofs.YtlinfdgmebogbaaDoor

/-- The unit of digit k behind the point, and of the digit ahead of it. -/
def un : Nat → Int
  | 0 => 100000 | 1 => 10000 | 2 => 1000 | 3 => 100 | 4 => 10 | 5 => 1 | _ => 0
def um : Nat → Int
  | 0 => 1000000 | 1 => 100000 | 2 => 10000 | 3 => 1000 | 4 => 100 | 5 => 10 | _ => 1

theorem k6 {k : Nat} (h : k ≤ 6) : k = 0 ∨ k = 1 ∨ k = 2 ∨ k = 3 ∨ k = 4 ∨ k = 5 ∨ k = 6 := by omega

/-- Digit k of a fraction, as a number and as a byte. -/
def dn (f : Int) (k : Nat) : Int := f % um k / un k
def dg (f : Int) (k : Nat) : UInt8 := UInt8.ofNat (48 + dn f k).toNat
def dgs (f : Int) (k : Nat) : List UInt8 := (List.range k).map (dg f)

theorem dgs_succ (f : Int) (k : Nat) : dgs f (k + 1) = dgs f k ++ [dg f k] := by unfold dgs; rw [List.range_succ, List.map_append]; rfl
theorem dgs_length (f : Int) (k : Nat) : (dgs f k).length = k := by unfold dgs; simp

theorem dn_bd (f : Int) (k : Nat) (h : k ≤ 5) : 0 ≤ dn f k ∧ dn f k ≤ 9 := by
  unfold dn
  rcases k6 (show k ≤ 6 by omega) with rfl | rfl | rfl | rfl | rfl | rfl | rfl <;> simp only [um, un] <;> omega

theorem dg_nat (f : Int) (k : Nat) (h : k ≤ 5) : ((dg f k).toNat : Int) = 48 + dn f k := by
  have := dn_bd f k h
  unfold dg
  rw [UInt8.toNat_ofNat']
  omega

theorem un_um (k : Nat) (h : k ≤ 5) : un k = um (k + 1) ∧ 1 ≤ un k ∧ un k ≤ 100000 ∧ um k = 10 * un k := by
  rcases k6 (show k ≤ 6 by omega) with rfl | rfl | rfl | rfl | rfl | rfl | rfl <;> first | decide | omega

theorem un_step (k : Nat) (h : k ≤ 5) : un k / 10 = un (k + 1) := by
  rcases k6 (show k ≤ 6 by omega) with rfl | rfl | rfl | rfl | rfl | rfl | rfl <;> first | decide | omega

theorem mod_step (f : Int) (k : Nat) (h : k ≤ 5) : f % um k % un k = f % um (k + 1) := by
  rcases k6 (show k ≤ 6 by omega) with rfl | rfl | rfl | rfl | rfl | rfl | rfl <;> simp only [um, un] <;> omega

theorem um_pos (k : Nat) : 1 ≤ um k := by
  unfold um; split <;> omega

/-- How many digits of a fraction are written. -/
def kf (f : Int) : Nat := if f % 100000 = 0 then 1 else if f % 10000 = 0 then 2 else if f % 1000 = 0 then 3 else if f % 100 = 0 then 4 else if f % 10 = 0 then 5 else 6

theorem kf_range (f : Int) : 1 ≤ kf f ∧ kf f ≤ 6 := by unfold kf; (repeat' split) <;> omega

theorem kf_eq {f : Int} {k : Nat} (hk : k ≤ 6) (h0 : f % um 0 ≠ 0) (h1 : f % um k = 0) (h2 : ∀ i, i < k → f % um i ≠ 0) : kf f = k := by
  unfold kf
  rcases k6 hk with rfl | rfl | rfl | rfl | rfl | rfl | rfl
  · exact absurd h1 h0
  · simp only [um] at h1; rw [if_pos h1]
  · have a := h2 1 (by omega); simp only [um] at h1 a; rw [if_neg a, if_pos h1]
  · have a := h2 1 (by omega); have b := h2 2 (by omega); simp only [um] at h1 a b; rw [if_neg a, if_neg b, if_pos h1]
  · have a := h2 1 (by omega); have b := h2 2 (by omega); have c := h2 3 (by omega); simp only [um] at h1 a b c; rw [if_neg a, if_neg b, if_neg c, if_pos h1]
  · have a := h2 1 (by omega); have b := h2 2 (by omega); have c := h2 3 (by omega); have d := h2 4 (by omega); simp only [um] at h1 a b c d; rw [if_neg a, if_neg b, if_neg c, if_neg d, if_pos h1]
  · have a := h2 1 (by omega); have b := h2 2 (by omega); have c := h2 3 (by omega); have d := h2 4 (by omega); have e := h2 5 (by omega); simp only [um] at a b c d e; rw [if_neg a, if_neg b, if_neg c, if_neg d, if_neg e]

theorem kf_mod (f : Int) : f % um (kf f) = 0 := by
  unfold kf
  split
  · assumption
  · split
    · assumption
    · split
      · assumption
      · split
        · assumption
        · split
          · assumption
          · simp only [um]; omega

/-- The zeros at the end. -/
theorem zero_step (f : Int) (k : Nat) (hk : k ≤ 5) (h : f % um (k + 1) = 0) : (dn f k = 0 → f % um k = 0) ∧ (dn f k ≠ 0 → ∀ i, i < k + 1 → f % um i ≠ 0) := by
  unfold dn
  refine ⟨?_, ?_⟩
  · rcases k6 (show k ≤ 6 by omega) with rfl | rfl | rfl | rfl | rfl | rfl | rfl <;> simp only [um, un] at h ⊢ <;> omega
  · intro hn i hi
    rcases k6 (show k ≤ 6 by omega) with rfl | rfl | rfl | rfl | rfl | rfl | rfl <;> simp only [um, un] at h hn <;>
      rcases k6 (show i ≤ 6 by omega) with rfl | rfl | rfl | rfl | rfl | rfl | rfl <;> simp only [um] <;> omega

/-- The text of a fraction. -/
def frac (f : Int) : List UInt8 := if f = 0 then [] else 46 :: dgs f (kf f)

/-- The text of a number that is not negative. -/
def fmtp (n : Int) : List UInt8 := Lib.decDigits (n / 1000000).toNat ++ frac (n % 1000000)
/-- The text of a number. -/
def fmtl (n : Int) : List UInt8 := if vld n = true then (if n < 0 then 45 :: fmtp (-n) else fmtp n) else []

/-! ### decimal digits -/

theorem dec_small {u : Nat} (h : u < 10) : Lib.decDigits u = [UInt8.ofNat (48 + u)] := by rw [Lib.decDigits, dif_pos h]
theorem dec_big {u : Nat} (h : ¬ u < 10) : Lib.decDigits u = Lib.decDigits (u / 10) ++ [UInt8.ofNat (48 + u % 10)] := by rw [Lib.decDigits, dif_neg h]

theorem dec_digits (u : Nat) : ∀ c ∈ Lib.decDigits u, isd c = true := by
  induction u using Nat.strongRecOn with
  | _ u ih =>
    have one : ∀ x, x < 10 → isd (UInt8.ofNat (48 + x)) = true := by
      intro x hx
      unfold isd
      rw [UInt8.toNat_ofNat']
      exact decide_eq_true (by omega)
    intro c hc
    by_cases h : u < 10
    · rw [dec_small h] at hc
      simp only [List.mem_singleton] at hc
      subst hc; exact one u h
    · rw [dec_big h] at hc
      rcases List.mem_append.1 hc with hc | hc
      · exact ih (u / 10) (by omega) c hc
      · simp only [List.mem_singleton] at hc
        subst hc; exact one _ (by omega)

theorem dec_vl (u : Nat) : vl 0 (Lib.decDigits u) = u := by
  induction u using Nat.strongRecOn with
  | _ u ih =>
    have one : ∀ x, x < 10 → ((UInt8.ofNat (48 + x)).toNat : Int) - 48 = x := by
      intro x hx
      rw [UInt8.toNat_ofNat']
      omega
    by_cases h : u < 10
    · rw [dec_small h]
      show 0 * 10 + (((UInt8.ofNat (48 + u)).toNat : Int) - 48) = u
      rw [one u h]; omega
    · rw [dec_big h, vl_snoc, ih (u / 10) (by omega), one _ (by omega)]
      omega

theorem dec_ne (u : Nat) : Lib.decDigits u ≠ [] := by
  by_cases h : u < 10
  · rw [dec_small h]; simp
  · rw [dec_big h]; simp

theorem dec_len (k u : Nat) (h : u < 10 ^ (k + 1)) : (Lib.decDigits u).length ≤ k + 1 := by
  induction k generalizing u with
  | zero => rw [dec_small (by simpa using h)]; simp
  | succ k ih =>
    by_cases c : u < 10
    · rw [dec_small c]; simp
    · rw [dec_big c, List.length_append]
      have := ih (u / 10) (by rw [Nat.pow_succ] at h; omega)
      simp; omega

/-- The seven digits of a million and a fraction. -/
theorem dec_seven (f : Int) (h0 : 0 ≤ f) (h1 : f < 1000000) : Lib.decDigits (1000000 + f).toNat = 49 :: dgs f 6 := by
  obtain ⟨n, rfl⟩ := Int.eq_ofNat_of_zero_le h0
  have e : (1000000 + (n : Int)).toNat = 1000000 + n := by omega
  have d0 : dg (n : Int) 0 = UInt8.ofNat (48 + (1000000 + n) / 100000 % 10) := by unfold dg dn; congr 1; simp only [um, un]; omega
  have d1 : dg (n : Int) 1 = UInt8.ofNat (48 + (1000000 + n) / 10000 % 10) := by unfold dg dn; congr 1; simp only [um, un]; omega
  have d2 : dg (n : Int) 2 = UInt8.ofNat (48 + (1000000 + n) / 1000 % 10) := by unfold dg dn; congr 1; simp only [um, un]; omega
  have d3 : dg (n : Int) 3 = UInt8.ofNat (48 + (1000000 + n) / 100 % 10) := by unfold dg dn; congr 1; simp only [um, un]; omega
  have d4 : dg (n : Int) 4 = UInt8.ofNat (48 + (1000000 + n) / 10 % 10) := by unfold dg dn; congr 1; simp only [um, un]; omega
  have d5 : dg (n : Int) 5 = UInt8.ofNat (48 + (1000000 + n) / 1 % 10) := by unfold dg dn; congr 1; simp only [um, un]; omega
  rw [e, dec_big (by omega), dec_big (by omega), dec_big (by omega), dec_big (by omega), dec_big (by omega), dec_big (by omega), dec_small (by omega)]
  rw [show dgs (n : Int) 6 = [dg n 0, dg n 1, dg n 2, dg n 3, dg n 4, dg n 5] from rfl, d0, d1, d2, d3, d4, d5]
  simp only [List.cons_append, List.nil_append, List.append_assoc]
  have q : (1000000 + n) / 10 / 10 / 10 / 10 / 10 / 10 = 1 := by omega
  have g0 : (1000000 + n) / 10 / 10 / 10 / 10 / 10 % 10 = (1000000 + n) / 100000 % 10 := by omega
  have g1 : (1000000 + n) / 10 / 10 / 10 / 10 % 10 = (1000000 + n) / 10000 % 10 := by omega
  have g2 : (1000000 + n) / 10 / 10 / 10 % 10 = (1000000 + n) / 1000 % 10 := by omega
  have g3 : (1000000 + n) / 10 / 10 % 10 = (1000000 + n) / 100 % 10 := by omega
  have g4 : (1000000 + n) / 10 % 10 = (1000000 + n) / 10 % 10 := by omega
  have g5 : (1000000 + n) % 10 = (1000000 + n) / 1 % 10 := by omega
  rw [q, g0, g1, g2, g3, g4, g5]
  rfl

/-! ### Parse reads what Format writes -/

theorem dgs_digits (f : Int) (k : Nat) (hk : k ≤ 6) : ∀ c ∈ dgs f k, isd c = true := by
  intro c hc
  unfold dgs at hc
  obtain ⟨i, hi, rfl⟩ := List.mem_map.1 hc
  have hi' : i < k := List.mem_range.1 hi
  have := dn_bd f i (by omega)
  unfold isd
  rw [dg_nat f i (by omega)]
  exact decide_eq_true (by omega)

theorem dgs_vl (f n : Int) (h0 : 0 ≤ f) (h1 : f < 1000000) (k : Nat) (hk : k ≤ 6) : vl n (dgs f k) = n * 10 ^ k + f / um k := by
  induction k with
  | zero => simp only [dgs, List.range_zero, List.map_nil, vl, um]; omega
  | succ k ih =>
    rw [dgs_succ, vl_snoc, ih (by omega), dg_nat f k (by omega), Int.pow_succ, ← Int.mul_assoc]
    generalize n * 10 ^ k = Z
    unfold dn
    rcases k6 (show k ≤ 6 by omega) with rfl | rfl | rfl | rfl | rfl | rfl | rfl <;> simp only [um, un] <;> omega

theorem um_pow (k : Nat) (hk : k ≤ 6) : (10 : Int) ^ (6 - k) = um k ∧ (10 : Int) ^ k * um k = 1000000 := by
  rcases k6 hk with rfl | rfl | rfl | rfl | rfl | rfl | rfl <;> decide

theorem fmt_parse (m : Int) (h0 : 0 ≤ m) (h1 : m < 1000000000000000) : prv (fmtp m) = m ∧ pre (fmtp m) = 0 := by
  obtain ⟨q, hq⟩ : ∃ q : Nat, (q : Int) = m / 1000000 := ⟨(m / 1000000).toNat, by omega⟩
  have hn : (m / 1000000).toNat = q := by omega
  have D : Dgs (Lib.decDigits q) 9 := ⟨dec_len 8 q (by have : (10 : Nat) ^ 9 = 1000000000 := by decide
                                                       omega), dec_digits q⟩
  unfold fmtp frac
  rw [hn]
  by_cases c : m % 1000000 = 0
  · rw [if_pos c, List.append_nil]
    have ok := pok_plain D (dec_ne q)
    unfold prv pre
    rw [if_pos ok, if_pos ok, pnum_plain D, dec_vl]
    exact ⟨by omega, rfl⟩
  · rw [if_neg c]
    have kr := kf_range (m % 1000000)
    have F : Dgs (dgs (m % 1000000) (kf (m % 1000000))) 6 := ⟨by rw [dgs_length]; exact kr.2, dgs_digits _ _ kr.2⟩
    have ok := pok_point D F (by rw [dgs_length]; omega)
    have z := kf_mod (m % 1000000)
    unfold prv pre
    rw [if_pos ok, if_pos ok, pnum_point D F, dec_vl, dgs_vl _ _ (by omega) (by omega) _ kr.2, dgs_length]
    obtain ⟨p1, p2⟩ := um_pow _ kr.2
    refine ⟨?_, rfl⟩
    rw [p1, Int.add_mul, Int.mul_assoc, p2]
    have := Int.emod_add_mul_ediv (m % 1000000) (um (kf (m % 1000000)))
    rw [z, Int.mul_comm] at this
    omega

end Go.Proofs.YtlinfdgmebogbaaDoor
