
/- Numbers as lists of digits to the base 65536: plain arithmetic of the specification of layer 1. No program in sight. -/
set_option linter.unusedVariables false
set_option linter.unusedSimpArgs false
namespace Go.Proofs.Ytijakijjeoaikaa.Dg

def val : List Int → Int
  | [] => 0
  | d :: ds => d + 65536 * val ds

def Dig (ds : List Int) : Prop := ∀ d ∈ ds, 0 ≤ d ∧ d ≤ 65535
/-- No leading zero. -/
def Top (ds : List Int) : Prop := ∀ d, ds.getLast? = some d → d ≠ 0

theorem dig_nil : Dig [] := fun _ h => by cases h
theorem dig_cons {d : Int} {ds : List Int} : Dig (d :: ds) ↔ (0 ≤ d ∧ d ≤ 65535) ∧ Dig ds := by
  constructor
  · intro h; exact ⟨h d (List.mem_cons_self), fun x hx => h x (List.mem_cons_of_mem _ hx)⟩
  · rintro ⟨h1, h2⟩ x hx
    rcases List.mem_cons.1 hx with rfl | hx
    · exact h1
    · exact h2 x hx
theorem dig_append {a b : List Int} : Dig (a ++ b) ↔ Dig a ∧ Dig b := by
  constructor
  · intro h; exact ⟨fun x hx => h x (List.mem_append_left _ hx), fun x hx => h x (List.mem_append_right _ hx)⟩
  · rintro ⟨h1, h2⟩ x hx
    rcases List.mem_append.1 hx with hx | hx
    · exact h1 x hx
    · exact h2 x hx
theorem dig_take {a : List Int} (h : Dig a) (k : Nat) : Dig (a.take k) := fun x hx => h x (List.mem_of_mem_take hx)
theorem dig_drop {a : List Int} (h : Dig a) (k : Nat) : Dig (a.drop k) := fun x hx => h x (List.mem_of_mem_drop hx)
theorem dig_get {a : List Int} (h : Dig a) (k : Nat) : 0 ≤ a.getD k 0 ∧ a.getD k 0 ≤ 65535 := by
  rcases Nat.lt_or_ge k a.length with c | c
  · rw [List.getD_eq_getElem?_getD, List.getElem?_eq_getElem c]
    exact h _ (List.getElem_mem c)
  · rw [List.getD_eq_getElem?_getD, List.getElem?_eq_none c]
    exact ⟨by decide, by decide⟩
theorem dig_set {a : List Int} (h : Dig a) (k : Nat) (d : Int) (hd : 0 ≤ d ∧ d ≤ 65535) : Dig (a.set k d) := fun x hx => by
  rcases List.mem_or_eq_of_mem_set hx with hx | rfl
  · exact h x hx
  · exact hd
theorem dig_replicate (n : Nat) : Dig (List.replicate n 0) := fun x hx => by
  rw [List.eq_of_mem_replicate hx]; exact ⟨by decide, by decide⟩

theorem pow_pos (k : Nat) : (0 : Int) < 65536 ^ k := Int.pow_pos (by decide)
theorem pow_succ (k : Nat) : (65536 : Int) ^ (k + 1) = 65536 * 65536 ^ k := by rw [Int.pow_succ, Int.mul_comm]

theorem val_append (a b : List Int) : val (a ++ b) = val a + 65536 ^ a.length * val b := by
  induction a with
  | nil => simp [val]
  | cons d ds ih =>
    rw [List.cons_append, val, val, ih, List.length_cons, pow_succ, Int.mul_add, Int.mul_assoc]
    omega

theorem val_nonneg {a : List Int} (h : Dig a) : 0 ≤ val a := by
  induction a with
  | nil => simp [val]
  | cons d ds ih => obtain ⟨h1, h2⟩ := dig_cons.1 h; have := ih h2; rw [val]; omega

theorem val_lt {a : List Int} (h : Dig a) : val a < 65536 ^ a.length := by
  induction a with
  | nil => simp [val]
  | cons d ds ih => obtain ⟨h1, h2⟩ := dig_cons.1 h; have := ih h2; rw [val, List.length_cons, pow_succ]; omega

theorem val_replicate (n : Nat) : val (List.replicate n 0) = 0 := by
  induction n with
  | zero => rfl
  | succ n ih => rw [List.replicate_succ, val, ih]; rfl

/-- One digit in the middle. -/
theorem val_split (a : List Int) (k : Nat) (h : k < a.length) : val a = val (a.take k) + 65536 ^ k * a.getD k 0 + 65536 ^ (k + 1) * val (a.drop (k + 1)) := by
  have e : a = a.take k ++ (a[k] :: a.drop (k + 1)) := by rw [List.getElem_cons_drop]; exact (List.take_append_drop k a).symm
  have l : (a.take k).length = k := by rw [List.length_take]; omega
  have g : a.getD k 0 = a[k] := by rw [List.getD_eq_getElem?_getD, List.getElem?_eq_getElem h]; rfl
  rw [g]
  conv => lhs; rw [e]
  rw [val_append, val, l, pow_succ, Int.mul_add, ← Int.mul_assoc, Int.mul_comm (65536 ^ k) 65536]
  omega

theorem val_take_succ (a : List Int) (k : Nat) : val (a.take (k + 1)) = val (a.take k) + 65536 ^ k * a.getD k 0 := by
  rcases Nat.lt_or_ge k a.length with c | c
  · rw [List.take_succ_eq_append_getElem c, val_append]
    have l : (a.take k).length = k := by rw [List.length_take]; omega
    rw [l, List.getD_eq_getElem?_getD, List.getElem?_eq_getElem c, val, val]
    simp
  · rw [List.take_of_length_le (by omega), List.take_of_length_le c, List.getD_eq_getElem?_getD, List.getElem?_eq_none c]
    simp

theorem val_set (a : List Int) (k : Nat) (d : Int) (h : k < a.length) : val (a.set k d) = val a + 65536 ^ k * (d - a.getD k 0) := by
  have s1 := val_split a k h
  have s2 := val_split (a.set k d) k (by rw [List.length_set]; exact h)
  rw [List.take_set_of_le (by omega), List.drop_set_of_lt (by omega)] at s2
  have g : (a.set k d).getD k 0 = d := by
    rw [List.getD_eq_getElem?_getD, List.getElem?_set_self h]; rfl
  rw [g] at s2
  rw [s2, s1, Int.mul_sub]
  omega

theorem get_set (a : List Int) (j k : Nat) (d : Int) (h : k < a.length) : (a.set k d).getD j 0 = if j = k then d else a.getD j 0 := by
  rw [List.getD_eq_getElem?_getD, List.getD_eq_getElem?_getD, List.getElem?_set]
  by_cases c : k = j
  · subst c; simp [h]
  · rw [if_neg c, if_neg (fun e => c e.symm)]

theorem top_ge {a : List Int} (h : Dig a) (t : Top a) (h0 : a ≠ []) : 65536 ^ (a.length - 1) ≤ val a := by
  have l : 0 < a.length := List.length_pos_iff.2 h0
  have s := val_split a (a.length - 1) (by omega)
  have n1 := val_nonneg (dig_take h (a.length - 1))
  have e : a.length - 1 + 1 = a.length := by omega
  rw [e, List.drop_length, val] at s
  have g : a.getLast? = some (a.getD (a.length - 1) 0) := by
    rw [List.getLast?_eq_getElem?, List.getD_eq_getElem?_getD, List.getElem?_eq_getElem (by omega)]; rfl
  have d1 := t _ g
  obtain ⟨d2, _⟩ := dig_get h (a.length - 1)
  have p := pow_pos (a.length - 1)
  have m : (65536 : Int) ^ (a.length - 1) * 1 ≤ 65536 ^ (a.length - 1) * a.getD (a.length - 1) 0 := Int.mul_le_mul_of_nonneg_left (by omega) (by omega)
  rw [Int.mul_zero] at s
  omega

theorem pow_mono {j k : Nat} (h : j ≤ k) : (65536 : Int) ^ j ≤ 65536 ^ k := by
  have := Nat.pow_le_pow_right (show 0 < 65536 by decide) h
  rw [show ((65536 : Int) ^ j) = ((65536 ^ j : Nat) : Int) from (Int.natCast_pow 65536 _).symm, show ((65536 : Int) ^ k) = ((65536 ^ k : Nat) : Int) from (Int.natCast_pow 65536 _).symm]
  omega

/-- The shorter number is the smaller one. -/
theorem shorter {a b : List Int} (ha : Dig a) (hb : Dig b) (tb : Top b) (h : a.length < b.length) : val a < val b := by
  have h0 : b ≠ [] := by intro e; rw [e] at h; simp at h
  have g := top_ge hb tb h0
  have l := val_lt ha
  have p := pow_mono (show a.length ≤ b.length - 1 by omega)
  omega

/-- The first digit that differs, from above, decides. -/
theorem first_digit {a b : List Int} (ha : Dig a) (k : Nat) (h1 : k < a.length) (h2 : k < b.length) (hb : Dig b) (e : a.drop (k + 1) = b.drop (k + 1)) (h : a.getD k 0 < b.getD k 0) : val a < val b := by
  have s1 := val_split a k h1
  have s2 := val_split b k h2
  have l1 := val_lt (dig_take ha k)
  have l2 := val_nonneg (dig_take hb k)
  rw [List.length_take, Nat.min_eq_left (by omega)] at l1
  have p := pow_pos k
  have m : (65536 : Int) ^ k * (a.getD k 0 + 1) ≤ 65536 ^ k * b.getD k 0 := Int.mul_le_mul_of_nonneg_left (by omega) (by omega)
  rw [Int.mul_add, Int.mul_one] at m
  rw [e] at s1
  omega

theorem drop_eq_step {a b : List Int} (k : Nat) (h1 : k < a.length) (h2 : k < b.length) (e : a.drop (k + 1) = b.drop (k + 1)) (h : a.getD k 0 = b.getD k 0) : a.drop k = b.drop k := by
  rw [← List.getElem_cons_drop h1, ← List.getElem_cons_drop h2, e]
  rw [List.getD_eq_getElem?_getD, List.getElem?_eq_getElem h1, List.getD_eq_getElem?_getD, List.getElem?_eq_getElem h2] at h
  simp at h
  rw [h]

/-! ### a digit of a sum -/
theorem add_digit (a b : List Int) (k : Nat) (D : Int) (c : Int) (hD : D + 65536 ^ k * c = val (a.take k) + val (b.take k)) (v : Int) (hv : v = c + a.getD k 0 + b.getD k 0) :
    D + 65536 ^ k * (v % 65536) + 65536 ^ (k + 1) * (v / 65536) = val (a.take (k + 1)) + val (b.take (k + 1)) := by
  rw [val_take_succ, val_take_succ, pow_succ, Int.mul_assoc, ← Int.mul_assoc 65536, Int.mul_comm 65536 (65536 ^ k), Int.mul_assoc]
  have d := Int.emod_add_mul_ediv v 65536
  have e : (65536 : Int) ^ k * (v % 65536) + 65536 ^ k * (65536 * (v / 65536)) = 65536 ^ k * v := by rw [← Int.mul_add, d]
  have f : (65536 : Int) ^ k * v = 65536 ^ k * c + 65536 ^ k * a.getD k 0 + 65536 ^ k * b.getD k 0 := by rw [hv, Int.mul_add, Int.mul_add]
  omega

/-! ### a digit of a product -/
/-- One step of the inner loop: O the digits so far, i the outer place, k the inner one. -/
theorem mul_digit (O : List Int) (b : List Int) (i k : Nat) (x c S : Int) (hik : i + k < O.length)
    (h : val O + 65536 ^ (i + k) * c = S + 65536 ^ i * (x * val (b.take k))) (v : Int) (hv : v = O.getD (i + k) 0 + x * b.getD k 0 + c) :
    val (O.set (i + k) (v % 65536)) + 65536 ^ (i + (k + 1)) * (v / 65536) = S + 65536 ^ i * (x * val (b.take (k + 1))) := by
  rw [val_set _ _ _ hik, val_take_succ, ← Nat.add_assoc, pow_succ, Int.mul_comm 65536 (65536 ^ (i + k)), Int.mul_assoc]
  have d := Int.emod_add_mul_ediv v 65536
  have e : (65536 : Int) ^ (i + k) * (v % 65536 - O.getD (i + k) 0) + 65536 ^ (i + k) * (65536 * (v / 65536)) = 65536 ^ (i + k) * (v - O.getD (i + k) 0) := by
    rw [← Int.mul_add]; congr 1; omega
  have f : (65536 : Int) ^ (i + k) * (v - O.getD (i + k) 0) = 65536 ^ (i + k) * (x * b.getD k 0) + 65536 ^ (i + k) * c := by
    rw [← Int.mul_add]; congr 1; omega
  have g : (65536 : Int) ^ i * (x * (val (b.take k) + 65536 ^ k * b.getD k 0)) = 65536 ^ i * (x * val (b.take k)) + 65536 ^ (i + k) * (x * b.getD k 0) := by
    rw [Int.mul_add, Int.mul_add, Int.pow_add, Int.mul_left_comm x, Int.mul_assoc]
  omega

/-- The last carry of a row. -/
theorem mul_row (O : List Int) (a b : List Int) (i : Nat) (c : Int) (hi : i + b.length < O.length)
    (h : val O + 65536 ^ (i + b.length) * c = val (a.take i) * val b + 65536 ^ i * (a.getD i 0 * val (b.take b.length))) (z : O.getD (i + b.length) 0 = 0) :
    val (O.set (i + b.length) (0 + c)) = val (a.take (i + 1)) * val b := by
  rw [val_set _ _ _ hi, z, val_take_succ, Int.add_mul, Int.mul_assoc]
  rw [List.take_length] at h
  rw [show (0 : Int) + c - 0 = c from by omega]
  exact h

end Go.Proofs.Ytijakijjeoaikaa.Dg
