import Derived.Test.YtihmifdadikhaaaGA
import Derived.WalkSmall

/- Numbers as lists of digits to the base 65536: plain arithmetic of the specification of layer 1. No program in sight. -/
set_option linter.unusedVariables false
set_option linter.unusedSimpArgs false
namespace Go.Proofs.Ytihmifdadikhaaa.Dg

def val : List Int → Int
  | [] => 0
  | d :: ds => d + 65536 * val ds

def Dig (ds : List Int) : Prop := ∀ d ∈ ds, 0 ≤ d ∧ d ≤ 65535
/-- No leading zero. -/
def Top (ds : List Int) : Prop := ∀ d, ds.getLast? = some d → d ≠ 0

theorem dig_nil : Dig [] := fun _ h => by cases h
theorem dig_cons {d : Int} {ds : List Int} : Dig (d :: ds) ↔ (0 ≤ d ∧ d ≤ 65535) ∧ Dig ds := by
  constructor
  · intro h; exact ⟨h d (List.mem_cons_self), fun x hx => h x (List.mem_cons_of_mem _ hx)⟩
  · rintro ⟨h1, h2⟩ x hx
    rcases List.mem_cons.1 hx with rfl | hx
    · exact h1
    · exact h2 x hx
theorem dig_append {a b : List Int} : Dig (a ++ b) ↔ Dig a ∧ Dig b := by
  constructor
  · intro h; exact ⟨fun x hx => h x (List.mem_append_left _ hx), fun x hx => h x (List.mem_append_right _ hx)⟩
  · rintro ⟨h1, h2⟩ x hx
    rcases List.mem_append.1 hx with hx | hx
    · exact h1 x hx
    · exact h2 x hx
theorem dig_take {a : List Int} (h : Dig a) (k : Nat) : Dig (a.take k) := fun x hx => h x (List.mem_of_mem_take hx)
theorem dig_drop {a : List Int} (h : Dig a) (k : Nat) : Dig (a.drop k) := fun x hx => h x (List.mem_of_mem_drop hx)
theorem dig_get {a : List Int} (h : Dig a) (k : Nat) : 0 ≤ a.getD k 0 ∧ a.getD k 0 ≤ 65535 := by
  rcases Nat.lt_or_ge k a.length with c | c
  · rw [List.getD_eq_getElem?_getD, List.getElem?_eq_getElem c]
    exact h _ (List.getElem_mem c)
  · rw [List.getD_eq_getElem?_getD, List.getElem?_eq_none c]
    exact ⟨by decide, by decide⟩
theorem dig_set {a : List Int} (h : Dig a) (k : Nat) (d : Int) (hd : 0 ≤ d ∧ d ≤ 65535) : Dig (a.set k d) := fun x hx => by
  rcases List.mem_or_eq_of_mem_set hx with hx | rfl
  · exact h x hx
  · exact hd
theorem dig_replicate (n : Nat) : Dig (List.replicate n 0) := fun x hx => by
  rw [List.eq_of_mem_replicate hx]; exact ⟨by decide, by decide⟩

theorem pow_pos (k : Nat) : (0 : Int) < 65536 ^ k := Int.pow_pos (by decide)
theorem pow_succ (k : Nat) : (65536 : Int) ^ (k + 1) = 65536 * 65536 ^ k := by rw [Int.pow_succ, Int.mul_comm]

theorem val_append (a b : List Int) : val (a ++ b) = val a + 65536 ^ a.length * val b := by
  induction a with
  | nil => simp [val]
  | cons d ds ih =>
    rw [List.cons_append, val, val, ih, List.length_cons, pow_succ, Int.mul_add, Int.mul_assoc]
    omega

theorem val_nonneg {a : List Int} (h : Dig a) : 0 ≤ val a := by
  induction a with
  | nil => simp [val]
  | cons d ds ih => obtain ⟨h1, h2⟩ := dig_cons.1 h; have := ih h2; rw [val]; omega

theorem val_lt {a : List Int} (h : Dig a) : val a < 65536 ^ a.length := by
  induction a with
  | nil => simp [val]
  | cons d ds ih => obtain ⟨h1, h2⟩ := dig_cons.1 h; have := ih h2; rw [val, List.length_cons, pow_succ]; omega

theorem val_replicate (n : Nat) : val (List.replicate n 0) = 0 := by
  induction n with
  | zero => rfl
  | succ n ih => rw [List.replicate_succ, val, ih]; rfl

/-- One digit in the middle. -/
theorem val_split (a : List Int) (k : Nat) (h : k < a.length) : val a = val (a.take k) + 65536 ^ k * a.getD k 0 + 65536 ^ (k + 1) * val (a.drop (k + 1)) := by
  have e : a = a.take k ++ (a[k] :: a.drop (k + 1)) := by rw [List.getElem_cons_drop]; exact (List.take_append_drop k a).symm
  have l : (a.take k).length = k := by rw [List.length_take]; omega
  have g : a.getD k 0 = a[k] := by rw [List.getD_eq_getElem?_getD, List.getElem?_eq_getElem h]; rfl
  rw [g]
  conv => lhs; rw [e]
  rw [val_append, val, l, pow_succ, Int.mul_add, ← Int.mul_assoc, Int.mul_comm (65536 ^ k) 65536]
  omega

theorem val_take_succ (a : List Int) (k : Nat) : val (a.take (k + 1)) = val (a.take k) + 65536 ^ k * a.getD k 0 := by
  rcases Nat.lt_or_ge k a.length with c | c
  · rw [List.take_succ_eq_append_getElem c, val_append]
    have l : (a.take k).length = k := by rw [List.length_take]; omega
    rw [l, List.getD_eq_getElem?_getD, List.getElem?_eq_getElem c, val, val]
    simp
  · rw [List.take_of_length_le (by omega), List.take_of_length_le c, List.getD_eq_getElem?_getD, List.getElem?_eq_none c]
    simp

theorem val_set (a : List Int) (k : Nat) (d : Int) (h : k < a.length) : val (a.set k d) = val a + 65536 ^ k * (d - a.getD k 0) := by
  have s1 := val_split a k h
  have s2 := val_split (a.set k d) k (by rw [List.length_set]; exact h)
  rw [List.take_set_of_le (by omega), List.drop_set_of_lt (by omega)] at s2
  have g : (a.set k d).getD k 0 = d := by
    rw [List.getD_eq_getElem?_getD, List.getElem?_set_self h]; rfl
  rw [g] at s2
  rw [s2, s1, Int.mul_sub]
  omega

theorem get_set (a : List Int) (j k : Nat) (d : Int) (h : k < a.length) : (a.set k d).getD j 0 = if j = k then d else a.getD j 0 := by
  rw [List.getD_eq_getElem?_getD, List.getD_eq_getElem?_getD, List.getElem?_set]
  by_cases c : k = j
  · subst c; simp [h]
  · rw [if_neg c, if_neg (fun e => c e.symm)]

theorem top_ge {a : List Int} (h : Dig a) (t : Top a) (h0 : a ≠ []) : 65536 ^ (a.length - 1) ≤ val a := by
  have l : 0 < a.length := List.length_pos_iff.2 h0
  have s := val_split a (a.length - 1) (by omega)
  have n1 := val_nonneg (dig_take h (a.length - 1))
  have e : a.length - 1 + 1 = a.length := by omega
  rw [e, List.drop_length, val] at s
  have g : a.getLast? = some (a.getD (a.length - 1) 0) := by
    rw [List.getLast?_eq_getElem?, List.getD_eq_getElem?_getD, List.getElem?_eq_getElem (by omega)]; rfl
  have d1 := t _ g
  obtain ⟨d2, _⟩ := dig_get h (a.length - 1)
  have p := pow_pos (a.length - 1)
  have m : (65536 : Int) ^ (a.length - 1) * 1 ≤ 65536 ^ (a.length - 1) * a.getD (a.length - 1) 0 := Int.mul_le_mul_of_nonneg_left (by omega) (by omega)
  rw [Int.mul_zero] at s
  omega

theorem pow_mono {j k : Nat} (h : j ≤ k) : (65536 : Int) ^ j ≤ 65536 ^ k := by
  have := Nat.pow_le_pow_right (show 0 < 65536 by decide) h
  rw [show ((65536 : Int) ^ j) = ((65536 ^ j : Nat) : Int) from (Int.natCast_pow 65536 _).symm, show ((65536 : Int) ^ k) = ((65536 ^ k : Nat) : Int) from (Int.natCast_pow 65536 _).symm]
  omega

/-- The shorter number is the smaller one. -/
theorem shorter {a b : List Int} (ha : Dig a) (hb : Dig b) (tb : Top b) (h : a.length < b.length) : val a < val b := by
  have h0 : b ≠ [] := by intro e; rw [e] at h; simp at h
  have g := top_ge hb tb h0
  have l := val_lt ha
  have p := pow_mono (show a.length ≤ b.length - 1 by omega)
  omega

/-- The first digit that differs, from above, decides. -/
theorem first_digit {a b : List Int} (ha : Dig a) (k : Nat) (h1 : k < a.length) (h2 : k < b.length) (hb : Dig b) (e : a.drop (k + 1) = b.drop (k + 1)) (h : a.getD k 0 < b.getD k 0) : val a < val b := by
  have s1 := val_split a k h1
  have s2 := val_split b k h2
  have l1 := val_lt (dig_take ha k)
  have l2 := val_nonneg (dig_take hb k)
  rw [List.length_take, Nat.min_eq_left (by omega)] at l1
  have p := pow_pos k
  have m : (65536 : Int) ^ k * (a.getD k 0 + 1) ≤ 65536 ^ k * b.getD k 0 := Int.mul_le_mul_of_nonneg_left (by omega) (by omega)
  rw [Int.mul_add, Int.mul_one] at m
  rw [e] at s1
  omega

theorem drop_eq_step {a b : List Int} (k : Nat) (h1 : k < a.length) (h2 : k < b.length) (e : a.drop (k + 1) = b.drop (k + 1)) (h : a.getD k 0 = b.getD k 0) : a.drop k = b.drop k := by
  rw [← List.getElem_cons_drop h1, ← List.getElem_cons_drop h2, e]
  rw [List.getD_eq_getElem?_getD, List.getElem?_eq_getElem h1, List.getD_eq_getElem?_getD, List.getElem?_eq_getElem h2] at h
  simp at h
  rw [h]

/-! ### a digit of a sum -/
theorem add_digit (a b : List Int) (k : Nat) (D : Int) (c : Int) (hD : D + 65536 ^ k * c = val (a.take k) + val (b.take k)) (v : Int) (hv : v = c + a.getD k 0 + b.getD k 0) :
    D + 65536 ^ k * (v % 65536) + 65536 ^ (k + 1) * (v / 65536) = val (a.take (k + 1)) + val (b.take (k + 1)) := by
  rw [val_take_succ, val_take_succ, pow_succ, Int.mul_assoc, ← Int.mul_assoc 65536, Int.mul_comm 65536 (65536 ^ k), Int.mul_assoc]
  have d := Int.emod_add_mul_ediv v 65536
  have e : (65536 : Int) ^ k * (v % 65536) + 65536 ^ k * (65536 * (v / 65536)) = 65536 ^ k * v := by rw [← Int.mul_add, d]
  have f : (65536 : Int) ^ k * v = 65536 ^ k * c + 65536 ^ k * a.getD k 0 + 65536 ^ k * b.getD k 0 := by rw [hv, Int.mul_add, Int.mul_add]
  omega

/-! ### a digit of a product -/
/-- One step of the inner loop: O the digits so far, i the outer place, k the inner one. -/
theorem mul_digit (O : List Int) (b : List Int) (i k : Nat) (x c S : Int) (hik : i + k < O.length)
    (h : val O + 65536 ^ (i + k) * c = S + 65536 ^ i * (x * val (b.take k))) (v : Int) (hv : v = O.getD (i + k) 0 + x * b.getD k 0 + c) :
    val (O.set (i + k) (v % 65536)) + 65536 ^ (i + (k + 1)) * (v / 65536) = S + 65536 ^ i * (x * val (b.take (k + 1))) := by
  rw [val_set _ _ _ hik, val_take_succ, ← Nat.add_assoc, pow_succ, Int.mul_comm 65536 (65536 ^ (i + k)), Int.mul_assoc]
  have d := Int.emod_add_mul_ediv v 65536
  have e : (65536 : Int) ^ (i + k) * (v % 65536 - O.getD (i + k) 0) + 65536 ^ (i + k) * (65536 * (v / 65536)) = 65536 ^ (i + k) * (v - O.getD (i + k) 0) := by
    rw [← Int.mul_add]; congr 1; omega
  have f : (65536 : Int) ^ (i + k) * (v - O.getD (i + k) 0) = 65536 ^ (i + k) * (x * b.getD k 0) + 65536 ^ (i + k) * c := by
    rw [← Int.mul_add]; congr 1; omega
  have g : (65536 : Int) ^ i * (x * (val (b.take k) + 65536 ^ k * b.getD k 0)) = 65536 ^ i * (x * val (b.take k)) + 65536 ^ (i + k) * (x * b.getD k 0) := by
    rw [Int.mul_add, Int.mul_add, Int.pow_add, Int.mul_left_comm x, Int.mul_assoc]
  omega

/-- The last carry of a row. -/
theorem mul_row (O : List Int) (a b : List Int) (i : Nat) (c : Int) (hi : i + b.length < O.length)
    (h : val O + 65536 ^ (i + b.length) * c = val (a.take i) * val b + 65536 ^ i * (a.getD i 0 * val (b.take b.length))) (z : O.getD (i + b.length) 0 = 0) :
    val (O.set (i + b.length) (0 + c)) = val (a.take (i + 1)) * val b := by
  rw [val_set _ _ _ hi, z, val_take_succ, Int.add_mul, Int.mul_assoc]
  rw [List.take_length] at h
  rw [show (0 : Int) + c - 0 = c from by omega]
  exact h

end Go.Proofs.Ytihmifdadikhaaa.Dg

/- The walks of the small functions of the specification of layer 1: mag, right, sign, rounded. -/
set_option linter.unusedVariables false
set_option linter.unusedSimpArgs false
namespace Go.Proofs.Ytihmifdadikhaaa
open Go.RowKit

theorem refMag (x : Int) (h1 : -9223372036854775808 ≤ x) (h2 : x ≤ 9223372036854775807) (w : World) :
    Calls Try.prog 90 #[.int .i64 x] w fun e w' => e = .returned (.int .u64 (Mth.mag x)) ∧ w = w' := by
  unfold Mth.mag
  by_cases h : x < 0
  · rw [if_pos h]
    go_enter Try.func90, Try.ntmps90
    go_wp2
    go_ret
    exact ⟨ret_u64 (by try simp only [IntKind.wrap_u64, wrap64]
                       omega), rfl⟩
  · rw [if_neg h]
    go_enter Try.func90, Try.ntmps90
    go_wp2
    go_ret
    exact ⟨rfl, rfl⟩

/-- Whether there is such a mode. -/
def okm (m : Int) : Bool := decide (m = 0 ∨ m = 1 ∨ m = 2)

theorem refRight (m : Int) (w : World) :
    Calls Try.prog 91 #[.int .i64 m] w fun e w' => e = .returned (.bool (okm m)) ∧ w = w' := by
  have c : m = 0 ∨ m = 1 ∨ m = 2 ∨ (m ≠ 0 ∧ m ≠ 1 ∧ m ≠ 2) := by omega
  rcases c with rfl | rfl | rfl | ⟨h0, h1, h2⟩
  · go_enter Try.func91, Try.ntmps91
    go_wp2
    go_ret
    exact ⟨rfl, rfl⟩
  · go_enter Try.func91, Try.ntmps91
    go_wp2
    go_ret
    exact ⟨rfl, rfl⟩
  · go_enter Try.func91, Try.ntmps91
    go_wp2
    go_ret
    exact ⟨rfl, rfl⟩
  · have e : okm m = false := decide_eq_false (by omega)
    rw [e]
    have b0 : (m == 0) = false := beq_eq_false_iff_ne.2 h0
    have b1 : (m == 1) = false := beq_eq_false_iff_ne.2 h1
    have b2 : (m == 2) = false := beq_eq_false_iff_ne.2 h2
    go_enter Try.func91, Try.ntmps91
    go_wp2
    go_ret
    exact ⟨rfl, rfl⟩

/-- The sign of a product. -/
def sgnI (a b : Int) : Int := if a = 0 ∨ b = 0 then 0 else if decide (a < 0) = decide (b < 0) then 1 else -1

theorem refSign (a b : Int) (w : World) :
    Calls Try.prog 97 #[.int .i64 a, .int .i64 b] w fun e w' => e = .returned (.int .i64 (sgnI a b)) ∧ w = w' := by
  unfold sgnI
  by_cases ha : a = 0
  · rw [if_pos (.inl ha)]
    have ba : (a == 0) = true := beq_iff_eq.2 ha
    clear ha
    go_enter Try.func97, Try.ntmps97
    go_wp2
    go_ret
    exact ⟨rfl, rfl⟩
  have ba : (a == 0) = false := beq_eq_false_iff_ne.2 ha
  by_cases hb : b = 0
  · rw [if_pos (.inr hb)]
    have bb : (b == 0) = true := beq_iff_eq.2 hb
    clear hb
    go_enter Try.func97, Try.ntmps97
    go_wp2
    go_ret
    exact ⟨rfl, rfl⟩
  have bb : (b == 0) = false := beq_eq_false_iff_ne.2 hb
  rw [if_neg (by omega)]
  by_cases hc : decide (a < 0) = decide (b < 0)
  · rw [if_pos hc]
    have bc : (decide (a < 0) == decide (b < 0)) = true := by rw [hc]; simp
    clear hc
    go_enter Try.func97, Try.ntmps97
    go_wp2
    go_ret
    exact ⟨rfl, rfl⟩
  · rw [if_neg hc]
    have bc : (decide (a < 0) == decide (b < 0)) = false := by simpa using hc
    clear hc
    go_enter Try.func97, Try.ntmps97
    go_wp2
    go_ret
    exact ⟨rfl, rfl⟩

/-- What 'exact' and 'half' say of a rest. -/
def RR (exact : Bool) (half r : Int) : Prop := exact = true ∧ half < 0 ∧ r = 0 ∨ exact = false ∧ (half < 0 ∧ r = 1 ∨ half = 0 ∧ r = 2 ∨ 0 < half ∧ r = 3)

set_option maxHeartbeats 4000000 in
theorem refRounded (neg : Bool) (q : Int) (exact : Bool) (half m r : Int) (h0 : 0 ≤ q) (h1 : q < 18446744073709551616) (hr : RR exact half r) (hm0 : 0 ≤ m) (hm : m ≤ 2) (w : World) :
    Calls Try.prog 96 #[.bool neg, .int .u64 q, .bool exact, .int .i64 half, .int .i64 m] w fun e w' =>
      e = .returned (.tuple #[.int .i64 (Mth.rv m neg q r), .bool (Mth.rok m neg q r)]) ∧ w = w' := by
  have cm : m = 0 ∨ m = 1 ∨ m = 2 := by omega
  have cq : q < 9223372036854775807 ∨ q = 9223372036854775807 ∨ q = 9223372036854775808 ∨ 9223372036854775808 < q := by omega
  have fin : ∀ v b, Mth.rv m neg q r = v ∧ Mth.rok m neg q r = b → Calls Try.prog 96 #[.bool neg, .int .u64 q, .bool exact, .int .i64 half, .int .i64 m] w (fun e w' => e = .returned (.tuple #[.int .i64 v, .bool b]) ∧ w = w') → Calls Try.prog 96 #[.bool neg, .int .u64 q, .bool exact, .int .i64 half, .int .i64 m] w (fun e w' =>
      e = .returned (.tuple #[.int .i64 (Mth.rv m neg q r), .bool (Mth.rok m neg q r)]) ∧ w = w') := by
    rintro v b ⟨rfl, rfl⟩ h; exact h
  clear hm0 hm
  rcases hr with ⟨rfl, hh, rfl⟩ | ⟨rfl, ⟨hh, rfl⟩ | ⟨hh, rfl⟩ | ⟨hh, rfl⟩⟩ <;> rcases cm with rfl | rfl | rfl <;> cases neg <;> rcases cq with c | rfl | rfl | c
  all_goals
    first
    | (refine fin _ _ (rok_true _ _ _ _ _ (by omega) (by omega) (by simp only [Mth.rnd, Mth.away]; simp; first | rfl | done) (by omega) (by omega)) ?_; clear fin)
    | (refine fin _ _ (rok_false _ _ _ _ _ (by simp only [Mth.rnd, Mth.away]; simp; first | rfl | done) (by omega)) ?_; clear fin)
  all_goals
    first
    | (obtain rfl : half = 0 := hh)
    | (have d0 : decide (0 < half) = true := decide_eq_true hh
       have d3 : decide (0 ≤ half) = true := decide_eq_true (by omega))
    | (have d0 : decide (0 < half) = false := decide_eq_false (by omega)
       have d3 : decide (0 ≤ half) = false := decide_eq_false (by omega))
  all_goals
    first
    | (have d1 : decide (9223372036854775808 < q) = false := decide_eq_false (by omega)
       have d2 : decide (9223372036854775807 < q) = false := decide_eq_false (by omega)
       by_cases hz : q = 0
       · subst hz
         go_enter Try.func96, Try.ntmps96
         go_wp2
         go_ret2
         exact ⟨rfl, rfl⟩
       · have e0 : (q == 0) = false := beq_eq_false_iff_ne.2 hz
         have e1 : (q + 1 == 0) = false := beq_eq_false_iff_ne.2 (by omega)
         have hp : 1 ≤ q := by omega
         clear hz
         go_enter Try.func96, Try.ntmps96
         go_wp2
         go_ret2
         refine ⟨ret_ib ?_ rfl, rfl⟩
         try simp only [IntKind.wrap_u64, wrap64]
         all_goals (first | rfl | omega))
    | (go_enter Try.func96, Try.ntmps96
       go_wp2
       go_ret2
       refine ⟨ret_ib ?_ rfl, rfl⟩
       try simp only [IntKind.wrap_u64, wrap64]
       all_goals (first | rfl | omega))

end Go.Proofs.Ytihmifdadikhaaa

/- Numbers in memory, and the walks of limbs, cut and cmp of the specification of layer 1. -/
set_option linter.unusedVariables false
set_option linter.unusedSimpArgs false
namespace Go.Proofs.Ytihmifdadikhaaa
open Go.RowKit

def cells (ds : List Int) : List Value := ds.map (Value.int .u64)

/-- A slice that holds the digits ds in a block of its own, from block B on. -/
def RawB (B : Nat) (w : World) (v : Value) (ds : List Int) : Prop := w.ownsRow B 95 1 v ds.length (cells ds)
/-- A slice that holds the digits ds in a block of its own. -/
def Raw (w : World) (v : Value) (ds : List Int) : Prop := RawB 0 w v ds
theorem RawB.raw {B : Nat} {w : World} {v : Value} {ds : List Int} (h : RawB B w v ds) : Raw w v ds := by
  obtain ⟨h1, h2⟩ := h
  refine ⟨h1, ?_⟩
  rcases h2 with h2 | ⟨g, cap, cur, hv, hg, r⟩
  · exact .inl h2
  · exact .inr ⟨g, cap, cur, hv, Nat.zero_le _, r⟩

/-- Behind a step that writes at most into the call's own row. -/
theorem Qw.grown {w wr w1 : World} {v : Value} {ds : List Int} (h : Qw w wr) (hr : RawB w.heap.size wr v ds) (wx : World) (hx : wr.heap.size ≤ wx.heap.size) (hq : Qw wr wx) (hg : wx.grownBy w1 v.ownBlock) : Qw w w1 :=
  Below.grown (Qw.trans h hq) hg (by have := h.size; omega) (fun k hk => (hr.lt k hk).1)

/-- A slice that holds a number, without leading zeros. -/
def Num (w : World) (v : Value) (x : Int) : Prop := ∃ ds, Dg.Dig ds ∧ Dg.Top ds ∧ Dg.val ds = x ∧ ds.length ≤ 1000 ∧ Raw w v ds

theorem raw_kept {w w' : World} {v : Value} {ds : List Int} (h : Raw w v ds) (q : Qw w w') : Raw w' v ds := by
  obtain ⟨h1, h2⟩ := h
  refine ⟨h1, ?_⟩
  rcases h2 with h2 | ⟨g, cap, cur, hv, hg, hh, r⟩
  · exact .inl h2
  · refine .inr ⟨g, cap, cur, hv, hg, ?_, r⟩
    rw [q.block g (Array.getElem?_eq_some_iff.1 hh).1]
    exact hh

theorem num_kept {w w' : World} {v : Value} {x : Int} (h : Num w v x) (q : Qw w w') : Num w' v x := by
  obtain ⟨ds, h1, h2, h3, h4, h5⟩ := h
  exact ⟨ds, h1, h2, h3, h4, raw_kept h5 q⟩

/-- What a slice of digits is: nil, or a head of a block. -/
theorem raw_cases {w : World} {v : Value} {ds : List Int} (h : Raw w v ds) :
    (v = .slice none 0 0 ∧ ds = []) ∨ ∃ g cap, v = .slice (some ⟨g, 0, none⟩) ds.length cap ∧ ds.length ≤ cap ∧ cap ≤ 9223372036854775807 ∧ g < w.heap.size ∧ ∀ j, j < ds.length → w.cell? ⟨g, j, none⟩ = some (.int .u64 (ds.getD j 0)) := by
  have h0 := h
  obtain ⟨h1, h2⟩ := h
  rcases h2 with ⟨h2, h3⟩ | ⟨g, cap, cur, rfl, hg, hh, r1, r2, r3, r4⟩
  · exact .inl ⟨h2, List.eq_nil_of_length_eq_zero h3⟩
  · refine .inr ⟨g, cap, rfl, r1, by unfold maxLen at r2; omega, (Array.getElem?_eq_some_iff.1 hh).1, fun j hj => ?_⟩
    rw [World.ownsRow.cellAt h0 j (by omega)]
    unfold cells
    rw [List.getElem?_map, List.getD_eq_getElem?_getD, List.getElem?_eq_getElem hj]
    rfl

theorem raw_take {w : World} {g cap : Nat} {ds : List Int} (h : Raw w (.slice (some ⟨g, 0, none⟩) ds.length cap) ds) (k : Nat) (hk : k ≤ ds.length) :
    Raw w (.slice (some ⟨g, 0, none⟩) k cap) (ds.take k) := by
  obtain ⟨h1, h2⟩ := h
  have l : (ds.take k).length = k := by rw [List.length_take]; omega
  refine ⟨by simp [cells], ?_⟩
  rcases h2 with ⟨h2, h3⟩ | ⟨g', cap', cur, hv, hg, hh, r1, r2, r3, r4⟩
  · cases h2
  · cases hv
    refine .inr ⟨g, cap, cur, by rw [l], hg, hh, by omega, r2, r3, ?_⟩
    rw [l]
    have : (cur.toList.take (ds.length * 1)).take (k * 1) = (cells ds).take (k * 1) := by rw [r4]
    rw [List.take_take, Nat.min_eq_left (by omega)] at this
    rw [this]
    simp [cells, List.map_take]

/-- The digits without the zeros at the end. -/
def Stripped (ds : List Int) (k : Nat) : Prop := k ≤ ds.length ∧ ∀ j, k ≤ j → j < ds.length → ds.getD j 0 = 0

theorem val_strip {ds : List Int} {k : Nat} (h : Stripped ds k) : Dg.val (ds.take k) = Dg.val ds := by
  obtain ⟨h1, h2⟩ := h
  have e : ds = ds.take k ++ ds.drop k := (List.take_append_drop k ds).symm
  have z : Dg.val (ds.drop k) = 0 := by
    have r : ds.drop k = List.replicate (ds.length - k) 0 := by
      apply List.ext_getElem?
      intro j
      rw [List.getElem?_drop]
      by_cases c : j < ds.length - k
      · rw [List.getElem?_replicate, if_pos c]
        have := h2 (k + j) (by omega) (by omega)
        rw [List.getD_eq_getElem?_getD, List.getElem?_eq_getElem (by omega)] at this
        rw [List.getElem?_eq_getElem (by omega)]
        simpa using this
      · rw [List.getElem?_replicate, if_neg c, List.getElem?_eq_none (by omega)]
    rw [r, Dg.val_replicate]
  conv => rhs; rw [e]
  rw [Dg.val_append, z]
  omega

theorem top_strip {ds : List Int} {k : Nat} (h1 : k ≤ ds.length) (h : k = 0 ∨ ds.getD (k - 1) 0 ≠ 0) : Dg.Top (ds.take k) := by
  intro d hd
  rcases Nat.eq_zero_or_pos k with c | c
  · subst c; simp at hd
  · rcases h with h | h
    · omega
    · have l : (ds.take k).length = k := by rw [List.length_take]; omega
      rw [List.getLast?_eq_getElem?, l, List.getElem?_take, if_pos (by omega)] at hd
      rw [List.getD_eq_getElem?_getD, hd] at h
      exact h

theorem strip_step {ds : List Int} {j : Nat} (h : Stripped ds (j + 1)) (z : ds.getD j 0 = 0) : Stripped ds j := by
  obtain ⟨h1, h2⟩ := h
  refine ⟨by omega, fun i h3 h4 => ?_⟩
  rcases Nat.eq_or_lt_of_le h3 with e | e
  · rw [← e]; exact z
  · exact h2 i e h4

theorem raw_nil (w : World) : Raw w (.slice none 0 0) [] := World.ownsRow_nil w _ _ _
theorem num_nil (w : World) : Num w (.slice none 0 0) 0 :=
  ⟨[], Dg.dig_nil, fun d h => by simp at h, rfl, by decide, raw_nil w⟩

def lenOf : Value → Nat
  | .slice _ k _ => k
  | _ => 0

theorem refCut (v : Value) (ds : List Int) (w : World) (hd : Dg.Dig ds) (hl : ds.length ≤ 1000) (hr : Raw w v ds) :
    Calls Try.prog 107 #[v] w fun e w' => ∃ v', e = .returned v' ∧ Num w v' (Dg.val ds) ∧ w = w' := by
  rcases raw_cases hr with ⟨rfl, rfl⟩ | ⟨g, cap, rfl, c1, c2, c3, c4⟩
  · go_enter Try.func107, Try.ntmps107
    go_wp2
    go_loop [0] (fun v => v = .slice none 0 0) (fun _ => 0)
    case atStart => rfl
    case round =>
      subst hrel
      go_wp2
      go_ret
      exact ⟨_, rfl, num_nil w, rfl⟩
  · go_enter Try.func107, Try.ntmps107
    go_wp2
    go_loop [0] (fun v => ∃ k : Nat, v = .slice (some ⟨g, 0, none⟩) k cap ∧ Stripped ds k) (fun v => lenOf v)
    case atStart => exact ⟨ds.length, rfl, Nat.le_refl _, fun j h1 h2 => by omega⟩
    case round =>
      obtain ⟨k, rfl, hk⟩ := hrel
      have hk1 := hk.1
      have Hk := Lib.hid hk
      clear hk
      cases k with
      | zero =>
        go_wp2
        go_ret
        exact ⟨_, rfl, ⟨ds.take 0, Dg.dig_take hd 0, top_strip (Nat.zero_le _) (.inl rfl), val_strip Hk.out, by simp, raw_take hr 0 (Nat.zero_le _)⟩, rfl⟩
      | succ j =>
        have hcell := c4 j (by omega)
        obtain ⟨d, ed⟩ : ∃ d, ds.getD j 0 = d := ⟨_, rfl⟩
        rw [ed] at hcell
        have Ed := Lib.hid ed
        clear ed c4
        by_cases cz : d = 0
        · subst cz
          go_wp2
          go_round
          case rel => exact ⟨j, rfl, strip_step Hk.out Ed.out⟩
          case measure => simp [lenOf]
        · have bz : (d == 0) = false := beq_eq_false_iff_ne.2 cz
          have Cz := Lib.hid cz
          clear cz
          go_wp2
          go_ret
          exact ⟨_, rfl, ⟨ds.take (j + 1), Dg.dig_take hd _, top_strip hk1 (.inr (by rw [show j + 1 - 1 = j from by omega, Ed.out]; exact Cz.out)), val_strip Hk.out, by rw [List.length_take]; omega, raw_take hr _ hk1⟩, rfl⟩

/-! ### limbs -/

/-- What is known at the head of a round of limbs: m is still to come. -/
def LimbK (n m : Int) (ds : List Int) : Prop :=
  Dg.Dig ds ∧ Dg.val ds + 65536 ^ ds.length * m = n ∧ (m = 0 → Dg.Top ds) ∧ 0 ≤ m ∧
    (ds.length = 0 ∧ m < 18446744073709551616 ∨ ds.length = 1 ∧ m < 281474976710656 ∨ ds.length = 2 ∧ m < 4294967296 ∨ ds.length = 3 ∧ m < 65536 ∨ ds.length = 4 ∧ m < 1)

theorem limb_step {n m : Int} {ds : List Int} (h : LimbK n m ds) (hm : 0 < m) : LimbK n (m / 65536) (ds ++ [m % 65536]) := by
  obtain ⟨h1, h2, h3, h4, h5⟩ := h
  have l : (ds ++ [m % 65536]).length = ds.length + 1 := by simp
  refine ⟨Dg.dig_append.2 ⟨h1, Dg.dig_cons.2 ⟨⟨by omega, by omega⟩, Dg.dig_nil⟩⟩, ?_, ?_, by omega, by omega⟩
  · rw [l, Dg.val_append, Dg.val, Dg.val, Dg.pow_succ, Int.mul_zero, Int.add_zero, Int.mul_comm 65536, Int.mul_assoc, Int.mul_comm 65536 (m / 65536)]
    have d := Int.emod_add_mul_ediv m 65536
    have e : (65536 : Int) ^ ds.length * (m % 65536) + 65536 ^ ds.length * (m / 65536 * 65536) = 65536 ^ ds.length * m := by
      rw [← Int.mul_add, Int.mul_comm (m / 65536), d]
    omega
  · intro z d hd
    simp at hd
    omega

theorem and_mask16 (x : Int) (h0 : 0 ≤ x) (h1 : x < 18446744073709551616) : bits .and .u64 x 65535 = x % 65536 := by
  obtain ⟨n, rfl⟩ := Int.eq_ofNat_of_zero_le h0
  have h := bits_and_u64_nat n 65535 (by omega) (by omega)
  have e : n &&& 65535 = n % 65536 := Nat.and_two_pow_sub_one_eq_mod n 16
  rw [e] at h
  exact h

theorem cell_one_new (w : World) (a : Value) (t : TypeId) : ∀ j u, [a][j]? = some u → (w.alloc (.cells #[a] t)).cell? ((⟨w.heap.size, 0, none⟩ : Addr).add j) = some u := by
  intro j u hj
  match j, hj with
  | 0, hj => simp at hj; subst hj; simp [Addr.add]
  | j + 1, hj => simp at hj

theorem raw_push {B : Nat} {w : World} {v : Value} {ds : List Int} {d : Int} (h : w.ownsRow B 95 1 v (ds.length + 1) (cells ds ++ [.int .u64 d])) : RawB B w v (ds ++ [d]) := by
  unfold RawB
  have l : (ds ++ [d]).length = ds.length + 1 := by simp
  rw [l]
  have c : cells (ds ++ [d]) = cells ds ++ [.int .u64 d] := by simp [cells]
  rw [c]
  exact h

theorem info_u64 : (Try.prog.info? 95).map (fun i => (i.zero, i.size, i.bytes)) = some (some (.int .u64 0), 1, 8) := by kernel_rfl

theorem refLimbs (n : Int) (n0 : 0 ≤ n) (n1 : n < 18446744073709551616) (w : World) :
    Calls Try.prog 94 #[.int .u64 n] w fun e w' => ∃ v, e = .returned v ∧ Num w' v n ∧ Qw w w' := by
  obtain ⟨i0, hi, hz0, hz1, hz2⟩ := info_parts info_u64
  go_enter Try.func94, Try.ntmps94
  go_wp2
  go_loopw [0, 3] (fun m v wr => ∃ k ds, m = .int .u64 k ∧ LimbK n k ds ∧ RawB w.heap.size wr v ds ∧ Qw w wr) (fun m _ _ => (intOf m).toNat)
  case atStart => exact ⟨n, [], rfl, ⟨Dg.dig_nil, by simp [Dg.val], fun _ d h => by simp at h, n0, .inl ⟨rfl, n1⟩⟩, World.ownsRow_nil _ _ _ _, Qw.refl _⟩
  case round =>
    obtain ⟨k, ds, rfl, hk, hr, hq⟩ := hrel
    have k0 : 0 ≤ k := hk.2.2.2.1
    have k1 : k < 18446744073709551616 := by have := hk.2.2.2.2; omega
    have kl : ds.length ≤ 4 := by have := hk.2.2.2.2; omega
    have Hk := Lib.hid hk
    have Hr := Lib.hid hr
    clear hk hr
    by_cases c : 0 < k
    · have hc := Lib.hid c
      have ea : bits .and .u64 k 65535 = k % 65536 := and_mask16 k k0 k1
      go_wp2_with (at_builtin; refine wpList_append_own _ rfl _ _ 104 rfl w.heap.size 95 i0 (.int .u64 0) 1 8 Try.underlying104 hi hz0 hz1 hz2 rfl (by decide) _ _ _ rfl (Hr.out.alloc _) ⟨wr.heap.size, 0, none⟩ 1 1 [.int .u64 (k % 65536)] rfl rfl (cell_one_new _ _ _) (ints_oneCell .u64 [k % 65536]) (by unfold maxLen; omega) (by omega) (by have := hq.size; simp; omega) ?_)
      intro v1 w1 hown1 hgrow1 _
      have hr1 : RawB w.heap.size w1 v1 (ds ++ [k % 65536]) := raw_push hown1
      have hq1 : Qw w w1 := hq.grown Hr.out _ (by simp) ((Below.refl _ _).alloc (Nat.le_refl _) _) hgrow1
      clear hown1 hgrow1 hq ea
      have HR := Lib.hid hr1
      clear hr1
      go_wp2
      go_roundw
      case rel => exact ⟨_, _, rfl, limb_step Hk.out hc.out, HR.out, hq1⟩
      case measure => simp [intOf]; omega
    · obtain rfl : k = 0 := by omega
      go_wp2
      go_ret
      exact ⟨_, rfl, ⟨ds, Hk.out.1, Hk.out.2.2.1 rfl, by have := Hk.out.2.1; rw [Int.mul_zero] at this; omega, by omega, Hr.out.raw⟩, hq⟩

end Go.Proofs.Ytihmifdadikhaaa

/- The walk of cmp of the specification of layer 1. -/
set_option linter.unusedVariables false
set_option linter.unusedSimpArgs false
namespace Go.Proofs.Ytihmifdadikhaaa
open Go.RowKit

/-- The shape of a slice of digits. -/
theorem raw_form {w : World} {v : Value} {ds : List Int} (h : Raw w v ds) : ∃ a cap, v = .slice a ds.length cap ∧ ds.length ≤ cap ∧ cap ≤ 9223372036854775807 ∧
    (0 < ds.length → ∃ g, a = some ⟨g, 0, none⟩ ∧ g < w.heap.size ∧ ∀ j, j < ds.length → w.cell? ⟨g, j, none⟩ = some (.int .u64 (ds.getD j 0))) := by
  rcases raw_cases h with ⟨rfl, rfl⟩ | ⟨g, cap, rfl, c1, c2, c3, c4⟩
  · exact ⟨none, 0, rfl, Nat.le_refl _, by omega, fun h => by simp at h⟩
  · exact ⟨_, cap, rfl, c1, c2, fun _ => ⟨g, rfl, c3, c4⟩⟩

/-- What is known at the head of a round: above place k the digits are the same. -/
def CmpK (A B : List Int) (n : Nat) (k : Int) : Prop := -1 ≤ k ∧ k < n ∧ A.drop (k + 1).toNat = B.drop (k + 1).toNat

theorem refCmp (u v : Value) (x y : Int) (w : World) (hx : Num w u x) (hy : Num w v y) :
    Calls Try.prog 95 #[u, v] w fun e w' => e = .returned (.int .i64 (cmpI x y)) ∧ Qw w w' := by
  obtain ⟨A, dA, tA, rfl, lA, rA⟩ := hx
  obtain ⟨B, dB, tB, rfl, lB, rB⟩ := hy
  obtain ⟨a, ca, rfl, _, _, fA⟩ := raw_form rA
  obtain ⟨b, cb, rfl, _, _, fB⟩ := raw_form rB
  by_cases hl : A.length = B.length
  · by_cases h0 : A.length = 0
    · have eA : A = [] := List.eq_nil_of_length_eq_zero h0
      have eB : B = [] := List.eq_nil_of_length_eq_zero (by omega)
      subst eA eB
      have e : cmpI (Dg.val []) (Dg.val []) = 0 := by rw [cmpI_zero]
      rw [e]
      clear fA fB rA rB e
      go_enter Try.func95, Try.ntmps95
      go_wp2
      go_loop [5] (fun i => i = .int .i64 (-1)) (fun _ => 0)
      case atStart => rfl
      case round =>
        subst hrel
        go_wp2
        go_ret
        exact ⟨rfl, Qw.refl _⟩
    · obtain ⟨g, rfl, _, cA⟩ := fA (by omega)
      obtain ⟨h, rfl, _, cB⟩ := fB (by omega)
      have CA := Lib.hid cA; have CB := Lib.hid cB
      have Z := Lib.hid (cmpI_zero (Dg.val A) (Dg.val B))
      have lt : ∀ k, k < A.length → A.drop (k + 1) = B.drop (k + 1) → A.getD k 0 < B.getD k 0 → cmpI (Dg.val A) (Dg.val B) = -1 := fun k h1 h2 h3 => by
        have := Dg.first_digit dA k h1 (by omega) dB h2 h3
        unfold cmpI; rw [if_pos this]
      have gt : ∀ k, k < A.length → A.drop (k + 1) = B.drop (k + 1) → B.getD k 0 < A.getD k 0 → cmpI (Dg.val A) (Dg.val B) = 1 := fun k h1 h2 h3 => by
        have := Dg.first_digit dB k (by omega) h1 dA h2.symm h3
        unfold cmpI; rw [if_neg (by omega), if_neg (by omega)]
      have Lt := Lib.hid lt; have Gt := Lib.hid gt
      obtain ⟨n, en⟩ : ∃ n, A.length = n := ⟨_, rfl⟩
      rw [← hl, en]
      rw [en] at h0 lA
      have En := Lib.hid en; have Hl := Lib.hid hl
      clear cA cB lt gt fA fB rA rB tA tB dA dB en hl lB
      generalize hc : cmpI (Dg.val A) (Dg.val B) = c at *
      have Hc := Lib.hid hc
      clear hc
      go_enter Try.func95, Try.ntmps95
      go_wp2
      go_loopw [5] (fun i wr => ∃ k : Int, i = .int .i64 k ∧ CmpK A B n k ∧ ∃ m, wr = w.drewN m) (fun i _ => (intOf i + 1).toNat)
      case atStart => exact ⟨_, rfl, ⟨by omega, by omega, by
        have e1 := En.out
        have e2 := Hl.out
        rw [List.drop_of_length_le (by omega), List.drop_of_length_le (by omega)]⟩, 0, rfl⟩
      case round =>
        obtain ⟨k, rfl, hk, m, rfl⟩ := hrel
        have k1 := hk.1
        have k2 := hk.2.1
        have Hk := Lib.hid hk
        clear hk
        by_cases kz : k = -1
        · subst kz
          have e0 : c = 0 := by
            have := Hk.out.2.2
            simp at this
            exact Z.out.2 (by rw [this])
          subst e0
          go_wp2
          go_ret
          exact ⟨rfl, Qw.drewN _ _⟩
        · obtain ⟨j, rfl⟩ := Int.eq_ofNat_of_zero_le (show 0 ≤ k by omega)
          have jn : j < n := by omega
          have jA : j < A.length := by rw [En.out]; exact jn
          have jB : j < B.length := by rw [← Hl.out]; exact jA
          have ca' := CA.out j jA
          have cb' := CB.out j jB
          have dr : A.drop (j + 1) = B.drop (j + 1) := by
            have := Hk.out.2.2
            rw [show ((j : Int) + 1).toNat = j + 1 from by omega] at this
            exact this
          have lt := Lt.out j jA dr
          have gt := Gt.out j jA dr
          have st := Dg.drop_eq_step j jA jB dr
          have Jl := Lib.hid (And.intro jA jB)
          clear kz dr jA jB
          generalize A.getD j 0 = x at *
          generalize B.getD j 0 = y at *
          have Lt' := Lib.hid lt; have Gt' := Lib.hid gt; have St := Lib.hid st
          clear lt gt st
          by_cases cl : x < y
          · have d1 : decide (x < y) = true := decide_eq_true cl
            have e1 : c = -1 := Lt'.out cl
            subst e1
            go_wp2
            go_quiet (fail)
            go_wp2
            go_ret
            exact ⟨rfl, (Qw.drewN _ _).trans (Qw.drewN _ _)⟩
          · have d1 : decide (x < y) = false := decide_eq_false cl
            by_cases cg : y < x
            · have d2 : decide (y < x) = true := decide_eq_true cg
              have e1 : c = 1 := Gt'.out cg
              subst e1
              go_wp2
              go_quiet (fail)
              go_wp2
              go_quiet (fail)
              go_wp2
              go_ret
              exact ⟨rfl, ((Qw.drewN _ _).trans (Qw.drewN _ _)).trans (Qw.drewN _ _)⟩
            · have d2 : decide (y < x) = false := decide_eq_false cg
              have Se := Lib.hid (St.out (by omega))
              go_wp2
              go_quiet (fail)
              go_wp2
              go_quiet (fail)
              go_wp2
              go_roundw
              case rel => exact ⟨_, rfl, ⟨by omega, by omega, by rw [show ((j : Int) - 1 + 1).toNat = j from by omega]; exact Se.out⟩, _, rfl⟩
              case measure => simp [intOf]
  · rcases Nat.lt_or_ge A.length B.length with c | c
    · have e : cmpI (Dg.val A) (Dg.val B) = -1 := by
        have := Dg.shorter dA dB tB c
        unfold cmpI; rw [if_pos this]
      rw [e]
      clear fA fB rA rB e
      have bl : ((A.length : Int) != (B.length : Int)) = true := by rw [bne_iff_ne]; omega
      go_enter Try.func95, Try.ntmps95
      go_wp2
      go_ret
      exact ⟨rfl, Qw.refl _⟩
    · have e : cmpI (Dg.val A) (Dg.val B) = 1 := by
        have := Dg.shorter dB dA tA (by omega)
        unfold cmpI; rw [if_neg (by omega), if_neg (by omega)]
      rw [e]
      clear fA fB rA rB e
      have bl : ((A.length : Int) != (B.length : Int)) = true := by rw [bne_iff_ne]; omega
      go_enter Try.func95, Try.ntmps95
      go_wp2
      go_ret
      exact ⟨rfl, Qw.refl _⟩

end Go.Proofs.Ytihmifdadikhaaa

/- The walk of mul of the specification of layer 1: the school method. -/
set_option linter.unusedVariables false
set_option linter.unusedSimpArgs false
namespace Go.Proofs.Ytihmifdadikhaaa
open Go.RowKit

/-- At the head of the outer round i. -/
def MulK (A B : List Int) (n i : Nat) (O : List Int) : Prop :=
  O.length = n ∧ Dg.Dig O ∧ Dg.val O = Dg.val (A.take i) * Dg.val B ∧ ∀ j, i + B.length ≤ j → O.getD j 0 = 0

/-- At the head of the inner round k, with the carry c. -/
def InK (A B : List Int) (n i k : Nat) (c : Int) (O : List Int) : Prop :=
  O.length = n ∧ Dg.Dig O ∧ Dg.val O + 65536 ^ (i + k) * c = Dg.val (A.take i) * Dg.val B + 65536 ^ i * (A.getD i 0 * Dg.val (B.take k)) ∧ ∀ j, i + B.length ≤ j → O.getD j 0 = 0

theorem cells_made (n : Nat) : (madeCells #[Value.int .u64 0] n).toList = cells (List.replicate n 0) := by
  rw [toList_madeCells_one]
  simp [cells]

theorem mul_start (A B : List Int) (n : Nat) : MulK A B n 0 (List.replicate n 0) :=
  ⟨by simp, Dg.dig_replicate n, by rw [Dg.val_replicate]; simp [Dg.val], fun j _ => by
    rw [List.getD_eq_getElem?_getD, List.getElem?_replicate]; split <;> rfl⟩

theorem in_start {A B : List Int} {n i : Nat} {O : List Int} (h : MulK A B n i O) : InK A B n i 0 0 O := by
  obtain ⟨h1, h2, h3, h4⟩ := h
  exact ⟨h1, h2, by rw [h3]; simp [Dg.val], h4⟩

theorem raw_cell {B : Nat} {w : World} {g n cap : Nat} {ds : List Int} (h : RawB B w (.slice (some ⟨g, 0, none⟩) n cap) ds) (j : Nat) (hj : j < ds.length) : w.cell? ⟨g, j, none⟩ = some (.int .u64 (ds.getD j 0)) := by
  obtain ⟨h1, h2⟩ := h
  have e : n = ds.length := by
    rcases h2 with ⟨h2, _⟩ | ⟨g', cap', cur, hv, _⟩
    · cases h2
    · cases hv; rfl
  subst e
  rw [World.ownsRow.cellAt ⟨h1, h2⟩ j (by omega)]
  unfold cells
  rw [List.getElem?_map, List.getD_eq_getElem?_getD, List.getElem?_eq_getElem hj]
  rfl

theorem raw_free {B : Nat} {w : World} {g n cap : Nat} {ds : List Int} (h : RawB B w (.slice (some ⟨g, 0, none⟩) n cap) ds) (j : Nat) : w.frozen? ⟨g, j, none⟩ = false := by
  obtain ⟨h1, h2⟩ := h
  have e : n = ds.length := by
    rcases h2 with ⟨h2, _⟩ | ⟨g', cap', cur, hv, _⟩
    · cases h2
    · cases hv; rfl
  subst e
  exact World.ownsRow.frozenAt ⟨h1, h2⟩ j

theorem raw_store {B : Nat} {w : World} {g n cap : Nat} {ds : List Int} (h : RawB B w (.slice (some ⟨g, 0, none⟩) n cap) ds) (j : Nat) (d : Int) : RawB B (w.setCell ⟨g, j, none⟩ (.int .u64 d)) (.slice (some ⟨g, 0, none⟩) n cap) (ds.set j d) := by
  obtain ⟨h1, h2⟩ := h
  have e : n = ds.length := by
    rcases h2 with ⟨h2, _⟩ | ⟨g', cap', cur, hv, _⟩
    · cases h2
    · cases hv; rfl
  subst e
  have s := (World.ownsRow.stored ⟨h1, h2⟩ j (.int .u64 d)).1
  unfold RawB
  rw [List.length_set]
  have c : cells (ds.set j d) = (cells ds).set j (.int .u64 d) := by simp [cells, List.map_set]
  rw [c]
  exact s

theorem in_step {A B : List Int} {n i k : Nat} {c : Int} {O : List Int} (h : InK A B n i k c O) (hk : k < B.length) (hik : i + k < O.length) (v : Int) (hv : v = O.getD (i + k) 0 + A.getD i 0 * B.getD k 0 + c) :
    InK A B n i (k + 1) (v / 65536) (O.set (i + k) (v % 65536)) := by
  obtain ⟨h1, h2, h3, h4⟩ := h
  refine ⟨by rw [List.length_set]; exact h1, Dg.dig_set h2 _ _ ⟨by omega, by omega⟩, Dg.mul_digit O B i k (A.getD i 0) c _ hik h3 v hv, fun j hj => ?_⟩
  rw [Dg.get_set _ _ _ _ hik, if_neg (by omega)]
  exact h4 j hj

theorem mul_step {A B : List Int} {n i lb : Nat} {c : Int} {O : List Int} (h : InK A B n i lb c O) (hl : B.length = lb) (hi : i + lb < O.length) (hc : 0 ≤ c ∧ c ≤ 65535) (z : O.getD (i + lb) 0 = 0) :
    MulK A B n (i + 1) (O.set (i + lb) c) := by
  obtain ⟨h1, h2, h3, h4⟩ := h
  subst hl
  have r := Dg.mul_row O A B i c hi h3 z
  rw [show (0 : Int) + c = c from by omega] at r
  refine ⟨by rw [List.length_set]; exact h1, Dg.dig_set h2 _ _ hc, r, fun j hj => ?_⟩
  rw [Dg.get_set _ _ _ _ hi, if_neg (by omega)]
  exact h4 j (by omega)

theorem refMul (u v : Value) (x y : Int) (w : World) (hx : Num w u x) (hy : Num w v y) (hs : ∀ A B : List Int, Dg.Dig A → Dg.Dig B → Dg.Top A → Dg.Top B → Dg.val A = x → Dg.val B = y → A.length + B.length ≤ 1000) :
    Calls Try.prog 93 #[u, v] w fun e w' => ∃ r, e = .returned r ∧ Num w' r (x * y) ∧ Qw w w' := by
  obtain ⟨A, dA, tA, eA, _, rA⟩ := hx
  obtain ⟨B, dB, tB, eB, _, rB⟩ := hy
  have lAB := hs A B dA dB tA tB eA eB
  subst eA eB
  obtain ⟨a, ca, rfl, _, _, fA⟩ := raw_form rA
  obtain ⟨b, cb, rfl, _, _, fB⟩ := raw_form rB
  obtain ⟨i0, hi, hz0, hz1, hz2⟩ := info_parts info_u64
  clear hs rA rB tA tB
  obtain ⟨la, ela⟩ : ∃ n, A.length = n := ⟨_, rfl⟩
  obtain ⟨lb, elb⟩ : ∃ n, B.length = n := ⟨_, rfl⟩
  have Ela := Lib.hid ela; have Elb := Lib.hid elb
  have FA := Lib.hid fA; have FB := Lib.hid fB
  clear fA fB
  rw [ela, elb] at lAB ⊢
  clear ela elb
  go_enter Try.func93, Try.ntmps93
  go_wp2_with (at_make; go_loud (refine wpList_make_full _ rfl _ _ 104 rfl w.heap.size 95 i0 (.int .u64 0) 1 Try.underlying104 hi hz0 hz1 .i64 .i64 _ _ (la + lb) rfl rfl (by omega) (by omega) (by rw [hz2]; omega) (by unfold maxLen; omega) (Nat.le_refl _) ?_))
  intro w1 hown1 hgrow1
  rw [cells_made] at hown1
  have hr1 : RawB w.heap.size w1 (.slice (some ⟨w.heap.size, 0, none⟩) (la + lb) (la + lb)) (List.replicate (la + lb) 0) := by
    unfold RawB; rw [List.length_replicate]; exact hown1
  have hq1 : Qw w w1 := Below.grown (Below.refl _ _) hgrow1 (Nat.le_refl _) (fun k hk => by cases hk)
  clear hown1 hgrow1
  obtain ⟨G, eG⟩ : ∃ G, w.heap.size = G := ⟨_, rfl⟩
  rw [eG] at hr1
  have EG := Lib.hid eG
  simp only [eG]
  clear eG
  obtain ⟨n, en⟩ : ∃ n, la + lb = n := ⟨_, rfl⟩
  rw [en] at hr1
  have En := Lib.hid en
  have nb : n ≤ 1000 := by omega
  simp only [en]
  clear en
  have Hr1 := Lib.hid hr1
  clear hr1
  go_wp2
  go_loopw [6] (fun i wr => ∃ (k : Nat) (O : List Int), i = .int .i64 (k : Int) ∧ k ≤ la ∧ MulK A B n k O ∧ RawB G wr (.slice (some ⟨G, 0, none⟩) n n) O ∧ Qw w wr) (fun i _ => la - (intOf i).toNat)
  case atStart => exact ⟨0, _, rfl, Nat.zero_le _, mul_start A B n, Hr1.out, hq1⟩
  case round =>
    obtain ⟨k, O, rfl, hk, hM, hr, hq⟩ := hrel
    have HM := Lib.hid hM; have HR := Lib.hid hr
    clear hM hr Hr1 hq1
    obtain ⟨wo, rfl⟩ : ∃ wo : World, wo = wr := ⟨_, rfl⟩
    by_cases hlt : k < la
    · have lA : 0 < A.length := by rw [Ela.out]; omega
      obtain ⟨ga, rfl, ga1, ga2⟩ := FA.out lA
      have xa : w.cell? ⟨ga, k, none⟩ = some (.int .u64 (A.getD k 0)) := ga2 k (by rw [Ela.out]; exact hlt)
      obtain ⟨xk0, xk1⟩ := Dg.dig_get dA k
      obtain ⟨X, eX⟩ : ∃ X, A.getD k 0 = X := ⟨_, rfl⟩
      rw [eX] at xa xk0 xk1
      have EX := Lib.hid eX
      have XA := Lib.hid xa
      clear ga2 lA eX xa
      go_wp2
      go_loopw [7, 8] (fun c kk wr => ∃ (k2 : Nat) (cc : Int) (O2 : List Int), c = .int .u64 cc ∧ kk = .int .i64 (k2 : Int) ∧ k2 ≤ lb ∧ 0 ≤ cc ∧ cc ≤ 65535 ∧ InK A B n k k2 cc O2 ∧ RawB G wr (.slice (some ⟨G, 0, none⟩) n n) O2 ∧ Qw w wr) (fun _ kk _ => lb - (intOf kk).toNat)
      case atStart => exact ⟨0, 0, O, rfl, rfl, Nat.zero_le _, by decide, by decide, in_start HM.out, HR.out, hq⟩
      case round =>
        obtain ⟨k2, cc, O2, rfl, rfl, hk2, c0, c1, hI, hr2, hq2⟩ := hrel
        have HI := Lib.hid hI; have HR2 := Lib.hid hr2
        clear hI hr2 hq HM HR
        have lO : O2.length = n := HI.out.1
        by_cases hlt2 : k2 < lb
        · have lB : 0 < B.length := by rw [Elb.out]; omega
          obtain ⟨gb, rfl, gb1, gb2⟩ := FB.out lB
          have xb : w.cell? ⟨gb, k2, none⟩ = some (.int .u64 (B.getD k2 0)) := gb2 k2 (by rw [Elb.out]; exact hlt2)
          obtain ⟨yk0, yk1⟩ := Dg.dig_get dB k2
          obtain ⟨zk0, zk1⟩ := Dg.dig_get HI.out.2.1 (k + k2)
          obtain ⟨Y, eY⟩ : ∃ Y, B.getD k2 0 = Y := ⟨_, rfl⟩
          obtain ⟨Z, eZ⟩ : ∃ Z, O2.getD (k + k2) 0 = Z := ⟨_, rfl⟩
          rw [eY] at xb yk0 yk1
          rw [eZ] at zk0 zk1
          have EY := Lib.hid eY; have EZ := Lib.hid eZ
          clear eY lB
          have xa' : wr.cell? ⟨ga, k, none⟩ = some (.int .u64 X) := (hq2.cell (p := ⟨ga, k, none⟩) ga1).trans XA.out
          have xb' : wr.cell? ⟨gb, k2, none⟩ = some (.int .u64 Y) := (hq2.cell (p := ⟨gb, k2, none⟩) gb1).trans xb
          have kk : k + k2 < n := by have := En.out; omega
          have xo : wr.cell? ⟨G, k + k2, none⟩ = some (.int .u64 Z) := by
            rw [← eZ]; exact raw_cell HR2.out (k + k2) (by rw [lO]; exact kk)
          have fo : wr.frozen? ⟨G, k + k2, none⟩ = false := raw_free HR2.out (k + k2)
          clear xb eZ gb2
          have m0 : 0 ≤ X * Y := Int.mul_nonneg xk0 yk0
          have m1 : X * Y ≤ 65535 * 65535 := Int.mul_le_mul xk1 yk1 yk0 (by decide)
          have s1 : IntKind.i64.wrap ((k : Int) + (k2 : Int)) = (k : Int) + (k2 : Int) := by rw [IntKind.wrap_i64]; omega
          have s2 : ((k : Int) + (k2 : Int)).toNat = k + k2 := by omega
          have s3 : 0 ≤ (k : Int) + (k2 : Int) := by omega
          have s4 : (k : Int) + (k2 : Int) < n := by omega
          obtain ⟨V, eV⟩ : ∃ V, Z + X * Y + cc = V := ⟨_, rfl⟩
          have v0 : 0 ≤ V := by omega
          have v1 : V ≤ 4294967295 := by omega
          have ea := and_mask16 V v0 (by omega)
          have EV := Lib.hid eV
          go_wp2
          go_quiet (fail)
          clear eV m0 m1 s1 s3
          go_wp2
          go_roundw
          case rel => exact ⟨k2 + 1, _, _, rfl, by go_num, by omega, by omega, by omega, in_step HI.out (by rw [Elb.out]; exact hlt2) (by rw [lO]; exact kk) V (by rw [← EV.out, EX.out, EY.out, EZ.out]), raw_store (w := wr.drewN nq) HR2.out (k + k2) (V % 65536), (hq2.trans (Qw.drewN _ _)).setCell (by rw [EG.out]; exact Nat.le_refl _) _⟩
          case measure => simp [intOf]; omega
        · obtain rfl : k2 = lb := by omega
          have kk : k + k2 < n := by have := En.out; omega
          have zz : O2.getD (k + k2) 0 = 0 := HI.out.2.2.2 _ (by rw [Elb.out]; exact Nat.le_refl _)
          have xo : wr.cell? ⟨G, k + k2, none⟩ = some (.int .u64 0) := by
            rw [← zz]; exact raw_cell HR2.out (k + k2) (by rw [lO]; exact kk)
          have fo : wr.frozen? ⟨G, k + k2, none⟩ = false := raw_free HR2.out (k + k2)
          have Zz := Lib.hid zz
          have s2 : ((k : Int) + (k2 : Int)).toNat = k + k2 := by omega
          clear zz hlt2
          go_wp2
          go_roundw
          case rel => exact ⟨k + 1, _, by go_num, by omega, mul_step HI.out Elb.out (by rw [lO]; exact kk) ⟨c0, c1⟩ Zz.out, by have := raw_store HR2.out (k + k2) cc; exact this, hq2.setCell (by rw [EG.out]; exact Nat.le_refl _) _⟩
          case measure => simp [intOf]; omega
    · obtain rfl : k = la := by omega
      have lO : O.length = n := HM.out.1
      have fin : Dg.val O = Dg.val A * Dg.val B := by rw [HM.out.2.2.1, List.take_of_length_le (by rw [Ela.out]; exact Nat.le_refl _)]
      have Fin := Lib.hid fin
      have cut := refCut (.slice (some ⟨G, 0, none⟩) n n) O wo HM.out.2.1 (by omega) HR.out.raw
      have Cut := Lib.hid cut
      clear fin cut hlt
      go_wp2_with (go_at_call 107; refine (Cut.out).mono ?_; rintro e w' ⟨r, rfl, hr, rfl⟩)
      go_ret
      exact ⟨_, rfl, by rw [← Fin.out]; exact hr, hq⟩

end Go.Proofs.Ytihmifdadikhaaa

/- The walk of add of the specification of layer 1. -/
set_option linter.unusedVariables false
set_option linter.unusedSimpArgs false
namespace Go.Proofs.Ytihmifdadikhaaa
open Go.RowKit

/-- At the head of round k, with the carry c. -/
def AddK (A B : List Int) (k : Nat) (c : Int) (D : List Int) : Prop :=
  D.length = k ∧ Dg.Dig D ∧ 0 ≤ c ∧ c ≤ 1 ∧ Dg.val D + 65536 ^ k * c = Dg.val (A.take k) + Dg.val (B.take k)

theorem get_out {A : List Int} {k : Nat} (h : A.length ≤ k) : A.getD k 0 = 0 := by
  rw [List.getD_eq_getElem?_getD, List.getElem?_eq_none h]; rfl

theorem add_step {A B : List Int} {k : Nat} {c : Int} {D : List Int} (h : AddK A B k c D) (X Y : Int) (hX : A.getD k 0 = X) (hY : B.getD k 0 = Y) :
    0 ≤ X → X ≤ 65535 → 0 ≤ Y → Y ≤ 65535 → AddK A B (k + 1) ((c + X + Y) / 65536) (D ++ [(c + X + Y) % 65536]) := by
  intro x0 x1 y0 y1
  obtain ⟨h1, h2, h3, h4, h5⟩ := h
  refine ⟨by simp [h1], Dg.dig_append.2 ⟨h2, Dg.dig_cons.2 ⟨⟨by omega, by omega⟩, Dg.dig_nil⟩⟩, by omega, by omega, ?_⟩
  rw [Dg.val_append, h1, Dg.val, Dg.val]
  have s := Dg.add_digit A B k (Dg.val D) c h5 (c + X + Y) (by rw [hX, hY])
  rw [Int.mul_zero, Int.add_zero]
  exact s

end Go.Proofs.Ytihmifdadikhaaa

/- Numbers of bounded size, the product of two ints and Cmp of the specification of layer 1; the search of a number bit by bit. -/
set_option linter.unusedVariables false
set_option linter.unusedSimpArgs false
namespace Go.Proofs.Ytihmifdadikhaaa
open Go.RowKit

/-- 2^200. -/
def Big : Int := 1606938044258990275541962092341162602522202993782792835301376
theorem big_le {x : Int} (h : x ≤ 1606938044258990275541962092341162602522202993782792835301376) : x ≤ Big := h
theorem big_word {x : Int} (h : x < 18446744073709551616) : x ≤ Big := by unfold Big; omega
theorem big_two {x : Int} (h : x ≤ 340282366920938463463374607431768211456) : x ≤ Big := by unfold Big; omega

theorem len_le {ds : List Int} (h : Dg.Dig ds) (t : Dg.Top ds) (b : Dg.val ds ≤ Big) : ds.length ≤ 13 := by
  rcases Nat.lt_or_ge 13 ds.length with c | c
  · exfalso
    have h0 : ds ≠ [] := by intro e; rw [e] at c; simp at c
    have g := Dg.top_ge h t h0
    have p := Dg.pow_mono (show 13 ≤ ds.length - 1 by omega)
    have q : (65536 : Int) ^ 13 = 411376139330301510538742295639337626245683966408394965837152256 := by decide
    unfold Big at b
    omega
  · exact c

theorem mulN (u v : Value) (x y : Int) (w : World) (hx : Num w u x) (hy : Num w v y) (bx : x ≤ Big) (by' : y ≤ Big) :
    Calls Try.prog 93 #[u, v] w fun e w' => ∃ r, e = .returned r ∧ Num w' r (x * y) ∧ Qw w w' :=
  refMul u v x y w hx hy fun A B h1 h2 h3 h4 h5 h6 => by
    have := len_le h1 h3 (by rw [h5]; exact bx)
    have := len_le h2 h4 (by rw [h6]; exact by')
    omega

theorem refProduct (a b : Int) (a1 : -9223372036854775808 ≤ a) (a2 : a ≤ 9223372036854775807) (b1 : -9223372036854775808 ≤ b) (b2 : b ≤ 9223372036854775807) (w : World) :
    Calls Try.prog 92 #[.int .i64 a, .int .i64 b] w fun e w' => ∃ r, e = .returned r ∧ Num w' r (Mth.mag a * Mth.mag b) ∧ Qw w w' := by
  have ma := Mth.mag_le a a1 a2
  have mb := Mth.mag_le b b1 b2
  have na := Mth.mag_nonneg a
  have nb := Mth.mag_nonneg b
  go_enter Try.func92, Try.ntmps92
  go_wp2_with (go_at_call 90; refine (refMag _ (by omega) (by omega) _).mono ?_; rintro e w' ⟨rfl, rfl⟩)
  refine (refLimbs _ na (by omega) _).mono ?_
  rintro e w1 ⟨v1, rfl, hn1, hq1⟩
  go_wp2_with (go_at_call 90; refine (refMag _ (by omega) (by omega) _).mono ?_; rintro e w' ⟨rfl, rfl⟩)
  refine (refLimbs _ nb (by omega) _).mono ?_
  rintro e w2 ⟨v2, rfl, hn2, hq2⟩
  go_wp2_with fail
  refine (mulN _ _ _ _ _ (num_kept hn1 hq2) hn2 (big_word (by omega)) (big_word (by omega))).mono ?_
  rintro e w3 ⟨v3, rfl, hn3, hq3⟩
  go_wp2_with fail
  go_ret
  exact ⟨_, rfl, hn3, (hq1.trans hq2).trans hq3⟩

theorem sgn_cmp (a b : Int) : sgnI a b = cmpI (a * b) 0 := by
  unfold sgnI cmpI
  by_cases ha : a = 0
  · subst ha; simp
  by_cases hb : b = 0
  · subst hb; simp
  rw [if_neg (by omega)]
  rcases Int.lt_or_le a 0 with pa | pa <;> rcases Int.lt_or_le b 0 with pb | pb
  · have := Int.mul_pos_of_neg_of_neg pa pb
    rw [decide_eq_true pa, decide_eq_true pb, if_pos rfl, if_neg (by omega), if_neg (by omega)]
  · have := Int.mul_neg_of_neg_of_pos pa (show 0 < b by omega)
    rw [decide_eq_true pa, decide_eq_false (by omega), if_neg (by decide), if_pos (by omega)]
  · have := Int.mul_neg_of_pos_of_neg (show 0 < a by omega) pb
    rw [decide_eq_false (by omega), decide_eq_true pb, if_neg (by decide), if_pos (by omega)]
  · have := Int.mul_pos (show 0 < a by omega) (show 0 < b by omega)
    rw [decide_eq_false (by omega), decide_eq_false (by omega), if_pos rfl, if_neg (by omega), if_neg (by omega)]

theorem cmpI_zero_right (m : Int) : (m < 0 ∧ cmpI m 0 = -1) ∨ (m = 0 ∧ cmpI m 0 = 0) ∨ (0 < m ∧ cmpI m 0 = 1) := by
  unfold cmpI
  rcases Int.lt_trichotomy m 0 with h | h | h
  · left; exact ⟨h, if_pos h⟩
  · right; left; exact ⟨h, by rw [if_neg (by omega), if_pos h]⟩
  · right; right; exact ⟨h, by rw [if_neg (by omega), if_neg (by omega)]⟩

theorem cmpI_neg (m n : Int) : cmpI (-m) (-n) = -cmpI m n := by
  unfold cmpI
  rcases Int.lt_trichotomy m n with h | h | h
  · rw [if_neg (by omega), if_neg (by omega), if_pos h]; rfl
  · rw [if_neg (by omega), if_pos (by omega), if_neg (by omega), if_pos h]; rfl
  · rw [if_pos (by omega), if_neg (by omega), if_neg (by omega)]

theorem cmp_signs (m n : Int) (h : cmpI m 0 = cmpI n 0) : cmpI m 0 * cmpI (Mth.mag m) (Mth.mag n) = cmpI m n := by
  rcases cmpI_zero_right m with ⟨hm, em⟩ | ⟨hm, em⟩ | ⟨hm, em⟩ <;> rcases cmpI_zero_right n with ⟨hn, en⟩ | ⟨hn, en⟩ | ⟨hn, en⟩
  · have e1 : Mth.mag m = -m := if_pos hm
    have e2 : Mth.mag n = -n := if_pos hn
    rw [em, e1, e2, cmpI_neg]; omega
  · omega
  · omega
  · omega
  · subst hm hn; rw [em]; omega
  · omega
  · omega
  · omega
  · have e1 : Mth.mag m = m := if_neg (by omega)
    have e2 : Mth.mag n = n := if_neg (by omega)
    rw [em, e1, e2]; omega

theorem cmp_less (m n : Int) (h : cmpI m 0 < cmpI n 0) : cmpI m n = -1 := by
  unfold cmpI at h ⊢
  split at h <;> (try split at h) <;> (try split at h) <;> (try split at h) <;> (try split) <;> (try split) <;> omega

theorem refCmpW (a b c d : Int) (a1 : -9223372036854775808 ≤ a) (a2 : a ≤ 9223372036854775807) (b1 : -9223372036854775808 ≤ b) (b2 : b ≤ 9223372036854775807)
    (c1 : -9223372036854775808 ≤ c) (c2 : c ≤ 9223372036854775807) (d1 : -9223372036854775808 ≤ d) (d2 : d ≤ 9223372036854775807) (w : World) :
    Calls Try.prog 100 #[.int .i64 a, .int .i64 b, .int .i64 c, .int .i64 d] w fun e w' => e = .returned (.int .i64 (cmpI (a * b) (c * d))) ∧ Qw w w' := by
  have s1 := sgn_cmp a b
  have s2 := sgn_cmp c d
  have r1 := cmpI_range (a * b) 0
  have r2 := cmpI_range (c * d) 0
  have e1 := cmp_signs (a * b) (c * d)
  have e2 := cmp_less (a * b) (c * d)
  have e3 := cmp_less (c * d) (a * b)
  rw [cmpI_swap (a * b) (c * d)] at e3
  rw [← mag_mul, ← mag_mul] at e1
  have c3 := cmpI_range (Mth.mag a * Mth.mag b) (Mth.mag c * Mth.mag d)
  obtain ⟨K, eK⟩ : ∃ K, cmpI (Mth.mag a * Mth.mag b) (Mth.mag c * Mth.mag d) = K := ⟨_, rfl⟩
  have EK := Lib.hid eK
  rw [eK] at e1 c3
  clear eK
  generalize cmpI (a * b) (c * d) = z at *
  generalize cmpI (a * b) 0 = s at *
  generalize cmpI (c * d) 0 = t at *
  have S1 := Lib.hid s1; have S2 := Lib.hid s2
  have E1 := Lib.hid e1; have E2 := Lib.hid e2; have E3 := Lib.hid e3
  clear s1 s2 e1 e2 e3
  have cs : ∀ w, Calls Try.prog 97 #[.int .i64 a, .int .i64 b] w fun e w' => e = .returned (.int .i64 s) ∧ w = w' := fun w => by
    have := refSign a b w
    rw [S1.out] at this; exact this
  have ct : ∀ w, Calls Try.prog 97 #[.int .i64 c, .int .i64 d] w fun e w' => e = .returned (.int .i64 t) ∧ w = w' := fun w => by
    have := refSign c d w
    rw [S2.out] at this; exact this
  have Cs := Lib.hid cs; have Ct := Lib.hid ct
  clear cs ct
  rcases Int.lt_trichotomy s t with h | h | h
  · have d3 : decide (s < t) = true := decide_eq_true h
    have ez : z = -1 := E2.out h
    subst ez
    go_enter Try.func100, Try.ntmps100
    go_wp2_with (go_at_call 97; first | ((with_reducible refine (Cs.out _).mono ?_); rintro e w' ⟨rfl, rfl⟩) | ((with_reducible refine (Ct.out _).mono ?_); rintro e w' ⟨rfl, rfl⟩))
    go_ret
    exact ⟨rfl, Qw.refl _⟩
  · subst h
    have ez : s * K = z := E1.out rfl
    have Ez := Lib.hid ez
    have sk0 : -1 ≤ s * K := by have : s = -1 ∨ s = 0 ∨ s = 1 := by omega
                                rcases this with rfl | rfl | rfl <;> omega
    have sk1 : s * K ≤ 1 := by have : s = -1 ∨ s = 0 ∨ s = 1 := by omega
                               rcases this with rfl | rfl | rfl <;> omega
    clear ez
    have h1 : ¬ s < s := by omega
    go_enter Try.func100, Try.ntmps100
    go_wp2_with (go_at_call 97; first | ((with_reducible refine (Cs.out _).mono ?_); rintro e w' ⟨rfl, rfl⟩) | ((with_reducible refine (Ct.out _).mono ?_); rintro e w' ⟨rfl, rfl⟩))
    refine (refProduct a b a1 a2 b1 b2 _).mono ?_
    rintro e w1 ⟨v1, rfl, hn1, hq1⟩
    go_wp2_with fail
    refine (refProduct c d c1 c2 d1 d2 _).mono ?_
    rintro e w2 ⟨v2, rfl, hn2, hq2⟩
    go_wp2_with fail
    refine (refCmp _ _ _ _ _ (num_kept hn1 hq2) hn2).mono ?_
    rintro e w3 ⟨rfl, hq3⟩
    rw [EK.out]
    go_wp2_with fail
    go_ret
    exact ⟨ret_i64 Ez.out, (hq1.trans hq2).trans hq3⟩
  · have d3 : decide (s < t) = false := decide_eq_false (by omega)
    have d4 : decide (t < s) = true := decide_eq_true h
    have ez : z = 1 := by have := E3.out h; omega
    subst ez
    go_enter Try.func100, Try.ntmps100
    go_wp2_with (go_at_call 97; first | ((with_reducible refine (Cs.out _).mono ?_); rintro e w' ⟨rfl, rfl⟩) | ((with_reducible refine (Ct.out _).mono ?_); rintro e w' ⟨rfl, rfl⟩))
    go_ret
    exact ⟨rfl, Qw.refl _⟩

end Go.Proofs.Ytihmifdadikhaaa

/- The walk of MulDiv of the specification of layer 1. -/
set_option linter.unusedVariables false
set_option linter.unusedSimpArgs false
namespace Go.Proofs.Ytihmifdadikhaaa
open Go.RowKit

/-! ### a number is found bit by bit -/

/-- The bits of R from bit k on are those of q. -/
def BitK (R : Int) (k : Nat) (q : Int) : Prop := 0 ≤ q ∧ q ≤ R ∧ R < q + 2 ^ k ∧ ∃ m : Nat, q = 2 ^ k * (m : Int)

theorem bit_start (R : Int) (k : Nat) (h0 : 0 ≤ R) (h1 : R < 2 ^ k) : BitK R k 0 := ⟨Int.le_refl _, h0, by omega, 0, by simp⟩
theorem bit_end {R q : Int} (h : BitK R 0 q) : q = R := by
  obtain ⟨_, h1, h2, _⟩ := h
  simp at h2
  omega
theorem bit_yes {R q : Int} {j : Nat} (h : BitK R (j + 1) q) (c : q + 2 ^ j ≤ R) : BitK R j (q + 2 ^ j) := by
  obtain ⟨h0, h1, h2, m, h3⟩ := h
  have p : (0 : Int) < 2 ^ j := Int.pow_pos (by decide)
  have e : (2 : Int) ^ (j + 1) = 2 ^ j * 2 := Int.pow_succ _ _
  rw [e] at h2 h3
  refine ⟨by omega, c, by omega, 2 * m + 1, ?_⟩
  rw [h3, Int.mul_assoc, show ((2 * m + 1 : Nat) : Int) = 2 * (m : Int) + 1 from by omega, Int.mul_add, Int.mul_one]
theorem bit_no {R q : Int} {j : Nat} (h : BitK R (j + 1) q) (c : ¬ q + 2 ^ j ≤ R) : BitK R j q := by
  obtain ⟨h0, h1, h2, m, h3⟩ := h
  have e : (2 : Int) ^ (j + 1) = 2 ^ j * 2 := Int.pow_succ _ _
  rw [e] at h2 h3
  refine ⟨h0, h1, by omega, 2 * m, ?_⟩
  rw [h3, Int.mul_assoc, show ((2 * m : Nat) : Int) = 2 * (m : Int) from by omega]
theorem bit_or {R q : Int} {j : Nat} (h : BitK R (j + 1) q) (hj : j < 64) (hb : q + 2 ^ j < 18446744073709551616) : bits .or .u64 q (2 ^ j) = q + 2 ^ j := by
  obtain ⟨h0, h1, h2, m, h3⟩ := h
  have p : (0 : Int) < 2 ^ j := Int.pow_pos (by decide)
  have ep : ((2 : Int) ^ j) = ((2 ^ j : Nat) : Int) := (Int.natCast_pow 2 _).symm
  have eq : q = ((2 ^ (j + 1) * m : Nat) : Int) := by rw [h3, Int.natCast_mul, Int.natCast_pow]; rfl
  have lt : 2 ^ j < 2 ^ (j + 1) := Nat.pow_lt_pow_right (by decide) (by omega)
  have t := Nat.two_pow_add_eq_or_of_lt lt m
  rw [ep] at hb p ⊢
  rw [eq] at hb ⊢
  have o := bits_or_u64_nat (2 ^ (j + 1) * m) (2 ^ j) (by omega) (by omega)
  rw [o, ← t]
  omega
theorem bit_room {R q : Int} {j : Nat} (h : BitK R (j + 1) q) (n : Nat) (hn : j < n) (hR : R < 2 ^ n) : q + 2 ^ j < 2 ^ n := by
  obtain ⟨h0, h1, h2, m, h3⟩ := h
  obtain ⟨d, rfl⟩ : ∃ d, n = j + 1 + d := ⟨n - (j + 1), by omega⟩
  have e : (2 : Int) ^ (j + 1 + d) = 2 ^ (j + 1) * 2 ^ d := Int.pow_add _ _ _
  have p : (0 : Int) < 2 ^ (j + 1) := Int.pow_pos (by decide)
  have pj : (0 : Int) < 2 ^ j := Int.pow_pos (by decide)
  have e2 : (2 : Int) ^ (j + 1) = 2 ^ j * 2 := Int.pow_succ _ _
  have lt : (m : Int) < 2 ^ d := by
    have : 2 ^ (j + 1) * (m : Int) < 2 ^ (j + 1) * 2 ^ d := by rw [← h3, ← e]; omega
    exact Int.lt_of_mul_lt_mul_left this (Int.le_of_lt p)
  have le : 2 ^ (j + 1) * ((m : Int) + 1) ≤ 2 ^ (j + 1) * 2 ^ d := Int.mul_le_mul_of_nonneg_left (by omega) (Int.le_of_lt p)
  rw [Int.mul_add, Int.mul_one, ← h3, ← e] at le
  omega

/-! ### MulDiv -/

theorem cmpI_le (x y : Int) : cmpI x y ≤ 0 ↔ x ≤ y := by unfold cmpI; split <;> (try split) <;> omega
theorem cmpI_gt (x y : Int) : 0 < cmpI x y ↔ y < x := by unfold cmpI; split <;> (try split) <;> omega
theorem cmpI_lt (x y : Int) : cmpI x y < 0 ↔ x < y := by unfold cmpI; split <;> (try split) <;> omega

/-- The bounded quotient. -/
def qb (X D : Int) : Int := if X / D < 18446744073709551616 then X / D else 18446744073709551615

theorem qb_range (X D : Int) (hX : 0 ≤ X) (hD : 0 < D) : 0 ≤ qb X D ∧ qb X D < 18446744073709551616 := by
  have := Int.ediv_nonneg hX (Int.le_of_lt hD)
  unfold qb; split <;> omega
theorem qb_test (X D q : Int) (hD : 0 < D) (hq : q < 18446744073709551616) : cmpI (q * D) X ≤ 0 ↔ q ≤ qb X D := by
  rw [cmpI_le, ← Int.le_ediv_iff_mul_le hD]
  unfold qb; split <;> omega

theorem sgn_lt (a b : Int) : decide (sgnI a b < 0) = decide (a * b < 0) := by
  rw [sgn_cmp]
  by_cases h : a * b < 0
  · rw [decide_eq_true h, decide_eq_true ((cmpI_lt _ _).2 h)]
  · rw [decide_eq_false h, decide_eq_false (fun k => h ((cmpI_lt _ _).1 k))]

/-- The sign of a quotient, told by the sign of the product. -/
theorem rnd_sign (m a b c : Int) (hc : c ≠ 0) : Mth.rnd m (decide (a * b < 0) != decide (c < 0)) (mq a b c) (mr a b c) = Mth.rnd m (ng a b c) (mq a b c) (mr a b c) := by
  by_cases z : a * b = 0
  · have e : Mth.mag a * Mth.mag b = 0 := by rw [mag_mul, z]; rfl
    have q : mq a b c = 0 := by unfold mq; rw [e]; exact Int.zero_ediv _
    have r : mr a b c = 0 := by rw [mr_zero, e]; exact Int.zero_emod _
    rw [q, r, rnd_exact, rnd_exact]; simp
  · have e : decide (a * b < 0) = (decide (a < 0) != decide (b < 0)) := by
      have ha : a ≠ 0 := fun h => z (by rw [h]; simp)
      have hb : b ≠ 0 := fun h => z (by rw [h]; simp)
      rcases Int.lt_or_le a 0 with pa | pa <;> rcases Int.lt_or_le b 0 with pb | pb
      · have := Int.mul_pos_of_neg_of_neg pa pb
        rw [decide_eq_true pa, decide_eq_true pb, decide_eq_false (by omega)]; rfl
      · have := Int.mul_neg_of_neg_of_pos pa (show 0 < b by omega)
        rw [decide_eq_true pa, decide_eq_false (show ¬ b < 0 by omega), decide_eq_true (by omega)]; rfl
      · have := Int.mul_neg_of_pos_of_neg (show 0 < a by omega) pb
        rw [decide_eq_false (show ¬ a < 0 by omega), decide_eq_true pb, decide_eq_true (by omega)]; rfl
      · have := Int.mul_pos (show 0 < a by omega) (show 0 < b by omega)
        rw [decide_eq_false (show ¬ a < 0 by omega), decide_eq_false (show ¬ b < 0 by omega), decide_eq_false (by omega)]; rfl
    unfold ng; rw [e]

theorem rok_sign (m a b c : Int) (hc : c ≠ 0) : Mth.rok m (decide (a * b < 0) != decide (c < 0)) (mq a b c) (mr a b c) = Mth.rok m (ng a b c) (mq a b c) (mr a b c) := by
  unfold Mth.rok; rw [rnd_sign m a b c hc]
theorem rv_sign (m a b c : Int) (hc : c ≠ 0) : Mth.rv m (decide (a * b < 0) != decide (c < 0)) (mq a b c) (mr a b c) = Mth.rv m (ng a b c) (mq a b c) (mr a b c) := by
  unfold Mth.rv; rw [rok_sign m a b c hc, rnd_sign m a b c hc]

/-- The rest of a quotient, as the specification tells it. -/
theorem rest_told (a b c : Int) (hc : c ≠ 0) (hs : Mth.mag a * Mth.mag b / Mth.mag c < 18446744073709551616) :
    RR (decide (cmpI (Mth.mag a * Mth.mag b) (qb (Mth.mag a * Mth.mag b) (Mth.mag c) * Mth.mag c) = 0))
      (cmpI (Mth.mag a * Mth.mag b + Mth.mag a * Mth.mag b) (qb (Mth.mag a * Mth.mag b) (Mth.mag c) * Mth.mag c + qb (Mth.mag a * Mth.mag b) (Mth.mag c) * Mth.mag c + Mth.mag c)) (mr a b c) := by
  have pc := mag_pos hc
  have e : qb (Mth.mag a * Mth.mag b) (Mth.mag c) = Mth.mag a * Mth.mag b / Mth.mag c := if_pos hs
  rw [e]
  have d := Int.emod_add_mul_ediv (Mth.mag a * Mth.mag b) (Mth.mag c)
  have m0 := Int.emod_nonneg (Mth.mag a * Mth.mag b) (show Mth.mag c ≠ 0 by omega)
  have m1 := Int.emod_lt_of_pos (Mth.mag a * Mth.mag b) pc
  have k := Int.mul_comm (Mth.mag c) (Mth.mag a * Mth.mag b / Mth.mag c)
  unfold mr
  generalize Mth.mag a * Mth.mag b / Mth.mag c * Mth.mag c = Y at *
  generalize Mth.mag a * Mth.mag b % Mth.mag c = r at *
  generalize Mth.mag a * Mth.mag b = X at *
  generalize Mth.mag c = D at *
  have c1 := cmpI_zero X Y
  have c2 := cmpI_lt (X + X) (Y + Y + D)
  have c3 := cmpI_gt (X + X) (Y + Y + D)
  have c4 := cmpI_zero (X + X) (Y + Y + D)
  unfold RR restQ
  by_cases z : r = 0
  · left; exact ⟨decide_eq_true (c1.2 (by omega)), c2.2 (by omega), if_pos z⟩
  · right
    refine ⟨decide_eq_false (fun h => z (by have := c1.1 h; omega)), ?_⟩
    rw [if_neg z]
    by_cases l : r < D - r
    · left; exact ⟨c2.2 (by omega), if_pos l⟩
    · rw [if_neg l]
      by_cases e : r = D - r
      · right; left; exact ⟨c4.2 (by omega), if_pos e⟩
      · right; right; exact ⟨c3.2 (by omega), if_neg e⟩

theorem rest_big (X D : Int) (hD : 0 < D) (hX : 0 ≤ X) (hs : ¬ X / D < 18446744073709551616) :
    RR (decide (cmpI X (qb X D * D) = 0)) (cmpI (X + X) (qb X D * D + qb X D * D + D)) 3 := by
  have e : qb X D = 18446744073709551615 := if_neg hs
  rw [e]
  have g : 18446744073709551616 * D ≤ X := (Int.le_ediv_iff_mul_le hD).1 (by omega)
  right
  refine ⟨decide_eq_false (fun h => ?_), .inr (.inr ⟨(cmpI_gt _ _).2 (by omega), rfl⟩)⟩
  have := (cmpI_zero _ _).1 h
  omega

theorem rv_huge (m : Int) (neg : Bool) : Mth.rv m neg 18446744073709551615 3 = 0 ∧ Mth.rok m neg 18446744073709551615 3 = false := by
  refine rok_false m neg _ _ _ rfl ?_
  unfold Mth.rnd
  cases neg
  · right; simp only [Bool.false_eq_true, if_false]; split <;> omega
  · left; simp only [if_true]; split <;> omega

/-- What the specification's last call gives. -/
theorem told (a b c m : Int) (hc : c ≠ 0) (hm0 : 0 ≤ m) (hm : m ≤ 2) (w : World) :
    Calls Try.prog 96 #[.bool (decide (a * b < 0) != decide (c < 0)), .int .u64 (qb (Mth.mag a * Mth.mag b) (Mth.mag c)), .bool (decide (cmpI (Mth.mag a * Mth.mag b) (qb (Mth.mag a * Mth.mag b) (Mth.mag c) * Mth.mag c) = 0)),
      .int .i64 (cmpI (Mth.mag a * Mth.mag b + Mth.mag a * Mth.mag b) (qb (Mth.mag a * Mth.mag b) (Mth.mag c) * Mth.mag c + qb (Mth.mag a * Mth.mag b) (Mth.mag c) * Mth.mag c + Mth.mag c)), .int .i64 m] w fun e w' =>
      e = .returned (.tuple #[.int .i64 (mdv a b c m), .bool (mdok a b c m)]) ∧ w = w' := by
  have pc := mag_pos hc
  have X0 : 0 ≤ Mth.mag a * Mth.mag b := Int.mul_nonneg (Mth.mag_nonneg a) (Mth.mag_nonneg b)
  obtain ⟨q0, q1⟩ := qb_range (Mth.mag a * Mth.mag b) (Mth.mag c) X0 pc
  unfold mdv mdok
  rw [if_neg hc, if_neg hc]
  by_cases hs : Mth.mag a * Mth.mag b / Mth.mag c < 18446744073709551616
  · have t := rest_told a b c hc hs
    have r := refRounded (decide (a * b < 0) != decide (c < 0)) _ _ _ m _ q0 q1 t hm0 hm w
    have e : qb (Mth.mag a * Mth.mag b) (Mth.mag c) = mq a b c := if_pos hs
    rw [e] at r ⊢
    rw [rv_sign m a b c hc, rok_sign m a b c hc] at r
    exact r
  · have t := rest_big (Mth.mag a * Mth.mag b) (Mth.mag c) pc X0 hs
    have r := refRounded (decide (a * b < 0) != decide (c < 0)) _ _ _ m _ q0 q1 t hm0 hm w
    have e : qb (Mth.mag a * Mth.mag b) (Mth.mag c) = 18446744073709551615 := if_neg hs
    rw [e] at r ⊢
    have h := rv_huge m (decide (a * b < 0) != decide (c < 0))
    have g := rok_big m (ng a b c) (mq a b c) (mr a b c) (by unfold mq; omega)
    rw [h.1, h.2] at r
    rw [g.1, g.2]
    exact r

end Go.Proofs.Ytihmifdadikhaaa

/- The walks of root, Root and Sqrt of the specification of layer 1. -/
set_option linter.unusedVariables false
set_option linter.unusedSimpArgs false
namespace Go.Proofs.Ytihmifdadikhaaa
open Go.RowKit

theorem sq_le {a b : Int} (h0 : 0 ≤ a) (h : a ≤ b) : a * a ≤ b * b := Int.mul_le_mul h h h0 (by omega)

theorem rt_test (X q : Int) (hX : 0 ≤ X) (hq : 0 ≤ q) : cmpI (q * q) X ≤ 0 ↔ q ≤ Mth.rt X := by
  have s := Mth.rt_spec X hX
  have n := Mth.rt_nonneg X
  rw [cmpI_le]
  constructor
  · intro h; exact Mth.isq_le_of hq n (by omega)
  · intro h; have := sq_le hq h; omega

theorem rest_root (X : Int) (hX : 0 ≤ X) : RR (decide (cmpI (Mth.rt X * Mth.rt X) X = 0)) (if 0 < cmpI X (Mth.rt X * (Mth.rt X + 1)) then 1 else -1) (rr X 1) := by
  have n := Mth.rt_nonneg X
  have e : Mth.rt X * (Mth.rt X + 1) = Mth.rt X * Mth.rt X + Mth.rt X := by rw [Int.mul_add, Int.mul_one]
  rw [rr_one X hX, e]
  generalize Mth.rt X * Mth.rt X = S at *
  generalize Mth.rt X = r at *
  have c1 := cmpI_zero S X
  have c2 := cmpI_gt X (S + r)
  unfold RR
  by_cases z : X = S
  · left
    exact ⟨decide_eq_true (c1.2 z.symm), by rw [if_neg (fun h => by have := c2.1 h; omega)]; decide, if_pos z⟩
  · right
    refine ⟨decide_eq_false (fun h => z (c1.1 h).symm), ?_⟩
    rw [if_neg z]
    by_cases l : X ≤ S + r
    · left; exact ⟨by rw [if_neg (fun h => by have := c2.1 h; omega)]; decide, if_pos l⟩
    · right; right; exact ⟨by rw [if_pos (c2.2 (by omega))]; decide, if_neg l⟩

set_option maxHeartbeats 2000000 in
theorem refRootS (v : Value) (X : Int) (w : World) (hx : Num w v X) (hX : 0 ≤ X) (hX1 : X < 85070591730234615865843651857942052864) :
    Calls Try.prog 106 #[v] w fun e w' => ∃ ex hf, e = .returned (.tuple #[.int .u64 (Mth.rt X), .bool ex, .int .i64 hf]) ∧ RR ex hf (rr X 1) ∧ Qw w w' := by
  have rest := rest_root X hX
  have qt := fun q hq => rt_test X q hX hq
  have q0 := Mth.rt_nonneg X
  have q1 : Mth.rt X ≤ 9223372036854775807 := by
    have s := Mth.rt_spec X hX
    exact Mth.isq_le_of q0 (by omega) (by omega)
  obtain ⟨T, eT⟩ : ∃ T, Mth.rt X = T := ⟨_, rfl⟩
  rw [eT] at rest qt q0 q1 ⊢
  have Rest := Lib.hid rest; have Qt := Lib.hid qt
  clear rest qt eT
  have TT0 : 0 ≤ T * T := Int.mul_nonneg q0 q0
  have TT1 : T * T ≤ 9223372036854775807 * 9223372036854775807 := Int.mul_le_mul q1 q1 q0 (by omega)
  go_enter Try.func106, Try.ntmps106
  go_wp2_with fail
  go_loopw [5, 6] (fun qq ii wr => ∃ (q i : Int), qq = .int .u64 q ∧ ii = .int .i64 i ∧ -1 ≤ i ∧ i ≤ 62 ∧ BitK T (i + 1).toNat q ∧ Qw w wr) (fun _ ii _ => (intOf ii + 1).toNat)
  case atStart => exact ⟨0, 62, rfl, rfl, by decide, by decide, bit_start T 63 q0 (by omega), Qw.refl _⟩
  case round =>
    obtain ⟨q, i, rfl, rfl, i0, i1, hB, hq⟩ := hrel
    have hx3 := num_kept hx hq
    by_cases hi : i = -1
    · subst hi
      have eq : q = T := bit_end hB
      subst eq
      clear hB
      obtain ⟨K, eK⟩ : ∃ K, cmpI X (q * (q + 1)) = K := ⟨_, rfl⟩
      rw [eK] at Rest
      have EK := Lib.hid eK
      clear eK
      go_wp2_with fail
      refine (refLimbs q q0 (by omega) _).mono ?_
      rintro e w4 ⟨v4, rfl, h4, hq4⟩
      go_wp2_with fail
      refine (refLimbs (q + 1) (by omega) (by omega) _).mono ?_
      rintro e w5 ⟨v5, rfl, h5, hq5⟩
      go_wp2_with fail
      refine (mulN _ _ _ _ _ (num_kept h4 hq5) h5 (big_word (by omega)) (big_word (by omega))).mono ?_
      rintro e w6 ⟨v6, rfl, h6, hq6⟩
      have hqa := hq.trans ((hq4.trans hq5).trans hq6)
      go_wp2_with fail
      refine (refCmp _ _ _ _ _ (num_kept hx hqa) h6).mono ?_
      rintro e w7 ⟨rfl, hq7⟩
      rw [EK.out]
      have hqb := hqa.trans hq7
      clear hx3 hq h4 hq4 h5 hq5 h6 hq6 hqa hq7
      by_cases hk : 0 < K
      · have dk : decide (0 < K) = true := decide_eq_true hk
        have rest := Rest.out
        rw [if_pos hk] at rest
        have Rst := Lib.hid rest
        clear rest hk
        obtain ⟨J, eJ⟩ : ∃ J, cmpI (q * q) X = J := ⟨_, rfl⟩
        rw [eJ] at Rst
        have EJ := Lib.hid eJ
        clear eJ
        go_wp2_with fail
        refine (refLimbs q q0 (by omega) _).mono ?_
        rintro e w8 ⟨v8, rfl, h8, hq8⟩
        go_wp2_with fail
        refine (refLimbs q q0 (by omega) _).mono ?_
        rintro e w9 ⟨v9, rfl, h9, hq9⟩
        go_wp2_with fail
        refine (mulN _ _ _ _ _ (num_kept h8 hq9) h9 (big_word (by omega)) (big_word (by omega))).mono ?_
        rintro e w10 ⟨v10, rfl, h10, hq10⟩
        have hqc := hqb.trans ((hq8.trans hq9).trans hq10)
        go_wp2_with fail
        refine (refCmp _ _ _ _ _ h10 (num_kept hx hqc)).mono ?_
        rintro e w11 ⟨rfl, hq11⟩
        rw [EJ.out]
        have hqd := hqc.trans hq11
        clear h8 h9 h10 hq8 hq9 hq10 hq11 hqc hqb
        go_wp2_with fail
        go_ret3
        exact ⟨_, _, rfl, Rst.out, hqd⟩
      · have dk : decide (0 < K) = false := decide_eq_false hk
        have rest := Rest.out
        rw [if_neg hk] at rest
        have Rst := Lib.hid rest
        clear rest hk
        obtain ⟨J, eJ⟩ : ∃ J, cmpI (q * q) X = J := ⟨_, rfl⟩
        rw [eJ] at Rst
        have EJ := Lib.hid eJ
        clear eJ
        go_wp2_with fail
        refine (refLimbs q q0 (by omega) _).mono ?_
        rintro e w8 ⟨v8, rfl, h8, hq8⟩
        go_wp2_with fail
        refine (refLimbs q q0 (by omega) _).mono ?_
        rintro e w9 ⟨v9, rfl, h9, hq9⟩
        go_wp2_with fail
        refine (mulN _ _ _ _ _ (num_kept h8 hq9) h9 (big_word (by omega)) (big_word (by omega))).mono ?_
        rintro e w10 ⟨v10, rfl, h10, hq10⟩
        have hqc := hqb.trans ((hq8.trans hq9).trans hq10)
        go_wp2_with fail
        refine (refCmp _ _ _ _ _ h10 (num_kept hx hqc)).mono ?_
        rintro e w11 ⟨rfl, hq11⟩
        rw [EJ.out]
        have hqd := hqc.trans hq11
        clear h8 h9 h10 hq8 hq9 hq10 hq11 hqc hqb
        go_wp2_with fail
        go_ret3
        exact ⟨_, _, rfl, Rst.out, hqd⟩
    · obtain ⟨j, rfl⟩ := Int.eq_ofNat_of_zero_le (show 0 ≤ i by omega)
      have hB' : BitK T (j + 1) q := by rw [show ((j : Int) + 1).toNat = j + 1 from by omega] at hB; exact hB
      have jb : j < 63 := by omega
      have rm := bit_room hB' 63 jb (by omega)
      rw [show (2 : Int) ^ 63 = 9223372036854775808 from by decide] at rm
      have eO := bit_or hB' (by omega) (by omega)
      have yes := bit_yes hB'
      have no := bit_no hB'
      have q00 := hB'.1
      have p0 : (0 : Int) < 2 ^ j := Int.pow_pos (by decide)
      have p1 : 1 ≤ (2 : Int) ^ j := p0
      clear p0
      obtain ⟨P, eP⟩ : ∃ P, (2 : Int) ^ j = P := ⟨_, rfl⟩
      rw [eP] at eO rm yes no p1
      have p2 : P < 18446744073709551616 := by omega
      obtain ⟨N, eN⟩ : ∃ N, q + P = N := ⟨_, rfl⟩
      rw [eN] at eO rm yes no
      have N0 : 0 ≤ N := by omega
      have tst := Qt.out N N0
      have ND0 : 0 ≤ N * N := Int.mul_nonneg N0 N0
      have ND1 : N * N ≤ 9223372036854775807 * 9223372036854775807 := Int.mul_le_mul (by omega) (by omega) N0 (by omega)
      have Tst := Lib.hid tst; have Yes := Lib.hid yes; have No := Lib.hid no; have EN := Lib.hid eN
      clear tst yes no eN hB hB' hi
      obtain ⟨K, eK⟩ : ∃ K, cmpI (N * N) X = K := ⟨_, rfl⟩
      rw [eK] at Tst
      have EK := Lib.hid eK
      clear eK
      go_wp2_with fail
      refine (refLimbs N N0 (by omega) _).mono ?_
      rintro e w4 ⟨vq, rfl, hn4, hq4⟩
      go_wp2_with fail
      refine (mulN _ _ _ _ _ hn4 hn4 (big_word (by omega)) (big_word (by omega))).mono ?_
      rintro e w5 ⟨vy, rfl, hy5, hq5⟩
      have hx5 := num_kept hx3 (hq4.trans hq5)
      go_wp2_with fail
      refine (refCmp _ _ _ _ _ hy5 hx5).mono ?_
      rintro e w6 ⟨rfl, hq6⟩
      rw [EK.out]
      have hqr := hq.trans ((hq4.trans hq5).trans hq6)
      clear hx3 hn4 hy5 hx5 hq hq4 hq5 hq6
      by_cases hk : K ≤ 0
      · have dk : decide (K ≤ 0) = true := decide_eq_true hk
        have hB := Yes.out (Tst.out.1 hk)
        have HB := Lib.hid hB
        clear hB hk
        go_wp2_with fail
        go_roundw
        case rel => exact ⟨N, _, rfl, rfl, by omega, by omega, by rw [show ((j : Int) - 1 + 1).toNat = j from by omega]; exact HB.out, hqr⟩
        case measure => simp [intOf]
      · have dk : decide (K ≤ 0) = false := decide_eq_false hk
        have hB := No.out (by have := Tst.out; omega)
        have HB := Lib.hid hB
        clear hB hk
        go_wp2_with fail
        go_roundw
        case rel => exact ⟨q, _, rfl, rfl, by omega, by omega, by rw [show ((j : Int) - 1 + 1).toNat = j from by omega]; exact HB.out, hqr⟩
        case measure => simp [intOf]

set_option maxHeartbeats 1000000 in
theorem refRootW (a b m : Int) (a1 : -9223372036854775808 ≤ a) (a2 : a ≤ 9223372036854775807) (b1 : -9223372036854775808 ≤ b) (b2 : b ≤ 9223372036854775807) (w : World) :
    Calls Try.prog 89 #[.int .i64 a, .int .i64 b, .int .i64 m] w fun e w' => e = .returned (.tuple #[.int .i64 (rtv a b m), .bool (rtok a b m)]) ∧ Qw w w' := by
  by_cases ca : a < 0
  · have e1 : rtv a b m = 0 := if_pos (.inl ca)
    have e2 : rtok a b m = false := if_pos (.inl ca)
    have da : decide (a < 0) = true := decide_eq_true ca
    rw [e1, e2]
    clear e1 e2
    go_enter Try.func89, Try.ntmps89
    go_wp2_with fail
    go_ret2
    exact ⟨rfl, Qw.refl _⟩
  have da : decide (a < 0) = false := decide_eq_false ca
  by_cases cb : b < 0
  · have e1 : rtv a b m = 0 := if_pos (.inr cb)
    have e2 : rtok a b m = false := if_pos (.inr cb)
    have db : decide (b < 0) = true := decide_eq_true cb
    rw [e1, e2]
    clear e1 e2
    go_enter Try.func89, Try.ntmps89
    go_wp2_with fail
    go_ret2
    exact ⟨rfl, Qw.refl _⟩
  have db : decide (b < 0) = false := decide_eq_false cb
  by_cases hm : m < 0 ∨ 2 < m
  · rw [(rt_bad a b m hm).1, (rt_bad a b m hm).2]
    have ok : okm m = false := decide_eq_false (by omega)
    clear hm
    go_enter Try.func89, Try.ntmps89
    go_wp2_with (go_at_call 91; refine (refRight _ _).mono ?_; rintro e w' ⟨rfl, rfl⟩)
    go_ret2
    exact ⟨rfl, Qw.refl _⟩
  have ok : okm m = true := decide_eq_true (by omega)
  have e1 : rtv a b m = Mth.rv m false (rq (a * b) 1) (rr (a * b) 1) := if_neg (by omega)
  have e2 : rtok a b m = Mth.rok m false (rq (a * b) 1) (rr (a * b) 1) := if_neg (by omega)
  rw [e1, e2, rq_one]
  have ga : Mth.mag a = a := if_neg ca
  have gb : Mth.mag b = b := if_neg cb
  have p0 : 0 ≤ a * b := Int.mul_nonneg (by omega) (by omega)
  have p1 : a * b ≤ 9223372036854775807 * 9223372036854775807 := Int.mul_le_mul a2 b2 (by omega) (by omega)
  have prod := fun w => refProduct a b a1 a2 b1 b2 w
  rw [ga, gb] at prod
  have rq0 := Mth.rt_nonneg (a * b)
  have rq1 : Mth.rt (a * b) ≤ 9223372036854775807 := by
    have s := Mth.rt_spec (a * b) p0
    exact Mth.isq_le_of rq0 (by omega) (by omega)
  have rd := fun ex hf (h : RR ex hf (rr (a * b) 1)) w => refRounded false (Mth.rt (a * b)) ex hf m (rr (a * b) 1) rq0 (by omega) h (by omega) (by omega) w
  have rs := fun v w h => refRootS v (a * b) w h p0 (by omega)
  clear e1 e2 ga gb
  have Pr := Lib.hid prod; have Rd := Lib.hid rd; have Rs := Lib.hid rs
  clear prod rd rs hm
  generalize a * b = X at *
  go_enter Try.func89, Try.ntmps89
  go_wp2_with (go_at_call 91; refine (refRight _ _).mono ?_; rintro e w' ⟨rfl, rfl⟩)
  refine (Pr.out _).mono ?_
  rintro e w1 ⟨vx, rfl, hx1, hq1⟩
  go_wp2_with fail
  refine (Rs.out _ _ hx1).mono ?_
  rintro e w2 ⟨ex, hf, rfl, hrr, hq2⟩
  have Hr := Lib.hid hrr
  clear hrr
  go_wp2_with fail
  refine (Rd.out ex hf Hr.out _).mono ?_
  rintro e w3 ⟨rfl, rfl⟩
  go_wp2_with fail
  go_ret2
  exact ⟨rfl, hq1.trans hq2⟩

theorem refSqrtW (n m : Int) (a1 : -9223372036854775808 ≤ n) (a2 : n ≤ 9223372036854775807) (w : World) :
    Calls Try.prog 63 #[.int .i64 n, .int .i64 m] w fun e w' => e = .returned (.tuple #[.int .i64 (rtv n 1 m), .bool (rtok n 1 m)]) ∧ Qw w w' := by
  go_enter Try.func63, Try.ntmps63
  go_wp2_with fail
  refine (refRootW n 1 m a1 a2 (by omega) (by omega) _).mono ?_
  rintro e w1 ⟨rfl, hq1⟩
  go_wp2_with fail
  go_ret2
  exact ⟨rfl, hq1⟩

end Go.Proofs.Ytihmifdadikhaaa

/- The walk of Over of the specification of layer 1. -/
set_option linter.unusedVariables false
set_option linter.unusedSimpArgs false
namespace Go.Proofs.Ytihmifdadikhaaa
open Go.RowKit

theorem rq_test (N n q : Int) (hN : 0 ≤ N) (hn : 0 < n) (hq : 0 ≤ q) : cmpI (q * q * n) N ≤ 0 ↔ q ≤ rq N n := by
  have h0 := Int.ediv_nonneg hN (Int.le_of_lt hn)
  have t := rt_test (N / n) q h0 hq
  unfold rq
  rw [← t, cmpI_le, cmpI_le, Int.le_ediv_iff_mul_le hn]

theorem rest_over (N n : Int) (hN : 0 ≤ N) (hn : 0 < n) :
    RR (decide (cmpI (rq N n * rq N n * n) N = 0)) (cmpI (4 * N) ((2 * rq N n + 1) * (2 * rq N n + 1) * n)) (rr N n) := by
  have h0 := Int.ediv_nonneg hN (Int.le_of_lt hn)
  have s := Mth.rt_spec (N / n) h0
  have r0 := Mth.rt_nonneg (N / n)
  have d := Int.emod_add_mul_ediv N n
  have l0 := Int.emod_nonneg N (show n ≠ 0 by omega)
  have l1 := Int.emod_lt_of_pos N hn
  unfold rr
  change RR (decide (cmpI (Mth.rt (N / n) * Mth.rt (N / n) * n) N = 0)) (cmpI (4 * N) ((2 * Mth.rt (N / n) + 1) * (2 * Mth.rt (N / n) + 1) * n)) _
  generalize N / n = Q at *
  generalize N % n = l at *
  generalize Mth.rt Q = q at *
  have e1 : (2 * q + 1) * (2 * q + 1) * n = 4 * (q * q * n) + 4 * (q * n) + n := by
    have : (2 * q + 1) * (2 * q + 1) = 4 * (q * q) + 4 * q + 1 := by
      simp only [Int.add_mul, Int.mul_add, Int.mul_one, Int.one_mul]
      have : 2 * q * (2 * q) = 4 * (q * q) := by rw [Int.mul_assoc, Int.mul_left_comm q 2 q]; omega
      omega
    rw [this, Int.add_mul, Int.add_mul, Int.mul_assoc 4, Int.mul_assoc 4]; omega
  obtain ⟨O, eO⟩ : ∃ O, Q - q * q = O := ⟨_, rfl⟩
  have eQ : n * Q = q * q * n + O * n := by
    rw [← eO, Int.sub_mul, Int.mul_comm n Q]; omega
  rw [e1, eO]
  have o0 : 0 ≤ O := by omega
  have c1 := cmpI_zero (q * q * n) N
  have c2 := cmpI_lt (4 * N) (4 * (q * q * n) + 4 * (q * n) + n)
  have c3 := cmpI_zero (4 * N) (4 * (q * q * n) + 4 * (q * n) + n)
  have c4 := cmpI_gt (4 * N) (4 * (q * q * n) + 4 * (q * n) + n)
  -- O against q, times n
  have lt : O < q → O * n + n ≤ q * n := fun h => by
    have := Int.mul_le_mul_of_nonneg_right (show O + 1 ≤ q by omega) (Int.le_of_lt hn)
    rw [Int.add_mul, Int.one_mul] at this; exact this
  have gt : q < O → q * n + n ≤ O * n := fun h => by
    have := Int.mul_le_mul_of_nonneg_right (show q + 1 ≤ O by omega) (Int.le_of_lt hn)
    rw [Int.add_mul, Int.one_mul] at this; exact this
  have eqn : O = q → O * n = q * n := fun h => by rw [h]
  have on0 : 0 ≤ O * n := Int.mul_nonneg o0 (Int.le_of_lt hn)
  have qn0 : 0 ≤ q * n := Int.mul_nonneg r0 (Int.le_of_lt hn)
  have oz : O = 0 → O * n = 0 := fun h => by rw [h]; exact Int.zero_mul _
  have onz : O ≠ 0 → n ≤ O * n := fun h => by
    have := Int.mul_le_mul_of_nonneg_right (show 1 ≤ O by omega) (Int.le_of_lt hn)
    rw [Int.one_mul] at this; exact this
  generalize q * q * n = A at *
  generalize q * n = B at *
  generalize O * n = C at *
  unfold RR restR
  by_cases z : O = 0 ∧ l = 0
  · left
    have := oz z.1
    exact ⟨decide_eq_true (c1.2 (by omega)), c2.2 (by omega), if_pos z⟩
  · right
    rw [if_neg z]
    refine ⟨decide_eq_false (fun h => z ?_), ?_⟩
    · have := c1.1 h
      by_cases o : O = 0
      · have := oz o; exact ⟨o, by omega⟩
      · have := onz o; omega
    · by_cases b : O < q ∨ O = q ∧ 4 * l < n
      · left
        refine ⟨c2.2 ?_, if_pos b⟩
        rcases b with b | ⟨b, b2⟩
        · have := lt b; omega
        · have := eqn b; omega
      · rw [if_neg b]
        by_cases h : O = q ∧ 4 * l = n
        · right; left
          have := eqn h.1
          exact ⟨c3.2 (by omega), if_pos h⟩
        · right; right
          refine ⟨c4.2 ?_, if_neg h⟩
          by_cases g : O = q
          · have := eqn g; omega
          · have := gt (by omega); omega

theorem over_sign (m a b n : Int) : Mth.rnd m (decide (a * b < 0)) (rq (psq a b) n) (rr (psq a b) n) = Mth.rnd m (sg a b) (rq (psq a b) n) (rr (psq a b) n) := by
  by_cases z : a * b = 0
  · have e : psq a b = 0 := by unfold psq; rw [mag_mul, z]; rfl
    have q : rq 0 n = 0 := by unfold rq; rw [Int.zero_ediv]; rfl
    have r : rr 0 n = 0 := by unfold rr; rw [Int.zero_ediv, Int.zero_emod]; rfl
    rw [e, q, r, rnd_exact, rnd_exact]; simp
  · have e : decide (a * b < 0) = sg a b := by
      unfold sg
      have ha : a ≠ 0 := fun h => z (by rw [h]; simp)
      have hb : b ≠ 0 := fun h => z (by rw [h]; simp)
      rcases Int.lt_or_le a 0 with pa | pa <;> rcases Int.lt_or_le b 0 with pb | pb
      · have := Int.mul_pos_of_neg_of_neg pa pb
        rw [decide_eq_true pa, decide_eq_true pb, decide_eq_false (by omega)]; rfl
      · have := Int.mul_neg_of_neg_of_pos pa (show 0 < b by omega)
        rw [decide_eq_true pa, decide_eq_false (show ¬ b < 0 by omega), decide_eq_true (by omega)]; rfl
      · have := Int.mul_neg_of_pos_of_neg (show 0 < a by omega) pb
        rw [decide_eq_false (show ¬ a < 0 by omega), decide_eq_true pb, decide_eq_true (by omega)]; rfl
      · have := Int.mul_pos (show 0 < a by omega) (show 0 < b by omega)
        rw [decide_eq_false (show ¬ a < 0 by omega), decide_eq_false (show ¬ b < 0 by omega), decide_eq_false (by omega)]; rfl
    rw [e]

theorem over_rok (m a b n : Int) : Mth.rok m (decide (a * b < 0)) (rq (psq a b) n) (rr (psq a b) n) = Mth.rok m (sg a b) (rq (psq a b) n) (rr (psq a b) n) := by
  unfold Mth.rok; rw [over_sign]
theorem over_rv (m a b n : Int) : Mth.rv m (decide (a * b < 0)) (rq (psq a b) n) (rr (psq a b) n) = Mth.rv m (sg a b) (rq (psq a b) n) (rr (psq a b) n) := by
  unfold Mth.rv; rw [over_rok, over_sign]

set_option maxHeartbeats 4000000 in
theorem refOverW (a b n m : Int) (a1 : -9223372036854775808 ≤ a) (a2 : a ≤ 9223372036854775807) (b1 : -9223372036854775808 ≤ b) (b2 : b ≤ 9223372036854775807)
    (n1 : -9223372036854775808 ≤ n) (n2 : n ≤ 9223372036854775807) (w : World) :
    Calls Try.prog 64 #[.int .i64 a, .int .i64 b, .int .i64 n, .int .i64 m] w fun e w' => e = .returned (.tuple #[.int .i64 (ovv a b n m), .bool (ovok a b n m)]) ∧ Qw w w' := by
  have na := Mth.mag_nonneg a
  have nb := Mth.mag_nonneg b
  have ma := Mth.mag_le a a1 a2
  have mb := Mth.mag_le b b1 b2
  have lma := fun w => refMag a a1 a2 w
  have lmb := fun w => refMag b b1 b2 w
  have Lma := Lib.hid lma; have Lmb := Lib.hid lmb
  clear lma lmb
  by_cases ca : 2147483648 < Mth.mag a
  · have e1 : ovv a b n m = 0 := if_pos (Or.inl ca)
    have e2 : ovok a b n m = false := if_pos (Or.inl ca)
    have d1 : decide (2147483648 < Mth.mag a) = true := decide_eq_true ca
    rw [e1, e2]
    clear e1 e2
    go_enter Try.func64, Try.ntmps64
    go_wp2_with (go_at_call 90; first | ((with_reducible refine (Lma.out _).mono ?_); rintro e w' ⟨rfl, rfl⟩) | ((with_reducible refine (Lmb.out _).mono ?_); rintro e w' ⟨rfl, rfl⟩))
    go_ret2
    exact ⟨rfl, Qw.refl _⟩
  have da : decide (2147483648 < Mth.mag a) = false := decide_eq_false ca
  by_cases cb : 2147483648 < Mth.mag b
  · have e1 : ovv a b n m = 0 := if_pos (Or.inr (Or.inl cb))
    have e2 : ovok a b n m = false := if_pos (Or.inr (Or.inl cb))
    have d1 : decide (2147483648 < Mth.mag b) = true := decide_eq_true cb
    rw [e1, e2]
    clear e1 e2
    go_enter Try.func64, Try.ntmps64
    go_wp2_with (go_at_call 90; first | ((with_reducible refine (Lma.out _).mono ?_); rintro e w' ⟨rfl, rfl⟩) | ((with_reducible refine (Lmb.out _).mono ?_); rintro e w' ⟨rfl, rfl⟩))
    go_ret2
    exact ⟨rfl, Qw.refl _⟩
  have db : decide (2147483648 < Mth.mag b) = false := decide_eq_false cb
  by_cases cn : n < 1
  · have e1 : ovv a b n m = 0 := if_pos (Or.inr (Or.inr (Or.inl cn)))
    have e2 : ovok a b n m = false := if_pos (Or.inr (Or.inr (Or.inl cn)))
    have d1 : decide (n < 1) = true := decide_eq_true cn
    rw [e1, e2]
    clear e1 e2
    go_enter Try.func64, Try.ntmps64
    go_wp2_with (go_at_call 90; first | ((with_reducible refine (Lma.out _).mono ?_); rintro e w' ⟨rfl, rfl⟩) | ((with_reducible refine (Lmb.out _).mono ?_); rintro e w' ⟨rfl, rfl⟩))
    go_ret2
    exact ⟨rfl, Qw.refl _⟩
  have dn : decide (n < 1) = false := decide_eq_false cn
  by_cases cm : 4611686018427387904 < n
  · have e1 : ovv a b n m = 0 := if_pos (Or.inr (Or.inr (Or.inr cm)))
    have e2 : ovok a b n m = false := if_pos (Or.inr (Or.inr (Or.inr cm)))
    have d1 : decide (4611686018427387904 < n) = true := decide_eq_true cm
    rw [e1, e2]
    clear e1 e2
    go_enter Try.func64, Try.ntmps64
    go_wp2_with (go_at_call 90; first | ((with_reducible refine (Lma.out _).mono ?_); rintro e w' ⟨rfl, rfl⟩) | ((with_reducible refine (Lmb.out _).mono ?_); rintro e w' ⟨rfl, rfl⟩))
    go_ret2
    exact ⟨rfl, Qw.refl _⟩
  have dm : decide (4611686018427387904 < n) = false := decide_eq_false cm
  by_cases hm : m < 0 ∨ 2 < m
  · rw [(ov_bad a b n m hm).1, (ov_bad a b n m hm).2]
    have ok : okm m = false := decide_eq_false (by omega)
    clear hm
    go_enter Try.func64, Try.ntmps64
    go_wp2_with (first | (go_at_call 91; refine (refRight _ _).mono ?_; rintro e w' ⟨rfl, rfl⟩) | (go_at_call 90; first | ((with_reducible refine (Lma.out _).mono ?_); rintro e w' ⟨rfl, rfl⟩) | ((with_reducible refine (Lmb.out _).mono ?_); rintro e w' ⟨rfl, rfl⟩)))
    go_ret2
    exact ⟨rfl, Qw.refl _⟩
  have ok : okm m = true := decide_eq_true (by omega)
  have nbad : ¬ OvBad a b n := by unfold OvBad; omega
  have e1 : ovv a b n m = Mth.rv m (decide (a * b < 0)) (rq (psq a b) n) (rr (psq a b) n) := by rw [over_rv]; exact if_neg nbad
  have e2 : ovok a b n m = Mth.rok m (decide (a * b < 0)) (rq (psq a b) n) (rr (psq a b) n) := by rw [over_rok]; exact if_neg nbad
  rw [e1, e2]
  have sg' := sgn_lt a b
  have f0 : 0 ≤ Mth.mag a * Mth.mag b := Int.mul_nonneg na nb
  have f1 : Mth.mag a * Mth.mag b ≤ 4611686018427387904 := Int.mul_le_mul (show Mth.mag a ≤ 2147483648 by omega) (show Mth.mag b ≤ 2147483648 by omega) nb (by omega)
  have p0 : 0 ≤ psq a b := Int.mul_nonneg f0 f0
  have p1 : psq a b ≤ 4611686018427387904 * 4611686018427387904 := Int.mul_le_mul f1 f1 f0 (by omega)
  have prod := fun w => refProduct a b a1 a2 b1 b2 w
  obtain ⟨F, eF⟩ : ∃ F, Mth.mag a * Mth.mag b = F := ⟨_, rfl⟩
  have eP : psq a b = F * F := by unfold psq; rw [eF]
  rw [eF] at f0 f1 prod
  rw [eP] at p0 p1 ⊢
  have qt := fun q hq => rq_test (F * F) n q p0 (by omega) hq
  have rest := rest_over (F * F) n p0 (by omega)
  have q0 : 0 ≤ rq (F * F) n := Mth.rt_nonneg _
  have q1 : rq (F * F) n ≤ 4611686018427387904 := by
    have h0 := Int.ediv_nonneg p0 (show 0 ≤ n by omega)
    have h1 : F * F / n ≤ F * F := by
      have d := Int.emod_add_mul_ediv (F * F) n
      have := Int.emod_nonneg (F * F) (show n ≠ 0 by omega)
      have := Int.mul_le_mul_of_nonneg_right (show 1 ≤ n by omega) h0
      omega
    have s := Mth.rt_spec (F * F / n) h0
    exact Mth.isq_le_of (r := Mth.rt (F * F / n)) (Mth.rt_nonneg _) (by omega) (by omega)
  obtain ⟨T, eT⟩ : ∃ T, rq (F * F) n = T := ⟨_, rfl⟩
  rw [eT] at qt rest q0 q1 ⊢
  obtain ⟨H, eH⟩ : ∃ H, rr (F * F) n = H := ⟨_, rfl⟩
  rw [eH] at rest ⊢
  have rd := fun ex hf (h : RR ex hf H) w => refRounded (decide (a * b < 0)) T ex hf m H q0 (by omega) h (by omega) (by omega) w
  generalize decide (a * b < 0) = sn at *
  have Pr := Lib.hid prod; have Rd := Lib.hid rd; have Qt := Lib.hid qt; have Rest := Lib.hid rest
  clear prod rd qt rest eT eH eP eF e1 e2 nbad hm
  obtain ⟨X, eX⟩ : ∃ X, F * F = X := ⟨_, rfl⟩
  rw [eX] at p0 p1 Qt Rest
  have EX := Lib.hid eX
  clear eX
  have TT0 : 0 ≤ T * T := Int.mul_nonneg q0 q0
  have TT1 : T * T ≤ 4611686018427387904 * 4611686018427387904 := Int.mul_le_mul q1 q1 q0 (by omega)
  have TN1 : T * T * n ≤ 4611686018427387904 * 4611686018427387904 * 4611686018427387904 := Int.mul_le_mul TT1 (show n ≤ 4611686018427387904 by omega) (by omega) (by omega)
  have UU1 : (2 * T + 1) * (2 * T + 1) ≤ 9223372036854775809 * 9223372036854775809 := Int.mul_le_mul (by omega) (by omega) (by omega) (by omega)
  go_enter Try.func64, Try.ntmps64
  go_wp2_with (first | (go_at_call 91; refine (refRight _ _).mono ?_; rintro e w' ⟨rfl, rfl⟩) | (go_at_call 90; first | ((with_reducible refine (Lma.out _).mono ?_); rintro e w' ⟨rfl, rfl⟩) | ((with_reducible refine (Lmb.out _).mono ?_); rintro e w' ⟨rfl, rfl⟩)))
  refine (Pr.out _).mono ?_
  rintro e w1 ⟨vf, rfl, hf1, hq1⟩
  go_wp2_with fail
  refine (mulN _ _ _ _ _ hf1 hf1 (big_word (by omega)) (big_word (by omega))).mono ?_
  rintro e w2 ⟨vx, rfl, hx2, hq2⟩
  rw [EX.out] at hx2
  go_wp2_with fail
  refine (refLimbs n (by omega) (by omega) _).mono ?_
  rintro e w3 ⟨vd, rfl, hd3, hq3⟩
  have hx3 := num_kept hx2 hq3
  have hqb := (hq1.trans hq2).trans hq3
  clear hf1 hx2 hq1 hq2 hq3
  go_wp2_with fail
  go_loopw [13, 14] (fun qq ii wr => ∃ (q i : Int), qq = .int .u64 q ∧ ii = .int .i64 i ∧ -1 ≤ i ∧ i ≤ 62 ∧ BitK T (i + 1).toNat q ∧ Qw w3 wr) (fun _ ii _ => (intOf ii + 1).toNat)
  case atStart => exact ⟨0, 62, rfl, rfl, by decide, by decide, bit_start T 63 q0 (by omega), Qw.refl _⟩
  case round =>
    obtain ⟨q, i, rfl, rfl, i0, i1, hB, hq⟩ := hrel
    have hx4 := num_kept hx3 hq
    have hd4 := num_kept hd3 hq
    by_cases hi : i = -1
    · subst hi
      have eq : q = T := bit_end hB
      subst eq
      clear hB
      have nn : 0 < n := by omega
      have qn1 : q * q * n ≤ Big := by unfold Big; omega
      have x41 : 4 * X ≤ Big := by unfold Big; omega
      have rest := Rest.out
      obtain ⟨J, eJ⟩ : ∃ J, cmpI (q * q * n) X = J := ⟨_, rfl⟩
      obtain ⟨K, eK⟩ : ∃ K, cmpI (4 * X) ((2 * q + 1) * (2 * q + 1) * n) = K := ⟨_, rfl⟩
      rw [eJ, eK] at rest
      have fin := fun w => Rd.out _ _ rest w
      have Fin := Lib.hid fin; have EJ := Lib.hid eJ; have EK := Lib.hid eK
      clear rest fin eJ eK
      go_wp2_with fail
      refine (refLimbs q q0 (by omega) _).mono ?_
      rintro e w5 ⟨vl, rfl, hl5, hq5⟩
      go_wp2_with fail
      refine (refLimbs (2 * q + 1) (by omega) (by omega) _).mono ?_
      rintro e w6 ⟨vk, rfl, hk6, hq6⟩
      go_wp2_with fail
      refine (refLimbs 4 (by decide) (by decide) _).mono ?_
      rintro e w7 ⟨v7, rfl, h7, hq7⟩
      go_wp2_with fail
      refine (mulN _ _ _ _ _ h7 (num_kept hx4 ((hq5.trans hq6).trans hq7)) (big_word (by omega)) (big_two (by omega))).mono ?_
      rintro e w8 ⟨v8, rfl, h8, hq8⟩
      go_wp2_with fail
      refine (mulN _ _ _ _ _ (num_kept hk6 (hq7.trans hq8)) (num_kept hk6 (hq7.trans hq8)) (big_word (by omega)) (big_word (by omega))).mono ?_
      rintro e w9 ⟨v9, rfl, h9, hq9⟩
      have hqc := ((hq5.trans hq6).trans hq7).trans (hq8.trans hq9)
      go_wp2_with fail
      refine (mulN _ _ _ _ _ h9 (num_kept hd4 hqc) (big_two (by omega)) (big_word (by omega))).mono ?_
      rintro e w10 ⟨v10, rfl, h10, hq10⟩
      go_wp2_with fail
      refine (refCmp _ _ _ _ _ (num_kept h8 (hq9.trans hq10)) h10).mono ?_
      rintro e w11 ⟨rfl, hq11⟩
      rw [EK.out]
      have hqd := hqc.trans (hq10.trans hq11)
      have hl11 := num_kept hl5 ((((hq6.trans hq7).trans hq8).trans hq9).trans (hq10.trans hq11))
      have hx11 := num_kept hx4 hqd
      have hd11 := num_kept hd4 hqd
      have hqe := (hqb.trans hq).trans hqd
      clear hl5 hk6 h7 h8 h9 h10 hx4 hd4 hq5 hq6 hq7 hq8 hq9 hq10 hq11 hqc hqd hq hqb
      go_wp2_with (go_at_call 97; refine (refSign _ _ _).mono ?_; rintro e w' ⟨rfl, rfl⟩)
      refine (mulN _ _ _ _ _ hl11 hl11 (big_word (by omega)) (big_word (by omega))).mono ?_
      rintro e w12 ⟨v12, rfl, h12, hq12⟩
      go_wp2_with fail
      refine (mulN _ _ _ _ _ h12 (num_kept hd11 hq12) (big_two (by omega)) (big_word (by omega))).mono ?_
      rintro e w13 ⟨v13, rfl, h13, hq13⟩
      go_wp2_with fail
      refine (refCmp _ _ _ _ _ h13 (num_kept hx11 (hq12.trans hq13))).mono ?_
      rintro e w14 ⟨rfl, hq14⟩
      rw [EJ.out]
      have hqf := hqe.trans ((hq12.trans hq13).trans hq14)
      clear hl11 hx11 hd11 h12 h13 hq12 hq13 hq14 hqe
      go_wp2_with fail
      refine (Fin.out _).mono ?_
      rintro e w15 ⟨rfl, rfl⟩
      go_wp2_with fail
      go_ret2
      exact ⟨rfl, hqf⟩
    · obtain ⟨j, rfl⟩ := Int.eq_ofNat_of_zero_le (show 0 ≤ i by omega)
      have hB' : BitK T (j + 1) q := by rw [show ((j : Int) + 1).toNat = j + 1 from by omega] at hB; exact hB
      have jb : j < 63 := by omega
      have rm := bit_room hB' 63 jb (by omega)
      rw [show (2 : Int) ^ 63 = 9223372036854775808 from by decide] at rm
      have eO := bit_or hB' (by omega) (by omega)
      have yes := bit_yes hB'
      have no := bit_no hB'
      have q00 := hB'.1
      have p0 : (0 : Int) < 2 ^ j := Int.pow_pos (by decide)
      have p1' : 1 ≤ (2 : Int) ^ j := p0
      clear p0
      obtain ⟨P, eP⟩ : ∃ P, (2 : Int) ^ j = P := ⟨_, rfl⟩
      rw [eP] at eO rm yes no p1'
      have p2 : P < 18446744073709551616 := by omega
      obtain ⟨N, eN⟩ : ∃ N, q + P = N := ⟨_, rfl⟩
      rw [eN] at eO rm yes no
      have N0 : 0 ≤ N := by omega
      have tst := Qt.out N N0
      have ND0 : 0 ≤ N * N := Int.mul_nonneg N0 N0
      have ND1 : N * N ≤ 9223372036854775807 * 9223372036854775807 := Int.mul_le_mul (by omega) (by omega) N0 (by omega)
      have Tst := Lib.hid tst; have Yes := Lib.hid yes; have No := Lib.hid no; have EN := Lib.hid eN
      clear tst yes no eN hB hB' hi
      obtain ⟨K, eK⟩ : ∃ K, cmpI (N * N * n) X = K := ⟨_, rfl⟩
      rw [eK] at Tst
      have EK := Lib.hid eK
      clear eK
      go_wp2_with fail
      refine (refLimbs N N0 (by omega) _).mono ?_
      rintro e w4 ⟨vq, rfl, hn4, hq4⟩
      go_wp2_with fail
      refine (mulN _ _ _ _ _ hn4 hn4 (big_word (by omega)) (big_word (by omega))).mono ?_
      rintro e w5 ⟨vy, rfl, hy5, hq5⟩
      go_wp2_with fail
      refine (mulN _ _ _ _ _ hy5 (num_kept hd4 (hq4.trans hq5)) (big_two (by omega)) (big_word (by omega))).mono ?_
      rintro e w6 ⟨vz, rfl, hz6, hq6⟩
      have hx6 := num_kept hx4 ((hq4.trans hq5).trans hq6)
      go_wp2_with fail
      refine (refCmp _ _ _ _ _ hz6 hx6).mono ?_
      rintro e w7 ⟨rfl, hq7⟩
      rw [EK.out]
      have hqr := hq.trans (((hq4.trans hq5).trans hq6).trans hq7)
      clear hx4 hd4 hn4 hy5 hz6 hx6 hq hq4 hq5 hq6 hq7
      by_cases hk : K ≤ 0
      · have dk : decide (K ≤ 0) = true := decide_eq_true hk
        have hB := Yes.out (Tst.out.1 hk)
        have HB := Lib.hid hB
        clear hB hk
        go_wp2_with fail
        go_roundw
        case rel => exact ⟨N, _, rfl, rfl, by omega, by omega, by rw [show ((j : Int) - 1 + 1).toNat = j from by omega]; exact HB.out, hqr⟩
        case measure => simp [intOf]
      · have dk : decide (K ≤ 0) = false := decide_eq_false hk
        have hB := No.out (by have := Tst.out; omega)
        have HB := Lib.hid hB
        clear hB hk
        go_wp2_with fail
        go_roundw
        case rel => exact ⟨q, _, rfl, rfl, by omega, by omega, by rw [show ((j : Int) - 1 + 1).toNat = j from by omega]; exact HB.out, hqr⟩
        case measure => simp [intOf]

end Go.Proofs.Ytihmifdadikhaaa

/- Plain facts on Over: a square under the root, and the range of its results. -/
set_option linter.unusedVariables false
set_option linter.unusedSimpArgs false
namespace Go.Proofs.Ytihmifdadikhaaa
open Go.RowKit

theorem rr_uniq {ex : Bool} {h k r s : Int} (h1 : RR ex h r) (h2 : RR ex k s) (e : h = k) : r = s := by
  subst e
  rcases h1 with ⟨a, b, c⟩ | ⟨a, b⟩ <;> rcases h2 with ⟨a', b', c'⟩ | ⟨a', b'⟩
  · omega
  · rw [a] at a'; contradiction
  · rw [a] at a'; contradiction
  · omega

theorem cmp_sq (x y : Int) (hx : 0 ≤ x) (hy : 0 ≤ y) : cmpI (x * x) (y * y) = cmpI x y := by
  unfold cmpI
  rcases Int.lt_trichotomy x y with h | h | h
  · have : x * x < y * y := by
      have m1 := Int.mul_le_mul_of_nonneg_left (show x ≤ y by omega) hx
      have m2 := Int.mul_lt_mul_of_pos_right h (show 0 < y by omega)
      omega
    rw [if_pos this, if_pos h]
  · subst h; rw [if_neg (by omega), if_pos rfl, if_neg (by omega), if_pos rfl]
  · have : y * y < x * x := by
      have m1 := Int.mul_le_mul_of_nonneg_left (show y ≤ x by omega) hy
      have m2 := Int.mul_lt_mul_of_pos_right h (show 0 < x by omega)
      omega
    rw [if_neg (by omega), if_neg (by omega), if_neg (by omega), if_neg (by omega)]

theorem rnd_bound (m : Int) (neg : Bool) (q r : Int) (h : 0 ≤ q) : -(q + 1) ≤ Mth.rnd m neg q r ∧ Mth.rnd m neg q r ≤ q + 1 := by
  unfold Mth.rnd
  cases neg <;> simp <;> split <;> omega

theorem mag_31 {a : Int} (h1 : -2147483648 ≤ a) (h2 : a ≤ 2147483648) : Mth.mag a ≤ 2147483648 := by unfold Mth.mag; split <;> omega

theorem ov_ok (a b n m : Int) (a1 : -2147483648 ≤ a) (a2 : a ≤ 2147483648) (b1 : -2147483648 ≤ b) (b2 : b ≤ 2147483648) (n1 : 1 ≤ n) (n2 : n ≤ 4611686018427387904) (m0 : 0 ≤ m) (m2 : m ≤ 2) :
    ovok a b n m = true ∧ ovv a b n m = Mth.rnd m (sg a b) (rq (psq a b) n) (rr (psq a b) n) := by
  have ma := mag_31 a1 a2
  have mb := mag_31 b1 b2
  have na := Mth.mag_nonneg a
  have nb := Mth.mag_nonneg b
  have nbad : ¬ OvBad a b n := by unfold OvBad; omega
  have f0 : 0 ≤ Mth.mag a * Mth.mag b := Int.mul_nonneg na nb
  have f1 : Mth.mag a * Mth.mag b ≤ 2147483648 * 2147483648 := Int.mul_le_mul ma mb nb (by omega)
  have p0 : 0 ≤ psq a b := Int.mul_nonneg f0 f0
  have p1 : psq a b ≤ 2147483648 * 2147483648 * (2147483648 * 2147483648) := Int.mul_le_mul f1 f1 f0 (by omega)
  have q0 : 0 ≤ rq (psq a b) n := Mth.rt_nonneg _
  have q1 : rq (psq a b) n ≤ 4611686018427387904 := by
    have h0 := Int.ediv_nonneg p0 (show 0 ≤ n by omega)
    have h1 : psq a b / n ≤ psq a b := by
      have d := Int.emod_add_mul_ediv (psq a b) n
      have := Int.emod_nonneg (psq a b) (show n ≠ 0 by omega)
      have := Int.mul_le_mul_of_nonneg_right (show 1 ≤ n by omega) h0
      omega
    have s := Mth.rt_spec (psq a b / n) h0
    exact Mth.isq_le_of (r := Mth.rt (psq a b / n)) (Mth.rt_nonneg _) (by omega) (by omega)
  have bd := rnd_bound m (sg a b) (rq (psq a b) n) (rr (psq a b) n) q0
  have rk := rok_true m (sg a b) (rq (psq a b) n) (rr (psq a b) n) _ m0 m2 rfl (by omega) (by omega)
  unfold ovok ovv
  rw [if_neg nbad, if_neg nbad, rk.1, rk.2]
  exact ⟨rfl, rfl⟩

theorem squares_plain (a b k m : Int) (a1 : -2147483648 ≤ a) (a2 : a ≤ 2147483648) (b1 : -2147483648 ≤ b) (b2 : b ≤ 2147483648) (k1 : 1 ≤ k) (k2 : k ≤ 2147483648) (m0 : 0 ≤ m) (m2 : m ≤ 2) :
    ovok a b (k * k) m = true ∧ mdok a b k m = true ∧ ovv a b (k * k) m = mdv a b k m := by
  have ma := mag_31 a1 a2
  have mb := mag_31 b1 b2
  have na := Mth.mag_nonneg a
  have nb := Mth.mag_nonneg b
  have gk : Mth.mag k = k := if_neg (by omega)
  have kk1 : 1 * 1 ≤ k * k := Int.mul_le_mul k1 k1 (by omega) (by omega)
  have kk2 : k * k ≤ 2147483648 * 2147483648 := Int.mul_le_mul k2 k2 (by omega) (by omega)
  obtain ⟨o1, o2⟩ := ov_ok a b (k * k) m a1 a2 b1 b2 (by omega) (by omega) m0 m2
  have f0 : 0 ≤ Mth.mag a * Mth.mag b := Int.mul_nonneg na nb
  have f1 : Mth.mag a * Mth.mag b ≤ 2147483648 * 2147483648 := Int.mul_le_mul ma mb nb (by omega)
  have hc : k ≠ 0 := by omega
  have ps : psq a b = Mth.mag a * Mth.mag b * (Mth.mag a * Mth.mag b) := rfl
  have mqd : mq a b k = Mth.mag a * Mth.mag b / k := by unfold mq; rw [gk]
  have q0 : 0 ≤ Mth.mag a * Mth.mag b / k := Int.ediv_nonneg f0 (by omega)
  have qs : Mth.mag a * Mth.mag b / k ≤ 4611686018427387904 := by
    have d := Int.emod_add_mul_ediv (Mth.mag a * Mth.mag b) k
    have := Int.emod_nonneg (Mth.mag a * Mth.mag b) (show k ≠ 0 by omega)
    have := Int.mul_le_mul_of_nonneg_right (show 1 ≤ k by omega) q0
    omega
  have tl := rest_told a b k hc (by rw [gk]; omega)
  have qbe : qb (Mth.mag a * Mth.mag b) k = Mth.mag a * Mth.mag b / k := if_pos (by omega)
  rw [gk, qbe] at tl
  have sgn : ng a b k = sg a b := by unfold ng sg; rw [decide_eq_false (show ¬ k < 0 by omega)]; simp
  have p0 : 0 ≤ psq a b := by rw [ps]; exact Int.mul_nonneg f0 f0
  have ro := rest_over (psq a b) (k * k) p0 (by omega)
  have d := Int.emod_add_mul_ediv (Mth.mag a * Mth.mag b) k
  have s0 := Int.emod_nonneg (Mth.mag a * Mth.mag b) (show k ≠ 0 by omega)
  have s1 := Int.emod_lt_of_pos (Mth.mag a * Mth.mag b) (show 0 < k by omega)
  rw [ps] at ro o2
  generalize Mth.mag a * Mth.mag b = P at *
  -- the roots are the same
  have le1 : P / k * k ≤ P := by rw [Int.mul_comm]; omega
  have lt1 : P < (P / k + 1) * k := by rw [Int.add_mul, Int.one_mul, Int.mul_comm]; omega
  have qk0 : 0 ≤ P / k * k := Int.mul_nonneg q0 (by omega)
  have rqe : rq (P * P) (k * k) = P / k := by
    unfold rq
    refine Mth.rt_uniq _ _ q0 ?_ ?_
    · rw [Int.le_ediv_iff_mul_le (by omega)]
      have e : P / k * (P / k) * (k * k) = P / k * k * (P / k * k) := by
        rw [Int.mul_assoc, Int.mul_left_comm (P / k) k k, ← Int.mul_assoc]
      rw [e]
      exact Int.mul_le_mul le1 le1 qk0 f0
    · rw [Int.ediv_lt_iff_lt_mul (by omega)]
      have e : (P / k + 1) * (P / k + 1) * (k * k) = (P / k + 1) * k * ((P / k + 1) * k) := by
        rw [Int.mul_assoc, Int.mul_left_comm (P / k + 1) k k, ← Int.mul_assoc]
      rw [e]
      have m1 := Int.mul_le_mul_of_nonneg_left (show P ≤ (P / k + 1) * k by omega) f0
      have m2 := Int.mul_lt_mul_of_pos_right lt1 (show 0 < (P / k + 1) * k by omega)
      omega
  have rre : rr (P * P) (k * k) = mr a b k := by
    rw [rqe] at ro
    have e1 : P / k * (P / k) * (k * k) = P / k * k * (P / k * k) := by
      rw [Int.mul_assoc, Int.mul_left_comm (P / k) k k, ← Int.mul_assoc]
    have e2 : 4 * (P * P) = (P + P) * (P + P) := by simp only [Int.add_mul, Int.mul_add]; omega
    have e3 : (2 * (P / k) + 1) * (2 * (P / k) + 1) * (k * k) = (P / k * k + P / k * k + k) * (P / k * k + P / k * k + k) := by
      have : P / k * k + P / k * k + k = (2 * (P / k) + 1) * k := by rw [Int.add_mul, Int.one_mul, Int.mul_assoc]; omega
      rw [this, Int.mul_assoc, Int.mul_left_comm (2 * (P / k) + 1) k k, ← Int.mul_assoc]
    rw [e1, e2, e3, cmp_sq _ _ qk0 f0, cmp_sq _ _ (by omega) (by omega)] at ro
    have c : decide (cmpI (P / k * k) P = 0) = decide (cmpI P (P / k * k) = 0) := by
      rw [decide_eq_decide, cmpI_zero, cmpI_zero]; exact eq_comm
    rw [c] at ro
    exact rr_uniq ro tl rfl
  rw [rqe, rre] at o2
  have bd := rnd_bound m (sg a b) (P / k) (mr a b k) q0
  have rk := rok_true m (ng a b k) (mq a b k) (mr a b k) _ m0 m2 rfl (by rw [mqd, sgn]; omega) (by rw [mqd, sgn]; omega)
  refine ⟨o1, ?_, ?_⟩
  · unfold mdok; rw [if_neg hc]; exact rk.2
  · rw [o2]; unfold mdv; rw [if_neg hc, rk.1, mqd, sgn]

end Go.Proofs.Ytihmifdadikhaaa
