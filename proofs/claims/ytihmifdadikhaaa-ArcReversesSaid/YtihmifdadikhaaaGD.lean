import Derived.Test.YtihmifdadikhaaaGC
import Derived.Great.Ranges
import Derived.Laws.Tables
import Derived.Laws.Rows
import Derived.Lib.QuietBelow
import Derived.Deep.MidRow
import Derived.Deep.Cut
import Derived.OrdersHeld
import Derived.StillTail

/- Plain facts on directions: products of sides, what a turn meets, sweeps. -/
set_option linter.unusedVariables false
set_option linter.unusedSimpArgs false
namespace Go.Proofs.Ytihmifdadikhaaa.Ac

/-- The vector product and the scalar product. -/
def cr (u v a b : Int) : Int := u * b - v * a
def inn (u v a b : Int) : Int := u * a + v * b
/-- Where a turn meets a direction, from the two products. -/
def mts (c i : Int) : Int := if c < 0 then 2 else if 0 < c ∨ i < 0 then 1 else 0
/-- A turn from (u, v) to (a, b) meets (x, y). -/
def pas (u v x y a b : Int) : Bool := decide (mts (cr u v x y) (inn u v x y) < mts (cr u v a b) (inn u v a b)) || (decide (mts (cr u v x y) (inn u v x y) = mts (cr u v a b) (inn u v a b)) && decide (0 ≤ cr x y a b))
/-- The half in which a direction lies, from the two products. -/
def hlf (x i : Int) : Int := if 0 < x ∨ x = 0 ∧ 0 < i then 0 else 1
/-- The sweep from (u, v) to (a, b) in the direction d contains (x, y). -/
def swp (u v a b x y d : Int) : Bool := if hlf (cr u v x y * d) (inn u v x y) = hlf (cr u v a b * d) (inn u v a b) then decide (0 ≤ cr x y a b * d) else decide (hlf (cr u v x y * d) (inn u v x y) < hlf (cr u v a b * d) (inn u v a b))

theorem mts_spec (c i : Int) : mts c i = 2 ∧ c < 0 ∨ mts c i = 1 ∧ (0 < c ∨ c = 0 ∧ i < 0) ∨ mts c i = 0 ∧ c = 0 ∧ 0 ≤ i := by
  unfold mts
  split
  · omega
  · split <;> omega
theorem hlf_spec (c i : Int) : hlf c i = 0 ∧ (0 < c ∨ c = 0 ∧ 0 < i) ∨ hlf c i = 1 ∧ (c < 0 ∨ c = 0 ∧ i ≤ 0) := by
  unfold hlf
  split <;> omega
theorem third (u v x y a b : Int) : (u * u + v * v) * cr x y a b = cr u v a b * inn u v x y - cr u v x y * inn u v a b := by
  unfold cr inn
  simp only [Int.mul_add, Int.add_mul, Int.sub_mul, Int.mul_sub, Int.mul_assoc, Int.mul_comm, Int.mul_left_comm]
  omega
theorem fourth (u v x y a b : Int) : (u * u + v * v) * inn a b x y = inn u v a b * inn u v x y + cr u v a b * cr u v x y := by
  unfold cr inn
  simp only [Int.mul_add, Int.add_mul, Int.sub_mul, Int.mul_sub, Int.mul_assoc, Int.mul_comm, Int.mul_left_comm]
  omega
theorem cr_neg (u v a b : Int) : cr a b u v = -cr u v a b := by unfold cr; rw [Int.mul_comm a v, Int.mul_comm b u]; omega
theorem inn_comm (u v a b : Int) : inn a b u v = inn u v a b := by unfold inn; rw [Int.mul_comm a u, Int.mul_comm b v]
theorem lag (u v s t : Int) : cr u v s t * cr u v s t + inn u v s t * inn u v s t = (u * u + v * v) * (s * s + t * t) := by
  unfold cr inn
  simp only [Int.mul_add, Int.add_mul, Int.sub_mul, Int.mul_sub, Int.mul_assoc, Int.mul_comm, Int.mul_left_comm]
  omega
theorem sq0 (a : Int) : 0 ≤ a * a := by
  rcases Int.le_total 0 a with c | c
  · exact Int.mul_nonneg c c
  · have := Int.mul_nonneg (show 0 ≤ -a by omega) (show 0 ≤ -a by omega)
    rw [Int.neg_mul_neg] at this; exact this
theorem sq_pos {a : Int} (h : a ≠ 0) : 0 < a * a := by
  rcases Int.lt_or_le 0 a with c | c
  · exact Int.mul_pos c c
  · have := Int.mul_pos (show 0 < -a by omega) (show 0 < -a by omega)
    rw [Int.neg_mul_neg] at this; exact this
theorem len_pos {u v : Int} (h : ¬ (u = 0 ∧ v = 0)) : 0 < u * u + v * v := by
  have a := sq0 u
  have b := sq0 v
  by_cases c : u = 0
  · have := sq_pos (a := v) (by omega); omega
  · have := sq_pos c; omega
theorem not_both {u v x y : Int} (ha : 0 < u * u + v * v) (hp : 0 < x * x + y * y) : ¬ (cr u v x y = 0 ∧ inn u v x y = 0) := by
  rintro ⟨e1, e2⟩
  have := lag u v x y
  rw [e1, e2] at this
  have := Int.mul_pos ha hp
  omega
/-- The sign of a factor. -/
theorem sgn {A Y P : Int} (hA : 0 < A) (e : A * Y = P) : (0 < P → 0 < Y) ∧ (P < 0 → Y < 0) ∧ (P = 0 → Y = 0) := by
  refine ⟨fun h => ?_, fun h => ?_, fun h => ?_⟩
  · rcases Int.lt_or_le 0 Y with c | c
    · exact c
    · have := Int.mul_nonneg (show 0 ≤ A by omega) (show 0 ≤ -Y by omega)
      rw [Int.mul_neg] at this; omega
  · rcases Int.lt_or_le Y 0 with c | c
    · exact c
    · have := Int.mul_nonneg (show 0 ≤ A by omega) c
      omega
  · rcases Int.lt_trichotomy Y 0 with c | c | c
    · have := Int.mul_pos hA (show 0 < -Y by omega)
      rw [Int.mul_neg] at this; omega
    · exact c
    · have := Int.mul_pos hA c
      omega
theorem pp {a b : Int} (h : 0 < a) (k : 0 < b) : 0 < a * b := Int.mul_pos h k
theorem pn {a b : Int} (h : 0 < a) (k : b < 0) : a * b < 0 := by have := Int.mul_pos h (show 0 < -b by omega); rw [Int.mul_neg] at this; omega
theorem np {a b : Int} (h : a < 0) (k : 0 < b) : a * b < 0 := by rw [Int.mul_comm]; exact pn k h
theorem nn {a b : Int} (h : a < 0) (k : b < 0) : 0 < a * b := by have := Int.mul_pos (show 0 < -a by omega) (show 0 < -b by omega); rw [Int.neg_mul_neg] at this; omega
/-- The signs of a difference of two products of which one is nothing. -/
theorem signs {A Y S C S' C' : Int} (hA : 0 < A) (e : A * Y = S * C' - S' * C) :
    (S' ≠ 0 ∧ S ≠ 0) ∨ (S' = 0 ∧ 0 < S ∧ 0 < C' ∧ 0 < Y) ∨ (S' = 0 ∧ 0 < S ∧ C' < 0 ∧ Y < 0) ∨ (S' = 0 ∧ S < 0 ∧ C' < 0 ∧ 0 < Y) ∨ (S' = 0 ∧ S < 0 ∧ 0 < C' ∧ Y < 0) ∨ (S' = 0 ∧ S = 0 ∧ Y = 0) ∨ (S' = 0 ∧ C' = 0) ∨
    (S = 0 ∧ C < 0 ∧ 0 < S' ∧ 0 < Y) ∨ (S = 0 ∧ C < 0 ∧ S' < 0 ∧ Y < 0) ∨ (S = 0 ∧ 0 < C ∧ 0 < S' ∧ Y < 0) ∨ (S = 0 ∧ 0 < C ∧ S' < 0 ∧ 0 < Y) ∨ (S = 0 ∧ C = 0) := by
  obtain ⟨s1, s2, s3⟩ := sgn hA e
  by_cases z : S' = 0
  · rw [z, Int.zero_mul, Int.sub_zero] at s1 s2 s3
    rcases Int.lt_trichotomy S 0 with c | c | c
    · rcases Int.lt_trichotomy C' 0 with d | d | d
      · exact .inr (.inr (.inr (.inl ⟨z, c, d, s1 (nn c d)⟩)))
      · exact .inr (.inr (.inr (.inr (.inr (.inr (.inl ⟨z, d⟩))))))
      · exact .inr (.inr (.inr (.inr (.inl ⟨z, c, d, s2 (np c d)⟩))))
    · rw [c, Int.zero_mul] at s3
      exact .inr (.inr (.inr (.inr (.inr (.inl ⟨z, c, s3 rfl⟩)))))
    · rcases Int.lt_trichotomy C' 0 with d | d | d
      · exact .inr (.inr (.inl ⟨z, c, d, s2 (pn c d)⟩))
      · exact .inr (.inr (.inr (.inr (.inr (.inr (.inl ⟨z, d⟩))))))
      · exact .inr (.inl ⟨z, c, d, s1 (pp c d)⟩)
  · by_cases c : S = 0
    · rw [c, Int.zero_mul, Int.zero_sub] at s1 s2 s3
      rcases Int.lt_trichotomy C 0 with d | d | d
      · rcases Int.lt_trichotomy S' 0 with f | f | f
        · exact .inr (.inr (.inr (.inr (.inr (.inr (.inr (.inr (.inl ⟨c, d, f, s2 (Int.neg_neg_of_pos (nn f d))⟩))))))))
        · exact absurd f z
        · exact .inr (.inr (.inr (.inr (.inr (.inr (.inr (.inl ⟨c, d, f, s1 (Int.neg_pos_of_neg (pn f d))⟩)))))))
      · exact .inr (.inr (.inr (.inr (.inr (.inr (.inr (.inr (.inr (.inr (.inr (⟨c, d⟩)))))))))))
      · rcases Int.lt_trichotomy S' 0 with f | f | f
        · exact .inr (.inr (.inr (.inr (.inr (.inr (.inr (.inr (.inr (.inr (.inl ⟨c, d, f, s1 (Int.neg_pos_of_neg (np f d))⟩))))))))))
        · exact absurd f z
        · exact .inr (.inr (.inr (.inr (.inr (.inr (.inr (.inr (.inr (.inl ⟨c, d, f, s2 (Int.neg_neg_of_pos (pp f d))⟩)))))))))
    · exact .inl ⟨z, c⟩
/-- The sign of a product, where the other one is nothing. -/
theorem signs2 {A Z S C S' C' : Int} (hA : 0 < A) (e : A * Z = C * C' + S * S') :
    S ≠ 0 ∨ S' ≠ 0 ∨ C = 0 ∨ C' = 0 ∨ (C < 0 ∧ 0 < C' ∧ Z < 0) ∨ (C < 0 ∧ C' < 0 ∧ 0 < Z) ∨ (0 < C ∧ 0 < C' ∧ 0 < Z) ∨ (0 < C ∧ C' < 0 ∧ Z < 0) := by
  obtain ⟨s1, s2, s3⟩ := sgn hA e
  by_cases c : S = 0
  · rw [c, Int.zero_mul, Int.add_zero] at s1 s2 s3
    rcases Int.lt_trichotomy C 0 with d | d | d
    · rcases Int.lt_trichotomy C' 0 with f | f | f
      · exact .inr (.inr (.inr (.inr (.inr (.inl ⟨d, f, s1 (nn d f)⟩)))))
      · exact .inr (.inr (.inr (.inl f)))
      · exact .inr (.inr (.inr (.inr (.inl ⟨d, f, s2 (np d f)⟩))))
    · exact .inr (.inr (.inl d))
    · rcases Int.lt_trichotomy C' 0 with f | f | f
      · exact .inr (.inr (.inr (.inr (.inr (.inr (.inr (⟨d, f, s2 (pn d f)⟩)))))))
      · exact .inr (.inr (.inr (.inl f)))
      · exact .inr (.inr (.inr (.inr (.inr (.inr (.inl ⟨d, f, s1 (pp d f)⟩))))))
  · exact .inl c

theorem pas_iff (u v x y a b : Int) : pas u v x y a b = true ↔ (mts (cr u v x y) (inn u v x y) < mts (cr u v a b) (inn u v a b) ∨ mts (cr u v x y) (inn u v x y) = mts (cr u v a b) (inn u v a b) ∧ 0 ≤ cr x y a b) := by
  simp [pas]
theorem swp_iff (u v a b x y d : Int) : swp u v a b x y d = true ↔ (hlf (cr u v x y * d) (inn u v x y) < hlf (cr u v a b * d) (inn u v a b) ∨ hlf (cr u v x y * d) (inn u v x y) = hlf (cr u v a b * d) (inn u v a b) ∧ 0 ≤ cr x y a b * d) := by
  unfold swp
  split
  · rename_i h; simp [h]
  · rename_i h; simp [h]
/-- What is known of three directions: the two spokes (u, v), (a, b), which are not alike, and (x, y). -/
structure Tri (u v a b x y : Int) : Prop where
  a0 : 0 < u * u + v * v
  b0 : 0 < a * a + b * b
  p0 : 0 < x * x + y * y
  ab : ¬ (cr u v a b = 0 ∧ 0 < inn u v a b)
theorem pas_one {u v a b x y : Int} (h : Tri u v a b x y) : pas u v x y a b = swp u v a b x y 1 := by
  rw [Bool.eq_iff_iff, pas_iff, swp_iff]
  obtain ⟨a0, b0, p0, ab⟩ := h
  have k := signs a0 (third u v x y a b)
  have n1 := not_both a0 b0
  have n2 := not_both a0 p0
  have e1 := mts_spec (cr u v x y) (inn u v x y)
  have e2 := mts_spec (cr u v a b) (inn u v a b)
  have e3 := hlf_spec (cr u v x y * 1) (inn u v x y)
  have e4 := hlf_spec (cr u v a b * 1) (inn u v a b)
  rw [Int.mul_one] at e3 e4
  rw [Int.mul_one, Int.mul_one, Int.mul_one]
  generalize cr u v x y = S' at *
  generalize inn u v x y = C' at *
  generalize cr u v a b = S at *
  generalize inn u v a b = C at *
  generalize cr x y a b = Y at *
  generalize mts S' C' = m1 at *
  generalize mts S C = m2 at *
  generalize hlf S' C' = h1 at *
  generalize hlf S C = h2 at *
  clear a0 b0 p0
  rcases k with k | k | k | k | k | k | k | k | k | k | k | k <;> (rcases e1 with e1 | e1 | e1 <;> omega)
set_option maxHeartbeats 4000000 in
theorem pas_two {u v a b x y : Int} (h : Tri u v a b x y) : pas a b x y u v = swp u v a b x y (-1) := by
  rw [Bool.eq_iff_iff, pas_iff, swp_iff]
  obtain ⟨a0, b0, p0, ab⟩ := h
  have k := signs a0 (third u v x y a b)
  have g := signs b0 (third a b x y u v)
  have f := signs2 a0 (fourth u v x y a b)
  have n1 := not_both a0 b0
  have n2 := not_both a0 p0
  have n3 := not_both b0 p0
  have e1 := mts_spec (cr a b x y) (inn a b x y)
  have e2 := mts_spec (cr a b u v) (inn a b u v)
  have e3 := hlf_spec (cr u v x y * -1) (inn u v x y)
  have e4 := hlf_spec (cr u v a b * -1) (inn u v a b)
  simp only [cr_neg u v a b, inn_comm u v a b, cr_neg x y a b, cr_neg u v x y, Int.mul_neg, Int.mul_one, Int.neg_neg] at *
  generalize cr u v x y = S' at *
  generalize inn u v x y = C' at *
  generalize cr u v a b = S at *
  generalize inn u v a b = C at *
  generalize cr x y a b = Y at *
  generalize inn a b x y = Z at *
  generalize mts (-Y) Z = m1 at *
  generalize mts (-S) C = m2 at *
  generalize hlf (-S') C' = h1 at *
  generalize hlf (-S) C = h2 at *
  clear a0 b0 p0
  rcases k with k | k | k | k | k | k | k | k | k | k | k | k <;> (rcases e1 with e1 | e1 | e1 <;> (rcases e2 with e2 | e2 | e2 <;> omega))
set_option maxHeartbeats 4000000 in
/-- An arc and its opposite: together they pass all directions, and both only those of their ends. -/
theorem both {u v a b x y : Int} (h : Tri u v a b x y) : (pas u v x y a b = true ∨ pas a b x y u v = true) ∧
    ((pas u v x y a b = true ∧ pas a b x y u v = true) ↔ (cr u v x y = 0 ∧ 0 < inn u v x y ∨ cr a b x y = 0 ∧ 0 < inn a b x y)) := by
  rw [pas_iff, pas_iff]
  obtain ⟨a0, b0, p0, ab⟩ := h
  have k := signs a0 (third u v x y a b)
  have g := signs b0 (third a b x y u v)
  have f := signs2 a0 (fourth u v x y a b)
  have n1 := not_both a0 b0
  have n2 := not_both a0 p0
  have n3 := not_both b0 p0
  have e1 := mts_spec (cr a b x y) (inn a b x y)
  have e2 := mts_spec (cr a b u v) (inn a b u v)
  have e3 := mts_spec (cr u v x y) (inn u v x y)
  have e4 := mts_spec (cr u v a b) (inn u v a b)
  simp only [cr_neg u v a b, inn_comm u v a b, cr_neg x y a b, cr_neg u v x y, Int.mul_neg, Int.mul_one, Int.neg_neg] at *
  generalize cr u v x y = S' at *
  generalize inn u v x y = C' at *
  generalize cr u v a b = S at *
  generalize inn u v a b = C at *
  generalize cr x y a b = Y at *
  generalize inn a b x y = Z at *
  generalize mts (-Y) Z = m1 at *
  generalize mts (-S) C = m2 at *
  generalize mts S' C' = h1 at *
  generalize mts S C = h2 at *
  clear a0 b0 p0
  constructor <;> (rcases k with k | k | k | k | k | k | k | k | k | k | k | k <;> (rcases e1 with e1 | e1 | e1 <;> (rcases e3 with e3 | e3 | e3 <;> omega)))
/-- A turn meets its two ends. -/
theorem pas_ends {u v a b : Int} (a0 : 0 < u * u + v * v) (b0 : 0 < a * a + b * b) : pas u v u v a b = true ∧ pas u v a b a b = true := by
  rw [pas_iff, pas_iff]
  have z1 : cr u v u v = 0 := by unfold cr; rw [Int.mul_comm]; omega
  have z2 : cr a b a b = 0 := by unfold cr; rw [Int.mul_comm]; omega
  have e1 := mts_spec (cr u v u v) (inn u v u v)
  have e2 := mts_spec (cr u v a b) (inn u v a b)
  rw [z1] at e1
  rw [z1, z2]
  have p : 0 < inn u v u v := a0
  refine ⟨?_, .inr ⟨rfl, Int.le_refl 0⟩⟩
  generalize mts 0 (inn u v u v) = m at *
  generalize mts (cr u v a b) (inn u v a b) = n at *
  by_cases c : cr u v a b < 0 ∨ 0 < cr u v a b ∨ inn u v a b < 0
  · omega
  · refine .inr ⟨by omega, by omega⟩
end Go.Proofs.Ytihmifdadikhaaa.Ac

/- Items in memory: 22 cells as one array. -/
set_option linter.unusedVariables false
set_option linter.unusedSimpArgs false
namespace Go.Proofs.Ytihmifdadikhaaa
open Go.RowKit

theorem Qw.al {a w : World} (h : Qw a w) (o : Obj) : Qw a (w.alloc o) := Below.alloc h h.size o
theorem Qw.dr {a w : World} (h : Qw a w) : Qw a w.drew := Below.drew h
theorem Qw.dn {a w : World} (h : Qw a w) (n : Nat) : Qw a (w.drewN n) := Below.trans h ⟨rfl, rfl, rfl, Nat.le_refl _, fun _ _ => rfl⟩
theorem Qw.sc {a w : World} (h : Qw a w) {p : Addr} (hp : a.heap.size ≤ p.block) (u : Value) : Qw a (w.setCell p u) := Below.setCell h hp u
theorem Bx.sr' {w : World} {g b : Nat} {old cs : Array Value} {t : TypeId} (h : Bx w b old t) (hb : b ≠ g) : Bx (w.setRow g cs) b old t := (setRow_other w g b cs hb).trans h
theorem Bx.srS {w : World} {g : Nat} {old cs : Array Value} {t : TypeId} (h : Bx w g old t) : Bx (w.setRow g cs) g cs t := setRow_heap w g old cs t _ h
theorem Qw.sr' {a w : World} (h : Qw a w) {g : Nat} (hg : a.heap.size ≤ g) (cs : Array Value) : Qw a (w.setRow g cs) :=
  ⟨h.os, h.tape, h.output, by rw [setRow_size]; exact h.size, fun k hk => (setRow_other w g k cs (by omega)).trans (h.block k hk)⟩
theorem Bx.st3 {w : World} {N : Nat} {t : TypeId} {a b c : Value} (h : Bx w N #[a, b, c] t) (x y z : Value) : Bx (((w.setCell ⟨N, 0, none⟩ x).setCell ⟨N, 1, none⟩ y).setCell ⟨N, 2, none⟩ z) N #[x, y, z] t := ((h.set 0 x).set 1 y).set 2 z
theorem Bx.st2 {w : World} {N : Nat} {t : TypeId} {a b : Value} (h : Bx w N #[a, b] t) (x y : Value) : Bx ((w.setCell ⟨N, 0, none⟩ x).setCell ⟨N, 1, none⟩ y) N #[x, y] t := (h.set 0 x).set 1 y

namespace Ac
/-- An item: Kind, Block, From, To, Plane, Center, Dir, Full, Feed, PerRev, Side, Radius, Blend, N, Speed, On. -/
structure I where
  k : Int
  b : Int
  fx : Int
  fy : Int
  fz : Int
  tx : Int
  ty : Int
  tz : Int
  p : Int
  cx : Int
  cy : Int
  cz : Int
  d : Int
  u : Bool
  e : Int
  r : Bool
  s : Int
  g : Int
  l : Int
  n : Int
  v : Int
  o : Bool
def I.zero : I := ⟨0, 0, 0, 0, 0, 0, 0, 0, 0, 0, 0, 0, 0, false, 0, false, 0, 0, 0, 0, 0, false⟩
/-- A number of 64 bits. -/
def w64 (n : Int) : Prop := -9223372036854775808 ≤ n ∧ n ≤ 9223372036854775807
structure Wf (i : I) : Prop where
  k : w64 i.k
  fx : w64 i.fx
  fy : w64 i.fy
  fz : w64 i.fz
  tx : w64 i.tx
  ty : w64 i.ty
  tz : w64 i.tz
  p : w64 i.p
  cx : w64 i.cx
  cy : w64 i.cy
  cz : w64 i.cz
  d : w64 i.d
end Ac
/-- The cells of an item. -/
def itc (i : Ac.I) : Array Value := #[.int .i64 i.k, .int .i64 i.b, .int .i64 i.fx, .int .i64 i.fy, .int .i64 i.fz, .int .i64 i.tx, .int .i64 i.ty, .int .i64 i.tz, .int .i64 i.p, .int .i64 i.cx, .int .i64 i.cy, .int .i64 i.cz, .int .i64 i.d, .bool i.u, .int .i64 i.e, .bool i.r, .int .i64 i.s, .int .i64 i.g, .int .i64 i.l, .int .i64 i.n, .int .i64 i.v, .bool i.o]
theorem itc_size (i : Ac.I) : (itc i).size = 22 := rfl
theorem itc_one (i : Ac.I) : (itc i).all (·.oneCell') = true := by simp [itc, Value.oneCell']
theorem itc_cells (i : Ac.I) : (Value.agg (itc i)).cells = itc i := by simp [Value.cells, itc]
abbrev IT : TypeId := 39
theorem info_it : (Try.prog.info? 39).map (·.size) = some 22 := by kernel_rfl
theorem zero_it (w : World) : (zeroValue 39).run Try.prog w = .ok (.agg (itc Ac.I.zero)) w := by kernel_rfl
theorem run_alloc_it (w : World) : (Instr.alloc 39 true (.tuple #[])).run Try.prog w = .ok (.pointer (some ⟨w.heap.size, 0, none⟩)) (w.alloc (.cells (itc Ac.I.zero) 39)) := by
  simp only [Instr.alloc, Sem.run_bind, zero_it, Result.andThen_ok]
  simp only [newVar, newRow, Sem.run_bind, run_newObj_alloc, Sem.run_pure, Result.andThen_ok, itc_cells]
theorem run_load_it (w : World) (P : Nat) (i : Ac.I) (X : Bx w P (itc i) IT) : (Instr.loadAt IT (.pointer (some ⟨P, 0, none⟩))).run Try.prog w = .ok (.agg (itc i)) w := by
  simp only [Instr.loadAt, Instr.sureAddr, Sem.run_bind, Sem.run_pure, Result.andThen_ok, run_loadVar_row w P 39 39 (itc i) (0, 0) _ X Try.underlying39 rfl (by rw [itc_size]; exact info_it)]
section
variable {ops : Array Oper} {rest : List Oper} {dst : Option Tmp} {ty : TypeId} {pos : String} {after : Array Edge} {a : Act} {w w0 : World} {Q : Exit → Act → World → Prop} {P R : Nat} {f g : Ac.I}
set_option maxRecDepth 100000 in
theorem box_it (x : Tmp) (hx : a.eval (.tmp x) = .agg (itc f))
    (h : ∀ w' P, w.heap.size ≤ P → Bx w' P (itc f) IT → Qw w w' → wpList Try.prog ops Q rest (a.put dst (.pointer (some ⟨P, 0, none⟩))) w') :
    wpList Try.prog ops Q (⟨dst, .box IT (.tmp x), ty, pos, after, none⟩ :: rest) a w :=
  Go.Great.wpList_boxTo rfl IT (.tmp x) rfl dst rfl w.heap.size rfl (itc f) (by rw [hx]; exact itc_cells f) (h _ _ (Nat.le_refl _) (Bx.new w _ _) (Qw.al (Qw.refl w) _))
set_option maxRecDepth 100000 in
theorem al_it (h : ∀ w' P, w.heap.size ≤ P → Bx w' P (itc Ac.I.zero) IT → Qw w w' → wpList Try.prog ops Q rest (a.put dst (.pointer (some ⟨P, 0, none⟩))) w') :
    wpList Try.prog ops Q (⟨dst, .alloc IT, ty, pos, after, none⟩ :: rest) a w := by
  refine wpList_plain rfl fun K hK => ?_
  unfold Oper.wp execOp
  simp only [run_alloc_it w]
  exact hK _ _ (h _ _ (Nat.le_refl _) (Bx.new w _ _) (Qw.al (Qw.refl w) _))
theorem ld_it (x : Tmp) {P : Nat} (hx : a.eval (.tmp x) = .pointer (some ⟨P, 0, none⟩)) (X : Bx w P (itc f) IT) (h : wpList Try.prog ops Q rest (a.put dst (.agg (itc f))) w) :
    wpList Try.prog ops Q (⟨dst, .load IT (.tmp x), ty, pos, after, none⟩ :: rest) a w :=
  wpList_load_row rfl IT (.tmp x) rfl P hx IT (itc f) (0, 0) _ X Try.underlying39 rfl (by rw [itc_size]; exact info_it) h
theorem st_it (x y : Tmp) (hx : a.eval (.tmp x) = .pointer (some ⟨P, 0, none⟩)) (hy : a.eval (.tmp y) = .agg (itc g)) (X : Bx w P (itc f) IT)
    (h : ∀ w', Bx w' P (itc g) IT → (∀ w0, Qw w0 w → w0.heap.size ≤ P → Qw w0 w') → wpList Try.prog ops Q rest (a.put dst undef) w') : wpList Try.prog ops Q (⟨dst, .store IT (.tmp x) (.tmp y), ty, pos, after, none⟩ :: rest) a w :=
  wpList_store_row rfl IT (.tmp x) (.tmp y) rfl P (itc g) hx hy IT (itc f) X (by rw [itc_size]; exact info_it) (by rw [itc_size, itc_size]) (itc_one g) (h _ X.srS (fun w0 q hp => q.sr' hp _))
/-- The same, where the world behind it stays in sight. -/
theorem st_it2 (x y : Tmp) (hx : a.eval (.tmp x) = .pointer (some ⟨P, 0, none⟩)) (hy : a.eval (.tmp y) = .agg (itc g)) (X : Bx w P (itc f) IT)
    (h : wpList Try.prog ops Q rest (a.put dst undef) (w.setRow P (itc g))) : wpList Try.prog ops Q (⟨dst, .store IT (.tmp x) (.tmp y), ty, pos, after, none⟩ :: rest) a w :=
  wpList_store_row rfl IT (.tmp x) (.tmp y) rfl P (itc g) hx hy IT (itc f) X (by rw [itc_size]; exact info_it) (by rw [itc_size, itc_size]) (itc_one g) h
/-- A load of an item, first. -/
theorem ry_it {S : World → Prop} {o : Oper} (x : Tmp) (ho : o.op = .load IT (.tmp x)) (hg : o.guard = none) (hx : a.eval (.tmp x) = .pointer (some ⟨P, 0, none⟩)) (hS : ∀ w, S w → Bx w P (itc f) IT) :
    YieldsIf Try.prog ops S o (.agg (itc f)) a := by
  refine .inl ⟨by simp [Region.wanted, hg], fun w hw => ?_⟩
  unfold execOp
  simp only [ho, hx, Sem.run_bind, run_load_it w P f (hS w hw), Result.andThen_ok, Sem.run_pure]
end
theorem ret_it {fn : Func} {a : Act} {w : World} {R : Nat} {i : Ac.I} (p : Tmp) (hr : fn.results = #[.cell p IT]) (h2 : a.tmps.getD p undef = .pointer (some ⟨R, 0, none⟩)) (X : Bx w R (itc i) IT) : (results fn a.tmps).run Try.prog w = .ok (.agg (itc i)) w :=
  results_cell_row hr a.tmps w R IT (itc i) (0, 0) _ h2 X Try.underlying39 rfl (by rw [itc_size]; exact info_it)
end Go.Proofs.Ytihmifdadikhaaa

/- Plain words of layer 13: spokes, which arcs are right, centers, sweeps, tangents. -/
set_option linter.unusedVariables false
set_option linter.unusedSimpArgs false
namespace Go.Proofs.Ytihmifdadikhaaa
open Go.RowKit

namespace Ac
/-- The spokes. -/
def au (i : I) : Int := fu i.p i.fx i.fy i.fz - fu i.p i.cx i.cy i.cz
def aw (i : I) : Int := fw i.p i.fx i.fy i.fz - fw i.p i.cx i.cy i.cz
def bu (i : I) : Int := fu i.p i.tx i.ty i.tz - fu i.p i.cx i.cy i.cz
def bw (i : I) : Int := fw i.p i.tx i.ty i.tz - fw i.p i.cx i.cy i.cz
def lo2 (a b : Int) : Int := if b < a then b else a
def hi2 (a b : Int) : Int := if a < b then b else a
/-- Two squares of lengths that fit. -/
def fit (n m : Int) : Bool := decide (64 ≤ lo2 n m) && (decide (hi2 n m - lo2 n m - 16 ≤ 0) || decide (cmpI ((hi2 n m - lo2 n m - 16) * (hi2 n m - lo2 n m - 16)) (64 * lo2 n m) ≤ 0))
/-- Two spokes that agree. -/
def agr (u : Bool) (a b c d : Int) : Bool := if u = true then (decide (a = c) && decide (b = d)) else !(decide (cr a b c d = 0) && decide (0 < inn a b c d))
def argB (i : I) : Bool := decide (i.k = 3) && (pin i.p && ((decide (i.d = 1) || decide (i.d = -1)) && (wth i.fx i.fy i.fz && (wth i.tx i.ty i.tz && (wth i.cx i.cy i.cz && decide (fh i.p i.cx i.cy i.cz = fh i.p i.fx i.fy i.fz))))))
/-- What Check returns. -/
def chk (i : I) : Int := if argB i = true then (if (fit (inn (au i) (aw i) (au i) (aw i)) (inn (bu i) (bw i) (bu i) (bw i)) && agr i.u (au i) (aw i) (bu i) (bw i)) = true then 0 else 12) else 1
/-- The sweep. -/
def ins (i : I) (x y : Int) : Bool := if i.u = true then true else swp (au i) (aw i) (bu i) (bw i) x y i.d
/-- The coordinates of a vector in a plane are those of the vector. -/
theorem flat_le {p x y z L : Int} (h0 : 0 ≤ L) (hx : -L ≤ x ∧ x ≤ L) (hy : -L ≤ y ∧ y ≤ L) (hz : -L ≤ z ∧ z ≤ L) : (-L ≤ fu p x y z ∧ fu p x y z ≤ L) ∧ (-L ≤ fw p x y z ∧ fw p x y z ≤ L) ∧ (-L ≤ fh p x y z ∧ fh p x y z ≤ L) := by
  unfold fu fw fh
  by_cases h1 : p = 17
  · simp only [h1, if_true]; exact ⟨hx, hy, hz⟩
  · by_cases h2 : p = 18
    · simp only [h2, if_true, if_false]; exact ⟨hz, hx, hy⟩
    · by_cases h3 : p = 19
      · simp only [h3, if_true, if_false]; exact ⟨hy, hz, hx⟩
      · simp only [h1, h2, h3, if_false]; omega
theorem crd_iff (n : Int) : crd n = true ↔ -1048576 ≤ n ∧ n ≤ 1048576 := by simp [crd]
theorem wth_iff (x y z : Int) : wth x y z = true ↔ (-1048576 ≤ x ∧ x ≤ 1048576) ∧ (-1048576 ≤ y ∧ y ≤ 1048576) ∧ (-1048576 ≤ z ∧ z ≤ 1048576) := by simp [wth, crd_iff]
theorem fit_comm (n m : Int) : fit n m = fit m n := by
  unfold fit
  rw [show lo2 n m = lo2 m n by unfold lo2; split <;> split <;> omega, show hi2 n m = hi2 m n by unfold hi2; split <;> split <;> omega]
/-- An arc that is right, with coordinates that are not great. -/
structure Gd (i : I) : Prop where
  k : i.k = 3
  p1 : 17 ≤ i.p
  p2 : i.p ≤ 19
  d : i.d = 1 ∨ i.d = -1
  fx : -200000 ≤ i.fx ∧ i.fx ≤ 200000
  fy : -200000 ≤ i.fy ∧ i.fy ≤ 200000
  fz : -200000 ≤ i.fz ∧ i.fz ≤ 200000
  tx : -200000 ≤ i.tx ∧ i.tx ≤ 200000
  ty : -200000 ≤ i.ty ∧ i.ty ≤ 200000
  tz : -200000 ≤ i.tz ∧ i.tz ≤ 200000
  cx : -200000 ≤ i.cx ∧ i.cx ≤ 200000
  cy : -200000 ≤ i.cy ∧ i.cy ≤ 200000
  cz : -200000 ≤ i.cz ∧ i.cz ≤ 200000
  h : fh i.p i.cx i.cy i.cz = fh i.p i.fx i.fy i.fz
  ft : fit (inn (au i) (aw i) (au i) (aw i)) (inn (bu i) (bw i) (bu i) (bw i)) = true
  ag : agr i.u (au i) (aw i) (bu i) (bw i) = true
theorem pin_of {p : Int} (h1 : 17 ≤ p) (h2 : p ≤ 19) : pin p = true := by
  have h : p = 17 ∨ p = 18 ∨ p = 19 := by omega
  rcases h with rfl | rfl | rfl <;> rfl
theorem Gd.chk {i : I} (h : Gd i) : chk i = 0 := by
  have a : argB i = true := by
    unfold argB
    rw [pin_of h.p1 h.p2, (wth_iff _ _ _).2 ⟨by have := h.fx; omega, by have := h.fy; omega, by have := h.fz; omega⟩, (wth_iff _ _ _).2 ⟨by have := h.tx; omega, by have := h.ty; omega, by have := h.tz; omega⟩, (wth_iff _ _ _).2 ⟨by have := h.cx; omega, by have := h.cy; omega, by have := h.cz; omega⟩]
    rcases h.d with k | k <;> simp [h.k, k, h.h]
  unfold Ac.chk
  rw [if_pos a, h.ft, h.ag]
  rfl
theorem fit_pos {n m : Int} (h : fit n m = true) : 64 ≤ n ∧ 64 ≤ m := by
  unfold fit at h
  rw [Bool.and_eq_true] at h
  have h1 := of_decide_eq_true h.1
  unfold lo2 at h1
  by_cases c : m < n
  · rw [if_pos c] at h1; omega
  · rw [if_neg c] at h1; omega
theorem Gd.bd {i : I} (h : Gd i) : (-400000 ≤ au i ∧ au i ≤ 400000) ∧ (-400000 ≤ aw i ∧ aw i ≤ 400000) ∧ (-400000 ≤ bu i ∧ bu i ≤ 400000) ∧ (-400000 ≤ bw i ∧ bw i ≤ 400000) := by
  have a := flat_le (p := i.p) (L := 200000) (by decide) h.fx h.fy h.fz
  have b := flat_le (p := i.p) (L := 200000) (by decide) h.tx h.ty h.tz
  have c := flat_le (p := i.p) (L := 200000) (by decide) h.cx h.cy h.cz
  unfold au aw bu bw
  omega
theorem Gd.tri {i : I} (h : Gd i) (hu : i.u = false) {x y : Int} (hp : ¬ (x = 0 ∧ y = 0)) : Tri (au i) (aw i) (bu i) (bw i) x y := by
  have f := fit_pos h.ft
  have g := h.ag
  have e1 : inn (au i) (aw i) (au i) (aw i) = au i * au i + aw i * aw i := rfl
  have e2 : inn (bu i) (bw i) (bu i) (bw i) = bu i * bu i + bw i * bw i := rfl
  refine ⟨by omega, by omega, len_pos hp, ?_⟩
  simp only [agr, hu, Bool.false_eq_true, if_false, Bool.not_eq_true', Bool.and_eq_false_iff, decide_eq_false_iff_not] at g
  omega
/-- The sweep as the program reckons it. -/
theorem Gd.ins {i : I} (h : Gd i) {x y : Int} (hp : ¬ (x = 0 ∧ y = 0)) : ins i x y = (if i.u = true then true else if i.d < 0 then pas (bu i) (bw i) x y (au i) (aw i) else pas (au i) (aw i) x y (bu i) (bw i)) := by
  unfold Ac.ins
  cases hu : i.u
  · have t := h.tri hu hp
    simp only [Bool.false_eq_true, if_false]
    rcases h.d with k | k
    · rw [k, if_neg (by decide), pas_one t]
    · rw [k, if_pos (by decide), pas_two t]
  · rfl
/-- Which spokes agree, as the program reckons it. -/
theorem agr_mts {a b c d : Int} (h1 : 0 < a * a + b * b) (h2 : 0 < c * c + d * d) : agr false a b c d = !decide (mts (cr a b c d) (inn a b c d) = 0) := by
  have n := not_both h1 h2
  have m := mts_spec (cr a b c d) (inn a b c d)
  unfold agr
  simp only [Bool.false_eq_true, if_false]
  congr 1
  rw [Bool.eq_iff_iff]
  simp only [Bool.and_eq_true, decide_eq_true_eq]
  omega
end Ac
end Go.Proofs.Ytihmifdadikhaaa

/- Vectors, points and directions in memory, one operation at a time. -/
set_option linter.unusedVariables false
set_option linter.unusedSimpArgs false
namespace Go.Proofs.Ytihmifdadikhaaa
open Go.RowKit
/-- Behind a store into block P the other blocks are as they were. -/
def Oth (w w' : World) (P : Nat) : Prop := ∀ b cs t, b ≠ P → Bx w b cs t → Bx w' b cs t
theorem Oth.sr (w : World) (P : Nat) (cs : Array Value) : Oth w (w.setRow P cs) P := fun b _ _ hb h => h.sr' hb
/-- A call that changes nothing. -/
theorem sameQ {P : Program} {f : FuncId} {args : Array Value} {w : World} {v : Value} (h : Calls P f args w fun e w' => e = .returned v ∧ w = w') : Calls P f args w fun e w' => e = .returned v ∧ Qw w w' :=
  h.mono fun _ _ ⟨he, hw⟩ => ⟨he, hw ▸ Qw.refl _⟩
theorem Bx.p0 {w : World} {b : Nat} {x y : Value} {t : TypeId} (h : Bx w b #[x, y] t) : w.cell? ⟨b, 0, none⟩ = some x := h.cell' 0 x rfl
theorem Bx.p1 {w : World} {b : Nat} {x y : Value} {t : TypeId} (h : Bx w b #[x, y] t) : w.cell? ⟨b, 1, none⟩ = some y := h.cell' 1 y rfl
theorem Bx.v0 {w : World} {b : Nat} {x y z : Value} {t : TypeId} (h : Bx w b #[x, y, z] t) : w.cell? ⟨b, 0, none⟩ = some x := h.cell' 0 x rfl
theorem Bx.v1 {w : World} {b : Nat} {x y z : Value} {t : TypeId} (h : Bx w b #[x, y, z] t) : w.cell? ⟨b, 1, none⟩ = some y := h.cell' 1 y rfl
theorem Bx.v2 {w : World} {b : Nat} {x y z : Value} {t : TypeId} (h : Bx w b #[x, y, z] t) : w.cell? ⟨b, 2, none⟩ = some z := h.cell' 2 z rfl
theorem Bx.kp0 {w : World} {b : Nat} {x y : Value} {t : TypeId} (h : Bx w b #[x, y] t) : ∀ p : Kept w, p.v.cell? ⟨b, 0, none⟩ = some x := h.kcell 0 x rfl
theorem Bx.kp1 {w : World} {b : Nat} {x y : Value} {t : TypeId} (h : Bx w b #[x, y] t) : ∀ p : Kept w, p.v.cell? ⟨b, 1, none⟩ = some y := h.kcell 1 y rfl
theorem Bx.kv0 {w : World} {b : Nat} {x y z : Value} {t : TypeId} (h : Bx w b #[x, y, z] t) : ∀ p : Kept w, p.v.cell? ⟨b, 0, none⟩ = some x := h.kcell 0 x rfl
theorem Bx.kv1 {w : World} {b : Nat} {x y z : Value} {t : TypeId} (h : Bx w b #[x, y, z] t) : ∀ p : Kept w, p.v.cell? ⟨b, 1, none⟩ = some y := h.kcell 1 y rfl
theorem Bx.kv2 {w : World} {b : Nat} {x y z : Value} {t : TypeId} (h : Bx w b #[x, y, z] t) : ∀ p : Kept w, p.v.cell? ⟨b, 2, none⟩ = some z := h.kcell 2 z rfl

theorem Bx.i0 {w : World} {b : Nat} {i : Ac.I} {t : TypeId} (h : Bx w b (itc i) t) : w.cell? ⟨b, 0, none⟩ = some (.int .i64 i.k) := h.cell' 0 _ rfl
theorem Bx.ki0 {w : World} {b : Nat} {i : Ac.I} {t : TypeId} (h : Bx w b (itc i) t) : ∀ p : Kept w, p.v.cell? ⟨b, 0, none⟩ = some (.int .i64 i.k) := h.kcell 0 _ rfl
theorem Bx.i1 {w : World} {b : Nat} {i : Ac.I} {t : TypeId} (h : Bx w b (itc i) t) : w.cell? ⟨b, 1, none⟩ = some (.int .i64 i.b) := h.cell' 1 _ rfl
theorem Bx.ki1 {w : World} {b : Nat} {i : Ac.I} {t : TypeId} (h : Bx w b (itc i) t) : ∀ p : Kept w, p.v.cell? ⟨b, 1, none⟩ = some (.int .i64 i.b) := h.kcell 1 _ rfl
theorem Bx.i2 {w : World} {b : Nat} {i : Ac.I} {t : TypeId} (h : Bx w b (itc i) t) : w.cell? ⟨b, 2, none⟩ = some (.int .i64 i.fx) := h.cell' 2 _ rfl
theorem Bx.ki2 {w : World} {b : Nat} {i : Ac.I} {t : TypeId} (h : Bx w b (itc i) t) : ∀ p : Kept w, p.v.cell? ⟨b, 2, none⟩ = some (.int .i64 i.fx) := h.kcell 2 _ rfl
theorem Bx.i3 {w : World} {b : Nat} {i : Ac.I} {t : TypeId} (h : Bx w b (itc i) t) : w.cell? ⟨b, 3, none⟩ = some (.int .i64 i.fy) := h.cell' 3 _ rfl
theorem Bx.ki3 {w : World} {b : Nat} {i : Ac.I} {t : TypeId} (h : Bx w b (itc i) t) : ∀ p : Kept w, p.v.cell? ⟨b, 3, none⟩ = some (.int .i64 i.fy) := h.kcell 3 _ rfl
theorem Bx.i4 {w : World} {b : Nat} {i : Ac.I} {t : TypeId} (h : Bx w b (itc i) t) : w.cell? ⟨b, 4, none⟩ = some (.int .i64 i.fz) := h.cell' 4 _ rfl
theorem Bx.ki4 {w : World} {b : Nat} {i : Ac.I} {t : TypeId} (h : Bx w b (itc i) t) : ∀ p : Kept w, p.v.cell? ⟨b, 4, none⟩ = some (.int .i64 i.fz) := h.kcell 4 _ rfl
theorem Bx.i5 {w : World} {b : Nat} {i : Ac.I} {t : TypeId} (h : Bx w b (itc i) t) : w.cell? ⟨b, 5, none⟩ = some (.int .i64 i.tx) := h.cell' 5 _ rfl
theorem Bx.ki5 {w : World} {b : Nat} {i : Ac.I} {t : TypeId} (h : Bx w b (itc i) t) : ∀ p : Kept w, p.v.cell? ⟨b, 5, none⟩ = some (.int .i64 i.tx) := h.kcell 5 _ rfl
theorem Bx.i6 {w : World} {b : Nat} {i : Ac.I} {t : TypeId} (h : Bx w b (itc i) t) : w.cell? ⟨b, 6, none⟩ = some (.int .i64 i.ty) := h.cell' 6 _ rfl
theorem Bx.ki6 {w : World} {b : Nat} {i : Ac.I} {t : TypeId} (h : Bx w b (itc i) t) : ∀ p : Kept w, p.v.cell? ⟨b, 6, none⟩ = some (.int .i64 i.ty) := h.kcell 6 _ rfl
theorem Bx.i7 {w : World} {b : Nat} {i : Ac.I} {t : TypeId} (h : Bx w b (itc i) t) : w.cell? ⟨b, 7, none⟩ = some (.int .i64 i.tz) := h.cell' 7 _ rfl
theorem Bx.ki7 {w : World} {b : Nat} {i : Ac.I} {t : TypeId} (h : Bx w b (itc i) t) : ∀ p : Kept w, p.v.cell? ⟨b, 7, none⟩ = some (.int .i64 i.tz) := h.kcell 7 _ rfl
theorem Bx.i8 {w : World} {b : Nat} {i : Ac.I} {t : TypeId} (h : Bx w b (itc i) t) : w.cell? ⟨b, 8, none⟩ = some (.int .i64 i.p) := h.cell' 8 _ rfl
theorem Bx.ki8 {w : World} {b : Nat} {i : Ac.I} {t : TypeId} (h : Bx w b (itc i) t) : ∀ p : Kept w, p.v.cell? ⟨b, 8, none⟩ = some (.int .i64 i.p) := h.kcell 8 _ rfl
theorem Bx.i9 {w : World} {b : Nat} {i : Ac.I} {t : TypeId} (h : Bx w b (itc i) t) : w.cell? ⟨b, 9, none⟩ = some (.int .i64 i.cx) := h.cell' 9 _ rfl
theorem Bx.ki9 {w : World} {b : Nat} {i : Ac.I} {t : TypeId} (h : Bx w b (itc i) t) : ∀ p : Kept w, p.v.cell? ⟨b, 9, none⟩ = some (.int .i64 i.cx) := h.kcell 9 _ rfl
theorem Bx.i10 {w : World} {b : Nat} {i : Ac.I} {t : TypeId} (h : Bx w b (itc i) t) : w.cell? ⟨b, 10, none⟩ = some (.int .i64 i.cy) := h.cell' 10 _ rfl
theorem Bx.ki10 {w : World} {b : Nat} {i : Ac.I} {t : TypeId} (h : Bx w b (itc i) t) : ∀ p : Kept w, p.v.cell? ⟨b, 10, none⟩ = some (.int .i64 i.cy) := h.kcell 10 _ rfl
theorem Bx.i11 {w : World} {b : Nat} {i : Ac.I} {t : TypeId} (h : Bx w b (itc i) t) : w.cell? ⟨b, 11, none⟩ = some (.int .i64 i.cz) := h.cell' 11 _ rfl
theorem Bx.ki11 {w : World} {b : Nat} {i : Ac.I} {t : TypeId} (h : Bx w b (itc i) t) : ∀ p : Kept w, p.v.cell? ⟨b, 11, none⟩ = some (.int .i64 i.cz) := h.kcell 11 _ rfl
theorem Bx.i12 {w : World} {b : Nat} {i : Ac.I} {t : TypeId} (h : Bx w b (itc i) t) : w.cell? ⟨b, 12, none⟩ = some (.int .i64 i.d) := h.cell' 12 _ rfl
theorem Bx.ki12 {w : World} {b : Nat} {i : Ac.I} {t : TypeId} (h : Bx w b (itc i) t) : ∀ p : Kept w, p.v.cell? ⟨b, 12, none⟩ = some (.int .i64 i.d) := h.kcell 12 _ rfl
theorem Bx.i13 {w : World} {b : Nat} {i : Ac.I} {t : TypeId} (h : Bx w b (itc i) t) : w.cell? ⟨b, 13, none⟩ = some (.bool i.u) := h.cell' 13 _ rfl
theorem Bx.ki13 {w : World} {b : Nat} {i : Ac.I} {t : TypeId} (h : Bx w b (itc i) t) : ∀ p : Kept w, p.v.cell? ⟨b, 13, none⟩ = some (.bool i.u) := h.kcell 13 _ rfl
section
variable {ops : Array Oper} {rest : List Oper} {dst : Option Tmp} {ty : TypeId} {pos : String} {after : Array Edge} {a : Act} {w w0 : World} {Q : Exit → Act → World → Prop} {P R : Nat}
theorem info_vec : (Try.prog.info? 23).map (·.size) = some 3 := by kernel_rfl
theorem zero_vec (w : World) : (zeroValue 23).run Try.prog w = .ok (.agg #[.int .i64 0, .int .i64 0, .int .i64 0]) w := by kernel_rfl
theorem run_alloc_vec (w : World) : (Instr.alloc 23 true (.tuple #[])).run Try.prog w = .ok (.pointer (some ⟨w.heap.size, 0, none⟩)) (w.alloc (.cells #[.int .i64 0, .int .i64 0, .int .i64 0] 23)) := by
  simp only [Instr.alloc, Sem.run_bind, zero_vec, Result.andThen_ok]
  simp only [newVar, newRow, Sem.run_bind, run_newObj_alloc, Sem.run_pure, Result.andThen_ok]
  rfl
set_option maxRecDepth 100000 in
theorem box_vec {x y z : Int} (t : Tmp) (hx : a.eval (.tmp t) = .agg #[.int .i64 x, .int .i64 y, .int .i64 z])
    (h : ∀ w' P, w.heap.size ≤ P → Bx w' P #[.int .i64 x, .int .i64 y, .int .i64 z] 23 → Qw w w' → wpList Try.prog ops Q rest (a.put dst (.pointer (some ⟨P, 0, none⟩))) w') :
    wpList Try.prog ops Q (⟨dst, .box 23 (.tmp t), ty, pos, after, none⟩ :: rest) a w :=
  Go.Great.wpList_boxTo rfl 23 (.tmp t) rfl dst rfl w.heap.size rfl #[.int .i64 x, .int .i64 y, .int .i64 z] (by rw [hx]; rfl) (h _ _ (Nat.le_refl _) (Bx.new w _ _) (Qw.al (Qw.refl w) _))
set_option maxRecDepth 100000 in
theorem al_vec (h : ∀ w' P, w.heap.size ≤ P → Bx w' P #[.int .i64 0, .int .i64 0, .int .i64 0] 23 → Qw w w' → wpList Try.prog ops Q rest (a.put dst (.pointer (some ⟨P, 0, none⟩))) w') :
    wpList Try.prog ops Q (⟨dst, .alloc 23, ty, pos, after, none⟩ :: rest) a w := by
  refine wpList_plain rfl fun K hK => ?_
  unfold Oper.wp execOp
  simp only [run_alloc_vec w]
  exact hK _ _ (h _ _ (Nat.le_refl _) (Bx.new w _ _) (Qw.al (Qw.refl w) _))
theorem ld_vec {x y z : Value} (t : Tmp) (hx : a.eval (.tmp t) = .pointer (some ⟨P, 0, none⟩)) (X : Bx w P #[x, y, z] 23) (h : wpList Try.prog ops Q rest (a.put dst (.agg #[x, y, z])) w) :
    wpList Try.prog ops Q (⟨dst, .load 23 (.tmp t), ty, pos, after, none⟩ :: rest) a w :=
  wpList_load_row rfl 23 (.tmp t) rfl P hx 23 #[x, y, z] (0, 0) _ X Try.underlying23 rfl info_vec h
theorem st_vec {x y z : Int} {o0 o1 o2 : Value} (t u : Tmp) (hx : a.eval (.tmp t) = .pointer (some ⟨P, 0, none⟩)) (hy : a.eval (.tmp u) = .agg #[.int .i64 x, .int .i64 y, .int .i64 z]) (X : Bx w P #[o0, o1, o2] 23)
    (h : ∀ w', Bx w' P #[.int .i64 x, .int .i64 y, .int .i64 z] 23 → (∀ w0, Qw w0 w → w0.heap.size ≤ P → Qw w0 w') → Oth w w' P → wpList Try.prog ops Q rest (a.put dst undef) w') :
    wpList Try.prog ops Q (⟨dst, .store 23 (.tmp t) (.tmp u), ty, pos, after, none⟩ :: rest) a w :=
  wpList_store_row rfl 23 (.tmp t) (.tmp u) rfl P #[.int .i64 x, .int .i64 y, .int .i64 z] hx hy 23 #[o0, o1, o2] X info_vec rfl (by simp [Value.oneCell']) (h _ X.srS (fun w0 q hp => q.sr' hp _) (Oth.sr w P _))
theorem info_pt : (Try.prog.info? 32).map (·.size) = some 2 := by kernel_rfl
theorem zero_pt (w : World) : (zeroValue 32).run Try.prog w = .ok (.agg #[.int .i64 0, .int .i64 0]) w := by kernel_rfl
theorem run_alloc_pt (w : World) : (Instr.alloc 32 true (.tuple #[])).run Try.prog w = .ok (.pointer (some ⟨w.heap.size, 0, none⟩)) (w.alloc (.cells #[.int .i64 0, .int .i64 0] 32)) := by
  simp only [Instr.alloc, Sem.run_bind, zero_pt, Result.andThen_ok]
  simp only [newVar, newRow, Sem.run_bind, run_newObj_alloc, Sem.run_pure, Result.andThen_ok]
  rfl
set_option maxRecDepth 100000 in
theorem box_pt {x y : Int} (t : Tmp) (hx : a.eval (.tmp t) = .agg #[.int .i64 x, .int .i64 y])
    (h : ∀ w' P, w.heap.size ≤ P → Bx w' P #[.int .i64 x, .int .i64 y] 32 → Qw w w' → wpList Try.prog ops Q rest (a.put dst (.pointer (some ⟨P, 0, none⟩))) w') :
    wpList Try.prog ops Q (⟨dst, .box 32 (.tmp t), ty, pos, after, none⟩ :: rest) a w :=
  Go.Great.wpList_boxTo rfl 32 (.tmp t) rfl dst rfl w.heap.size rfl #[.int .i64 x, .int .i64 y] (by rw [hx]; rfl) (h _ _ (Nat.le_refl _) (Bx.new w _ _) (Qw.al (Qw.refl w) _))
set_option maxRecDepth 100000 in
theorem al_pt (h : ∀ w' P, w.heap.size ≤ P → Bx w' P #[.int .i64 0, .int .i64 0] 32 → Qw w w' → wpList Try.prog ops Q rest (a.put dst (.pointer (some ⟨P, 0, none⟩))) w') :
    wpList Try.prog ops Q (⟨dst, .alloc 32, ty, pos, after, none⟩ :: rest) a w := by
  refine wpList_plain rfl fun K hK => ?_
  unfold Oper.wp execOp
  simp only [run_alloc_pt w]
  exact hK _ _ (h _ _ (Nat.le_refl _) (Bx.new w _ _) (Qw.al (Qw.refl w) _))
theorem ld_pt {x y : Value} (t : Tmp) (hx : a.eval (.tmp t) = .pointer (some ⟨P, 0, none⟩)) (X : Bx w P #[x, y] 32) (h : wpList Try.prog ops Q rest (a.put dst (.agg #[x, y])) w) :
    wpList Try.prog ops Q (⟨dst, .load 32 (.tmp t), ty, pos, after, none⟩ :: rest) a w :=
  wpList_load_row rfl 32 (.tmp t) rfl P hx 32 #[x, y] (0, 0) _ X Try.underlying32 rfl info_pt h
theorem st_pt {x y : Int} {o0 o1 : Value} (t u : Tmp) (hx : a.eval (.tmp t) = .pointer (some ⟨P, 0, none⟩)) (hy : a.eval (.tmp u) = .agg #[.int .i64 x, .int .i64 y]) (X : Bx w P #[o0, o1] 32)
    (h : ∀ w', Bx w' P #[.int .i64 x, .int .i64 y] 32 → (∀ w0, Qw w0 w → w0.heap.size ≤ P → Qw w0 w') → Oth w w' P → wpList Try.prog ops Q rest (a.put dst undef) w') :
    wpList Try.prog ops Q (⟨dst, .store 32 (.tmp t) (.tmp u), ty, pos, after, none⟩ :: rest) a w :=
  wpList_store_row rfl 32 (.tmp t) (.tmp u) rfl P #[.int .i64 x, .int .i64 y] hx hy 32 #[o0, o1] X info_pt rfl (by simp [Value.oneCell']) (h _ X.srS (fun w0 q hp => q.sr' hp _) (Oth.sr w P _))
theorem info_dir : (Try.prog.info? 88).map (·.size) = some 2 := by kernel_rfl
theorem zero_dir (w : World) : (zeroValue 88).run Try.prog w = .ok (.agg #[.int .i64 0, .int .i64 0]) w := by kernel_rfl
theorem run_alloc_dir (w : World) : (Instr.alloc 88 true (.tuple #[])).run Try.prog w = .ok (.pointer (some ⟨w.heap.size, 0, none⟩)) (w.alloc (.cells #[.int .i64 0, .int .i64 0] 88)) := by
  simp only [Instr.alloc, Sem.run_bind, zero_dir, Result.andThen_ok]
  simp only [newVar, newRow, Sem.run_bind, run_newObj_alloc, Sem.run_pure, Result.andThen_ok]
  rfl
set_option maxRecDepth 100000 in
theorem box_dir {x y : Int} (t : Tmp) (hx : a.eval (.tmp t) = .agg #[.int .i64 x, .int .i64 y])
    (h : ∀ w' P, w.heap.size ≤ P → Bx w' P #[.int .i64 x, .int .i64 y] 88 → Qw w w' → wpList Try.prog ops Q rest (a.put dst (.pointer (some ⟨P, 0, none⟩))) w') :
    wpList Try.prog ops Q (⟨dst, .box 88 (.tmp t), ty, pos, after, none⟩ :: rest) a w :=
  Go.Great.wpList_boxTo rfl 88 (.tmp t) rfl dst rfl w.heap.size rfl #[.int .i64 x, .int .i64 y] (by rw [hx]; rfl) (h _ _ (Nat.le_refl _) (Bx.new w _ _) (Qw.al (Qw.refl w) _))
set_option maxRecDepth 100000 in
theorem al_dir (h : ∀ w' P, w.heap.size ≤ P → Bx w' P #[.int .i64 0, .int .i64 0] 88 → Qw w w' → wpList Try.prog ops Q rest (a.put dst (.pointer (some ⟨P, 0, none⟩))) w') :
    wpList Try.prog ops Q (⟨dst, .alloc 88, ty, pos, after, none⟩ :: rest) a w := by
  refine wpList_plain rfl fun K hK => ?_
  unfold Oper.wp execOp
  simp only [run_alloc_dir w]
  exact hK _ _ (h _ _ (Nat.le_refl _) (Bx.new w _ _) (Qw.al (Qw.refl w) _))
theorem ld_dir {x y : Value} (t : Tmp) (hx : a.eval (.tmp t) = .pointer (some ⟨P, 0, none⟩)) (X : Bx w P #[x, y] 88) (h : wpList Try.prog ops Q rest (a.put dst (.agg #[x, y])) w) :
    wpList Try.prog ops Q (⟨dst, .load 88 (.tmp t), ty, pos, after, none⟩ :: rest) a w :=
  wpList_load_row rfl 88 (.tmp t) rfl P hx 88 #[x, y] (0, 0) _ X Try.underlying88 rfl info_dir h
theorem st_dir {x y : Int} {o0 o1 : Value} (t u : Tmp) (hx : a.eval (.tmp t) = .pointer (some ⟨P, 0, none⟩)) (hy : a.eval (.tmp u) = .agg #[.int .i64 x, .int .i64 y]) (X : Bx w P #[o0, o1] 88)
    (h : ∀ w', Bx w' P #[.int .i64 x, .int .i64 y] 88 → (∀ w0, Qw w0 w → w0.heap.size ≤ P → Qw w0 w') → Oth w w' P → wpList Try.prog ops Q rest (a.put dst undef) w') :
    wpList Try.prog ops Q (⟨dst, .store 88 (.tmp t) (.tmp u), ty, pos, after, none⟩ :: rest) a w :=
  wpList_store_row rfl 88 (.tmp t) (.tmp u) rfl P #[.int .i64 x, .int .i64 y] hx hy 88 #[o0, o1] X info_dir rfl (by simp [Value.oneCell']) (h _ X.srS (fun w0 q hp => q.sr' hp _) (Oth.sr w P _))
theorem st_itO {f g : Ac.I} (x y : Tmp) (hx : a.eval (.tmp x) = .pointer (some ⟨P, 0, none⟩)) (hy : a.eval (.tmp y) = .agg (itc g)) (X : Bx w P (itc f) IT)
    (h : ∀ w', Bx w' P (itc g) IT → (∀ w0, Qw w0 w → w0.heap.size ≤ P → Qw w0 w') → Oth w w' P → wpList Try.prog ops Q rest (a.put dst undef) w') : wpList Try.prog ops Q (⟨dst, .store IT (.tmp x) (.tmp y), ty, pos, after, none⟩ :: rest) a w :=
  wpList_store_row rfl IT (.tmp x) (.tmp y) rfl P (itc g) hx hy IT (itc f) X (by rw [itc_size]; exact info_it) (by rw [itc_size, itc_size]) (itc_one g) (h _ X.srS (fun w0 q hp => q.sr' hp _) (Oth.sr w P _))
end
end Go.Proofs.Ytihmifdadikhaaa

/- A region that draws its order and ends in one operation that waits for all others: what is read may be taken first under a condition on the world that need not hold behind that last operation. -/
set_option linter.unusedVariables false
namespace Go.Proofs.Ytihmifdadikhaaa
open Go

section
variable {P : Program} {ops : Array Oper} {Q : Exit → Act → World → Prop} {md : Region.Mode} {S : World → Prop} {m : Nat}

/-- Whatever order is picked, and S holds behind every operation but number m. -/
def wpAnyM (P : Program) (md : Region.Mode) (ops : Array Oper) (Q : Exit → Act → World → Prop) (S : World → Prop) (m : Nat) : Nat → Array Bool → Act → World → Prop
  | 0, listed, a, w => Region.ready md ops listed = [] ∧ Q .normal a w
  | fuel + 1, listed, a, w =>
    (Region.ready md ops listed = [] → Q .normal a w) ∧
    ∀ i ∈ Region.ready md ops listed, wpOp P ops Q i (fun a' w' => (i < m → S w') ∧ wpAnyM P md ops Q S m fuel (listed.setIfInBounds i true) a' w') a w

theorem wpAny_of_M : ∀ (fuel : Nat) (listed : Array Bool) (a : Act) (w : World), wpAnyM P md ops Q S m fuel listed a w → wpAny P md ops Q fuel listed a w
  | 0, _, _, _, h => h
  | fuel + 1, _, _, _, h => ⟨h.1, fun i hi => wpOp_mono (fun a' w' h' => wpAny_of_M fuel _ a' w' h'.2) (h.2 i hi)⟩

theorem wpAnyM_first {i : Nat} {oi : Oper} {v : Value} (hi : ops[i]? = some oi) (hsel : ∀ (j : Nat) (o : Oper) cs b, ops[j]? = some o → o.op ≠ .select cs b)
    (hs : Region.sinkB md ops m = true) (hc : Region.chainB md ops m = true) (hml : m < ops.size) (him : i < m)
    (hQ : ∀ c a w, Q (.panic c) (a.put oi.dst v) w → Q (.panic c) a w) :
    ∀ (fuel : Nat) (listed : Array Bool) (a : Act) (w : World), HeadInv md ops m listed →
      (∀ j oj, ops[j]? = some oj → j ≠ i → listed.getD j true = false → (∀ e ∈ oj.after, Region.binds md e = true → e.on ≠ i) → oi.apart ops oj = true) →
      i ∈ Region.ready md ops listed → YieldsIf P ops S oi v a → S w →
      wpAnyM P md ops Q S m fuel (listed.setIfInBounds i true) (a.put oi.dst v) w → wpAnyM P md ops Q S m (fuel + 1) listed a w := by
  intro fuel
  induction fuel with
  | zero =>
    intro listed a w inv _ hr hy hS H
    refine ⟨fun h => (by rw [h] at hr; cases hr), fun j hj => ?_⟩
    by_cases hji : j = i
    · subst hji; exact hy.wpOp hi hS ⟨fun _ => hS, H⟩
    · have := ready_mono hj hji
      rw [H.1] at this
      cases this
  | succ fuel ih =>
    intro listed a w inv hfree hr hy hS H
    refine ⟨fun h => (by rw [h] at hr; cases hr), fun j hj => ?_⟩
    by_cases hji : j = i
    · subst hji; exact hy.wpOp hi hS ⟨fun _ => hS, H⟩
    · have h1 := H.2 j (ready_mono hj hji)
      have hjm : j < m := by
        rcases Nat.lt_or_ge j m with h | h
        · exact h
        · exact absurd hj (tail_waits hs hc hml inv _ i rfl him (mem_ready.1 hr).1 j h)
      obtain ⟨hjun, oj, hoj, hall⟩ := mem_ready.1 hj
      have hnot : ∀ e ∈ oj.after, Region.binds md e = true → e.on ≠ i := fun e he hb heq => by
        have h1 := hall e he hb
        have h0 := (mem_ready.1 hr).1
        rw [heq] at h1
        rcases Nat.lt_or_ge i listed.size with h' | h'
        · simp [h'] at h0 h1; rw [h0] at h1; cases h1
        · simp [Array.getElem?_eq_none h'] at h1
      have h2 := wpOp_putIf hoj (hfree j oj hoj hji hjun hnot) (fun cs b => hsel i oi cs b hi) (fun cs b => hsel j oj cs b hoj) hQ hy h1
      have hfree' : ∀ k ok, ops[k]? = some ok → k ≠ i → (listed.setIfInBounds j true).getD k true = false →
          (∀ e ∈ ok.after, Region.binds md e = true → e.on ≠ i) → oi.apart ops ok = true := fun k ok hk hki hun hno => by
        refine hfree k ok hk hki ?_ hno
        by_cases hjk : j = k
        · subst hjk; exact hjun
        · rw [getD_set_ne true hjk] at hun; exact hun
      refine wpOp_mono (fun a' w' h3 => ⟨h3.2.1, ih (listed.setIfInBounds j true) a' w' (inv.set hj hjm) hfree' (ready_mono hr (Ne.symm hji)) h3.1 (h3.2.1 hjm) ?_⟩) h2
      rw [Array.setIfInBounds_comm _ _ hji]
      exact h3.2.2

theorem getD_set_keep {l : Array Bool} {j k : Nat} (h : l.getD k true = true) : (l.setIfInBounds j true).getD k true = true := by
  by_cases e : j = k
  · subst e
    rcases Nat.lt_or_ge j l.size with c | c
    · simp [c]
    · simp [Array.getElem?_eq_none c]
  · rw [getD_set_ne true e]; exact h
theorem wpAnyM_firstT {done : List Nat} {i : Nat} {oi : Oper} {v : Value} (hi : ops[i]? = some oi) (hsel : ∀ (j : Nat) (o : Oper) cs b, ops[j]? = some o → o.op ≠ .select cs b)
    (hs : Region.sinkB md ops m = true) (hc : Region.chainB md ops m = true) (hml : m < ops.size) (him : i < m)
    (hQ : ∀ c a w, Q (.panic c) (a.put oi.dst v) w → Q (.panic c) a w)
    (hfree : ∀ l : Array Bool, HeadInv md ops m l → (∀ k ∈ done, l.getD k true = true) → l.getD i true = false → ∀ j oj, ops[j]? = some oj → j ≠ i → j ∈ Region.ready md ops l → oi.apart ops oj = true) :
    ∀ (fuel : Nat) (listed : Array Bool) (a : Act) (w : World), HeadInv md ops m listed → (∀ k ∈ done, listed.getD k true = true) →
      i ∈ Region.ready md ops listed → YieldsIf P ops S oi v a → S w →
      wpAnyM P md ops Q S m fuel (listed.setIfInBounds i true) (a.put oi.dst v) w → wpAnyM P md ops Q S m (fuel + 1) listed a w := by
  intro fuel
  induction fuel with
  | zero =>
    intro listed a w inv hdn hr hy hS H
    refine ⟨fun h => (by rw [h] at hr; cases hr), fun j hj => ?_⟩
    by_cases hji : j = i
    · subst hji; exact hy.wpOp hi hS ⟨fun _ => hS, H⟩
    · have := ready_mono hj hji
      rw [H.1] at this
      cases this
  | succ fuel ih =>
    intro listed a w inv hdn hr hy hS H
    refine ⟨fun h => (by rw [h] at hr; cases hr), fun j hj => ?_⟩
    by_cases hji : j = i
    · subst hji; exact hy.wpOp hi hS ⟨fun _ => hS, H⟩
    · have h1 := H.2 j (ready_mono hj hji)
      have hjm : j < m := by
        rcases Nat.lt_or_ge j m with h | h
        · exact h
        · exact absurd hj (tail_waits hs hc hml inv _ i rfl him (mem_ready.1 hr).1 j h)
      obtain ⟨hjun, oj, hoj, hall⟩ := mem_ready.1 hj
      have hnot : ∀ e ∈ oj.after, Region.binds md e = true → e.on ≠ i := fun e he hb heq => by
        have h1 := hall e he hb
        have h0 := (mem_ready.1 hr).1
        rw [heq] at h1
        rcases Nat.lt_or_ge i listed.size with h' | h'
        · simp [h'] at h0 h1; rw [h0] at h1; cases h1
        · simp [Array.getElem?_eq_none h'] at h1
      have h2 := wpOp_putIf hoj (hfree listed inv hdn (mem_ready.1 hr).1 j oj hoj hji hj) (fun cs b => hsel i oi cs b hi) (fun cs b => hsel j oj cs b hoj) hQ hy h1
      refine wpOp_mono (fun a' w' h3 => ⟨h3.2.1, ih (listed.setIfInBounds j true) a' w' (inv.set hj hjm) (fun k hk => getD_set_keep (hdn k hk)) (ready_mono hr (Ne.symm hji)) h3.1 (h3.2.1 hjm) ?_⟩) h2
      rw [Array.setIfInBounds_comm _ _ hji]
      exact h3.2.2

/-- What of the listed operations is asked, as a Bool. -/
def okL (md : Region.Mode) (ops : Array Oper) (m : Nat) (listed : Array Bool) : Bool :=
  (listed.size == ops.size) && ((List.range ops.size).all fun j => !listed.getD j false || (match ops[j]? with | some o => o.after.all fun e => !Region.binds md e || listed.getD e.on false | none => true)) &&
    ((List.range ops.size).all fun t => decide (t < m) || !listed.getD t true)
theorem okL_inv {listed : Array Bool} (h : okL md ops m listed = true) : HeadInv md ops m listed := by
  unfold okL at h
  simp only [Bool.and_eq_true, List.all_eq_true, List.mem_range, Bool.or_eq_true, beq_iff_eq, decide_eq_true_eq, Bool.not_eq_true'] at h
  obtain ⟨⟨h1, h2⟩, h3⟩ := h
  refine ⟨h1, fun j oj hj hl e he hb => ?_, fun t ht ht' => ?_⟩
  · have hjs : j < ops.size := (Array.getElem?_eq_some_iff.1 hj).1
    rcases h2 j hjs with k | k
    · rw [hl] at k; cases k
    · rw [hj] at k
      simp only [Array.all_eq_true_iff_forall_mem, Bool.or_eq_true, Bool.not_eq_true'] at k
      rcases k e he with k | k
      · rw [hb] at k; cases k
      · exact k
  · rcases h3 t ht' with k | k
    · omega
    · exact k

/-- All that a take asks of the region and of what is listed. -/
def takeB (md : Region.Mode) (ops : Array Oper) (m i : Nat) (listed : Array Bool) : Bool :=
  Region.noSelect ops && Region.free md ops listed i && (Region.ready md ops listed).contains i && okL md ops m listed && Region.sinkB md ops m && Region.chainB md ops m && decide (m < ops.size) && decide (i < m)

theorem wpAnyM_take {i : Nat} {oi : Oper} {v : Value} {fuel : Nat} {listed : Array Bool} {a : Act} {w : World} (hi : ops[i]? = some oi)
    (hb : takeB md ops m i listed = true)
    (hQ : ∀ c a w, Q (.panic c) (a.put oi.dst v) w → Q (.panic c) a w) (hy : YieldsIf P ops S oi v a) (hS : S w)
    (h : wpAnyM P md ops Q S m fuel (listed.setIfInBounds i true) (a.put oi.dst v) w) : wpAnyM P md ops Q S m (fuel + 1) listed a w := by
  unfold takeB at hb
  simp only [Bool.and_eq_true, decide_eq_true_eq] at hb
  obtain ⟨⟨⟨⟨⟨⟨⟨h1, h2⟩, h3⟩, h4⟩, h5⟩, h6⟩, h7⟩, h8⟩ := hb
  exact wpAnyM_first hi (Region.noSelect_spec h1) h5 h6 h7 h8 hQ fuel listed a w (okL_inv h4) (Region.free_spec hi h2) (by simpa using h3) hy hS h

/-- The operations that wait, through others, for number i: each of 'dep' waits for i or for a lower one of 'dep'. -/
def depB (md : Region.Mode) (ops : Array Oper) (i : Nat) (dep : List Nat) : Bool :=
  dep.all fun j => match ops[j]? with | some o => o.after.toList.any fun e => Region.binds md e && (e.on == i || (dep.contains e.on && decide (e.on < j))) | none => false
theorem dep_waits {i : Nat} {dep : List Nat} (h : depB md ops i dep = true) {l : Array Bool} (inv : HeadInv md ops m l) (hi : l.getD i true = false) :
    ∀ n j, j < n → j ∈ dep → l.getD j false = false := by
  intro n
  induction n with
  | zero => intro j hj; omega
  | succ n ih =>
    intro j hj hd
    have hh := List.all_eq_true.1 h j hd
    cases ho : ops[j]? with
    | none => rw [ho] at hh; cases hh
    | some o =>
      rw [ho] at hh
      simp only [List.any_eq_true, Bool.and_eq_true, Bool.or_eq_true, beq_iff_eq, decide_eq_true_eq] at hh
      obtain ⟨e, he, hb, hk⟩ := hh
      cases hl : l.getD j false with
      | false => rfl
      | true =>
        have c := inv.closed j o ho hl e (by simpa using he) hb
        rcases hk with rfl | ⟨hk, hlt⟩
        · rw [getD_both hi] at c; cases c
        · rw [ih e.on (by omega) (by simpa using hk)] at c; cases c
def takeTB (md : Region.Mode) (ops : Array Oper) (m i : Nat) (dep done : List Nat) (listed : Array Bool) : Bool :=
  Region.noSelect ops && depB md ops i dep && (done.all fun k => listed.getD k true) && ((List.range ops.size).all fun j => j == i || dep.contains j || done.contains j || match ops[i]?, ops[j]? with | some oi, some oj => oi.apart ops oj | _, _ => true) && (Region.ready md ops listed).contains i && okL md ops m listed && Region.sinkB md ops m && Region.chainB md ops m && decide (m < ops.size) && decide (i < m)
/-- A take, where others wait through others. -/
theorem wpAnyM_takeT {i : Nat} {oi : Oper} {v : Value} {fuel : Nat} {listed : Array Bool} {a : Act} {w : World} (dep done : List Nat) (hi : ops[i]? = some oi)
    (hb : takeTB md ops m i dep done listed = true)
    (hQ : ∀ c a w, Q (.panic c) (a.put oi.dst v) w → Q (.panic c) a w) (hy : YieldsIf P ops S oi v a) (hS : S w)
    (h : wpAnyM P md ops Q S m fuel (listed.setIfInBounds i true) (a.put oi.dst v) w) : wpAnyM P md ops Q S m (fuel + 1) listed a w := by
  unfold takeTB at hb
  simp only [Bool.and_eq_true, decide_eq_true_eq] at hb
  obtain ⟨⟨⟨⟨⟨⟨⟨⟨⟨h1, h2⟩, h2'⟩, h2''⟩, h3⟩, h4⟩, h5⟩, h6⟩, h7⟩, h8⟩ := hb
  refine wpAnyM_firstT (done := done) hi (Region.noSelect_spec h1) h5 h6 h7 h8 hQ ?_ fuel listed a w (okL_inv h4) (List.all_eq_true.1 h2') (by simpa using h3) hy hS h
  intro l inv hd hl j oj hj hne hr
  have hjs : j < ops.size := (Array.getElem?_eq_some_iff.1 hj).1
  have c := List.all_eq_true.1 h2'' j (List.mem_range.2 hjs)
  simp only [hi, hj, Bool.or_eq_true, beq_iff_eq, hne, false_or] at c
  rcases c with (c | c) | c
  · exfalso
    have hd' : j ∈ dep := by simpa using c
    obtain ⟨hun, oj', hoj, hall⟩ := mem_ready.1 hr
    have hh := List.all_eq_true.1 h2 j hd'
    rw [hoj] at hh
    simp only [List.any_eq_true, Bool.and_eq_true, Bool.or_eq_true, beq_iff_eq, decide_eq_true_eq] at hh
    obtain ⟨e, he, hb, hk⟩ := hh
    have hx := hall e (by simpa using he) hb
    rcases hk with rfl | ⟨hk, hlt⟩
    · rcases Nat.lt_or_ge e.on l.size with q | q
      · simp [q] at hl hx; rw [hl] at hx; cases hx
      · simp [Array.getElem?_eq_none q] at hl
    · have hz := dep_waits h2 inv hl (e.on + 1) e.on (by omega) (by simpa using hk)
      rcases Nat.lt_or_ge e.on l.size with q | q
      · simp [q] at hz hx; rw [hz] at hx; cases hx
      · rw [inv.size] at q
        have : e.on < ops.size := by omega
        omega
  · exfalso
    have hd' := hd j (by simpa using c)
    have hun := (mem_ready.1 hr).1
    rw [hun] at hd'; cases hd'
  · exact c
/-- One alone may come up. -/
theorem wpAnyM_one {i : Nat} {oi : Oper} {fuel : Nat} {listed : Array Bool} {a : Act} {w : World} (hi : ops[i]? = some oi) (hr : Region.ready md ops listed = [i]) (hg : oi.guard = none)
    (h : ∀ K : Act → World → Prop, (∀ a' w', (i < m → S w') → wpAnyM P md ops Q S m fuel (listed.setIfInBounds i true) a' w' → K a' w') → oi.wp P a w K Q) : wpAnyM P md ops Q S m (fuel + 1) listed a w := by
  refine ⟨fun h0 => (by rw [h0] at hr; cases hr), fun j hj => ?_⟩
  rw [hr] at hj
  obtain rfl : j = i := by simpa using hj
  unfold wpOp
  rw [hi]
  simp only
  rw [if_pos (by simp [Region.wanted, hg])]
  exact .inl (h _ fun a' w' hS H => ⟨hS, H⟩)

/-- One of two may come up. -/
theorem wpAnyM_two {i j : Nat} {oi oj : Oper} {fuel : Nat} {listed : Array Bool} {a : Act} {w : World} (hi : ops[i]? = some oi) (hj : ops[j]? = some oj) (hr : Region.ready md ops listed = [i, j]) (hg : oi.guard = none) (hgj : oj.guard = none)
    (h : ∀ K : Act → World → Prop, (∀ a' w', (i < m → S w') → wpAnyM P md ops Q S m fuel (listed.setIfInBounds i true) a' w' → K a' w') → oi.wp P a w K Q)
    (h' : ∀ K : Act → World → Prop, (∀ a' w', (j < m → S w') → wpAnyM P md ops Q S m fuel (listed.setIfInBounds j true) a' w' → K a' w') → oj.wp P a w K Q) : wpAnyM P md ops Q S m (fuel + 1) listed a w := by
  refine ⟨fun h0 => (by rw [h0] at hr; cases hr), fun k hk => ?_⟩
  rw [hr] at hk
  have hk' : k = i ∨ k = j := by simpa using hk
  rcases hk' with rfl | rfl
  · unfold wpOp
    rw [hi]
    simp only
    rw [if_pos (by simp [Region.wanted, hg])]
    exact .inl (h _ fun a' w' hS H => ⟨hS, H⟩)
  · unfold wpOp
    rw [hj]
    simp only
    rw [if_pos (by simp [Region.wanted, hgj])]
    exact .inl (h' _ fun a' w' hS H => ⟨hS, H⟩)

/-- One of three may come up. -/
theorem wpAnyM_three {i j l : Nat} {oi oj ol : Oper} {fuel : Nat} {listed : Array Bool} {a : Act} {w : World} (hi : ops[i]? = some oi) (hj : ops[j]? = some oj) (hl : ops[l]? = some ol) (hr : Region.ready md ops listed = [i, j, l]) (hg : oi.guard = none) (hgj : oj.guard = none) (hgl : ol.guard = none)
    (h : ∀ K : Act → World → Prop, (∀ a' w', (i < m → S w') → wpAnyM P md ops Q S m fuel (listed.setIfInBounds i true) a' w' → K a' w') → oi.wp P a w K Q)
    (h' : ∀ K : Act → World → Prop, (∀ a' w', (j < m → S w') → wpAnyM P md ops Q S m fuel (listed.setIfInBounds j true) a' w' → K a' w') → oj.wp P a w K Q)
    (h'' : ∀ K : Act → World → Prop, (∀ a' w', (l < m → S w') → wpAnyM P md ops Q S m fuel (listed.setIfInBounds l true) a' w' → K a' w') → ol.wp P a w K Q) : wpAnyM P md ops Q S m (fuel + 1) listed a w := by
  refine ⟨fun h0 => (by rw [h0] at hr; cases hr), fun k hk => ?_⟩
  rw [hr] at hk
  have hk' : k = i ∨ k = j ∨ k = l := by simpa using hk
  rcases hk' with rfl | rfl | rfl
  · unfold wpOp
    rw [hi]
    simp only
    rw [if_pos (by simp [Region.wanted, hg])]
    exact .inl (h _ fun a' w' hS H => ⟨hS, H⟩)
  · unfold wpOp
    rw [hj]
    simp only
    rw [if_pos (by simp [Region.wanted, hgj])]
    exact .inl (h' _ fun a' w' hS H => ⟨hS, H⟩)
  · unfold wpOp
    rw [hl]
    simp only
    rw [if_pos (by simp [Region.wanted, hgl])]
    exact .inl (h'' _ fun a' w' hS H => ⟨hS, H⟩)

theorem wpAnyM_done {listed : Array Bool} {a : Act} {w : World} (hr : Region.ready md ops listed = []) (h : Q .normal a w) :
    ∀ fuel, wpAnyM P md ops Q S m fuel listed a w
  | 0 => ⟨hr, h⟩
  | _ + 1 => ⟨fun _ => h, by rw [hr]; simp⟩

theorem wp_region_M {id : Nat} {a : Act} {w : World} (S : World → Prop) (m : Nat) (hm : P.follows .mixedOrders = true)
    (h : wpAnyM P .any ops Q S m ops.size (Array.replicate ops.size false) a w.drew) : (Code.region id ops true).wp P Q a w :=
  wp_region_any hm (wpAny_of_M _ _ _ _ h)

end
end Go.Proofs.Ytihmifdadikhaaa

/- Blocks that are made in a region that draws its order. -/
set_option linter.unusedVariables false
set_option linter.unusedSimpArgs false
namespace Go.Proofs.Ytihmifdadikhaaa
open Go.RowKit
theorem al_namedA {w w' : World} (q : Qw w w') (cs : Array Value) (t : TypeId) : ∃ (wn : World) (N : Nat), w'.alloc (.cells cs t) = wn ∧ w'.heap.size = N ∧ w.heap.size ≤ N ∧ Qw w wn ∧ Bx wn N cs t ∧ Qw w' wn :=
  ⟨_, _, rfl, rfl, q.size, Qw.al q _, Bx.new _ _ _, Qw.al (Qw.refl _) _⟩
theorem Qw.stA2 {w w' : World} (q : Qw w w') {N : Nat} (hN : w.heap.size ≤ N) (x y : Value) : Qw w ((w'.setCell ⟨N, 0, none⟩ x).setCell ⟨N, 1, none⟩ y) := (q.setCell hN _).setCell hN _
theorem Qw.stA3 {w w' : World} (q : Qw w w') {N : Nat} (hN : w.heap.size ≤ N) (x y z : Value) : Qw w (((w'.setCell ⟨N, 0, none⟩ x).setCell ⟨N, 1, none⟩ y).setCell ⟨N, 2, none⟩ z) := ((q.setCell hN _).setCell hN _).setCell hN _
theorem Bx.otA2 {w : World} {b N : Nat} {cs : Array Value} {t : TypeId} (h : Bx w b cs t) (hb : b ≠ N) (x y : Value) : Bx ((w.setCell ⟨N, 0, none⟩ x).setCell ⟨N, 1, none⟩ y) b cs t := (h.other hb _).other hb _
theorem Bx.otA3 {w : World} {b N : Nat} {cs : Array Value} {t : TypeId} (h : Bx w b cs t) (hb : b ≠ N) (x y z : Value) : Bx (((w.setCell ⟨N, 0, none⟩ x).setCell ⟨N, 1, none⟩ y).setCell ⟨N, 2, none⟩ z) b cs t := ((h.other hb _).other hb _).other hb _
end Go.Proofs.Ytihmifdadikhaaa
