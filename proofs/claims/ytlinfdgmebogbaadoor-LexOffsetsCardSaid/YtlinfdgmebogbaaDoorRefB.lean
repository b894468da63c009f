
/- Numbers in memory, and the walks of limbs, cut and cmp of the specification of layer 1. -/
import Derived.Test.YtlinfdgmebogbaaDoorCore
import Derived.Test.YtlinfdgmebogbaaDoorDigits
import Derived.WalkSmall
set_option linter.unusedVariables false
set_option linter.unusedSimpArgs false
namespace Go.Proofs.YtlinfdgmebogbaaDoor
open Go.RowKit

def cells (ds : List Int) : List Value := ds.map (Value.int .u64)

/-- The digits without the zeros at the end. -/
def Stripped (ds : List Int) (k : Nat) : Prop := k ≤ ds.length ∧ ∀ j, k ≤ j → j < ds.length → ds.getD j 0 = 0

theorem val_strip {ds : List Int} {k : Nat} (h : Stripped ds k) : Dg.val (ds.take k) = Dg.val ds := by
  obtain ⟨h1, h2⟩ := h
  have e : ds = ds.take k ++ ds.drop k := (List.take_append_drop k ds).symm
  have z : Dg.val (ds.drop k) = 0 := by
    have r : ds.drop k = List.replicate (ds.length - k) 0 := by
      apply List.ext_getElem?
      intro j
      rw [List.getElem?_drop]
      by_cases c : j < ds.length - k
      · rw [List.getElem?_replicate, if_pos c]
        have := h2 (k + j) (by omega) (by omega)
        rw [List.getD_eq_getElem?_getD, List.getElem?_eq_getElem (by omega)] at this
        rw [List.getElem?_eq_getElem (by omega)]
        simpa using this
      · rw [List.getElem?_replicate, if_neg c, List.getElem?_eq_none (by omega)]
    rw [r, Dg.val_replicate]
  conv => rhs; rw [e]
  rw [Dg.val_append, z]
  omega

theorem top_strip {ds : List Int} {k : Nat} (h1 : k ≤ ds.length) (h : k = 0 ∨ ds.getD (k - 1) 0 ≠ 0) : Dg.Top (ds.take k) := by
  intro d hd
  rcases Nat.eq_zero_or_pos k with c | c
  · subst c; simp at hd
  · rcases h with h | h
    · omega
    · have l : (ds.take k).length = k := by rw [List.length_take]; omega
      rw [List.getLast?_eq_getElem?, l, List.getElem?_take, if_pos (by omega)] at hd
      rw [List.getD_eq_getElem?_getD, hd] at h
      exact h

theorem strip_step {ds : List Int} {j : Nat} (h : Stripped ds (j + 1)) (z : ds.getD j 0 = 0) : Stripped ds j := by
  obtain ⟨h1, h2⟩ := h
  refine ⟨by omega, fun i h3 h4 => ?_⟩
  rcases Nat.eq_or_lt_of_le h3 with e | e
  · rw [← e]; exact z
  · exact h2 i e h4

def lenOf : Value → Nat
  | .slice _ k _ => k
  | _ => 0

/-! ### limbs -/

/-- What is known at the head of a round of limbs: m is still to come. -/
def LimbK (n m : Int) (ds : List Int) : Prop :=
  Dg.Dig ds ∧ Dg.val ds + 65536 ^ ds.length * m = n ∧ (m = 0 → Dg.Top ds) ∧ 0 ≤ m ∧
    (ds.length = 0 ∧ m < 18446744073709551616 ∨ ds.length = 1 ∧ m < 281474976710656 ∨ ds.length = 2 ∧ m < 4294967296 ∨ ds.length = 3 ∧ m < 65536 ∨ ds.length = 4 ∧ m < 1)

theorem limb_step {n m : Int} {ds : List Int} (h : LimbK n m ds) (hm : 0 < m) : LimbK n (m / 65536) (ds ++ [m % 65536]) := by
  obtain ⟨h1, h2, h3, h4, h5⟩ := h
  have l : (ds ++ [m % 65536]).length = ds.length + 1 := by simp
  refine ⟨Dg.dig_append.2 ⟨h1, Dg.dig_cons.2 ⟨⟨by omega, by omega⟩, Dg.dig_nil⟩⟩, ?_, ?_, by omega, by omega⟩
  · rw [l, Dg.val_append, Dg.val, Dg.val, Dg.pow_succ, Int.mul_zero, Int.add_zero, Int.mul_comm 65536, Int.mul_assoc, Int.mul_comm 65536 (m / 65536)]
    have d := Int.emod_add_mul_ediv m 65536
    have e : (65536 : Int) ^ ds.length * (m % 65536) + 65536 ^ ds.length * (m / 65536 * 65536) = 65536 ^ ds.length * m := by
      rw [← Int.mul_add, Int.mul_comm (m / 65536), d]
    omega
  · intro z d hd
    simp at hd
    omega

theorem and_mask16 (x : Int) (h0 : 0 ≤ x) (h1 : x < 18446744073709551616) : bits .and .u64 x 65535 = x % 65536 := by
  obtain ⟨n, rfl⟩ := Int.eq_ofNat_of_zero_le h0
  have h := bits_and_u64_nat n 65535 (by omega) (by omega)
  have e : n &&& 65535 = n % 65536 := Nat.and_two_pow_sub_one_eq_mod n 16
  rw [e] at h
  exact h

theorem cell_one_new (w : World) (a : Value) (t : TypeId) : ∀ j u, [a][j]? = some u → (w.alloc (.cells #[a] t)).cell? ((⟨w.heap.size, 0, none⟩ : Addr).add j) = some u := by
  intro j u hj
  match j, hj with
  | 0, hj => simp at hj; subst hj; simp [Addr.add]
  | j + 1, hj => simp at hj

end Go.Proofs.YtlinfdgmebogbaaDoor
