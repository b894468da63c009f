
/- The walks of fixed.digits and fixed.Parse. -/
import Derived.Test.YtlinfdgmebogbaaDoorFxA
import Derived.Test.YtlinfdgmebogbaaDoorFxP
import Derived.IntWalk
import Derived.Lib.MinMax
import Derived.Outline
set_option linter.unusedVariables false
set_option linter.unusedSimpArgs false
namespace Go.Proofs.YtlinfdgmebogbaaDoor
open Go.RowKit

/-- The digits that are read. -/
def rdl (l : List UInt8) (a c : Int) : Nat := rk (l.drop a.toNat) c.toNat
def rdv (n : Int) (l : List UInt8) (a c : Int) : Int := vl n ((l.drop a.toNat).take (rdl l a c))

/-- After j digits: they are digits, and n is what they write. -/
def DigK (n0 : Int) (l : List UInt8) (A C j : Nat) (v : Int) : Prop :=
  j ≤ C ∧ A + j ≤ l.length ∧ (∀ i, i < j → isd ((l.drop A).getD i 0) = true) ∧ v = vl n0 ((l.drop A).take j)

theorem DigK.bd {n0 : Int} {l : List UInt8} {A C j : Nat} {v : Int} (h : DigK n0 l A C j v) (h0 : 0 ≤ n0) (h1 : n0 ≤ 999999999) (hj : j ≤ 8) : 0 ≤ v ∧ v ≤ 100000000000000000 := by
  obtain ⟨k1, k2, k3, rfl⟩ := h
  obtain ⟨x, y⟩ := vl_bd ((l.drop A).take j) n0 h0 (all_take _ _ (by rw [List.length_drop]; omega) k3)
  refine ⟨by omega, ?_⟩
  have p := pow10_le (show ((l.drop A).take j).length ≤ 8 by rw [List.length_take]; omega)
  have e : (10 : Int) ^ 8 = 100000000 := by decide
  have m : (n0 + 1) * 10 ^ ((l.drop A).take j).length ≤ 1000000000 * 100000000 := Int.mul_le_mul (by omega) (by omega) (Int.le_of_lt (Int.pow_pos (by decide))) (by decide)
  omega

theorem DigK.succ {n0 : Int} {l : List UInt8} {A C j : Nat} {v : Int} (h : DigK n0 l A C j v) (hc : j < C) (hl : A + j < l.length) (hd : isd l[A + j] = true) :
    DigK n0 l A C (j + 1) (v * 10 + ((l[A + j].toNat : Int) - 48)) := by
  obtain ⟨k1, k2, k3, rfl⟩ := h
  have g : (l.drop A).getD j 0 = l[A + j] := by rw [getD_of _ _ (by rw [List.length_drop]; omega), List.getElem_drop]
  refine ⟨hc, hl, ?_, ?_⟩
  · intro i hi
    by_cases e : i = j
    · subst e; rw [g]; exact hd
    · exact k3 i (by omega)
  · rw [List.take_succ_eq_append_getElem (by rw [List.length_drop]; omega), vl_snoc, List.getElem_drop]

theorem DigK.done {n0 : Int} {l : List UInt8} {A C j : Nat} {v : Int} (h : DigK n0 l A C j v) (e : j = C ∨ A + j = l.length ∨ ∃ h : A + j < l.length, isd l[A + j] = false) :
    rk (l.drop A) C = j ∧ v = vl n0 ((l.drop A).take (rk (l.drop A) C)) := by
  obtain ⟨k1, k2, k3, rfl⟩ := h
  have r : rk (l.drop A) C = j := rk_uniq _ _ _ k1 (by rw [List.length_drop]; omega) k3 (by
    rcases e with e | e | ⟨e, f⟩
    · exact .inl e
    · exact .inr (.inl (by rw [List.length_drop]; omega))
    · exact .inr (.inr (by rw [getD_of _ _ (by rw [List.length_drop]; omega), List.getElem_drop]; exact f)))
  exact ⟨r, by rw [r]⟩

set_option maxRecDepth 100000 in
set_option maxHeartbeats 400000 in
theorem fxDigits (n a c : Int) (s : ByteArray) (n0 : 0 ≤ n) (n1 : n ≤ 999999999) (a0 : 0 ≤ a) (a1 : a ≤ s.size) (a2 : a ≤ 10) (c0 : 0 ≤ c) (c1 : c ≤ 9) (hs : s.size ≤ maxLen) (w : World) :
    Calls Tryd.prog 42 #[.int .i64 n, .string s, .int .i64 a, .int .i64 c] w fun e w' =>
      e = .returned (.tuple #[.int .i64 (rdv n s.data.toList a c), .int .i64 (a + (rdl s.data.toList a c : Nat))]) ∧ w = w' := by
  obtain ⟨A, rfl⟩ := Int.eq_ofNat_of_zero_le a0
  obtain ⟨C, rfl⟩ := Int.eq_ofNat_of_zero_le c0
  unfold maxLen at hs
  unfold rdv rdl
  rw [Int.toNat_natCast, Int.toNat_natCast]
  have sl : s.data.toList.length = s.size := by rw [Array.length_toList]; rfl
  obtain ⟨E, hE⟩ : ∃ E : Nat, E = min (A + C) s.size := ⟨_, rfl⟩
  have hm : min ((A : Int) + (C : Int)) (s.size : Int) = (E : Int) := by omega
  have E1 : (E : Int) ≤ A + C := by omega
  have E2 : (E : Int) ≤ s.size := by omega
  have E3 : (A : Int) ≤ E := by omega
  have HE := Lib.hid hE
  have SL := Lib.hid sl
  clear hE sl
  go_enter Tryd.func42, Tryd.ntmps42
  go_wp2
  go_loop [0, 2] (fun nv av => ∃ (j : Nat) (v : Int), DigK n s.data.toList A C j v ∧ A + j ≤ E ∧ nv = .int .i64 v ∧ av = .int .i64 ((A + j : Nat) : Int)) (fun _ av => E - (intOf av).toNat)
  case atStart => exact ⟨0, n, ⟨by omega, by have := SL.out; omega, fun i hi => by omega, by simp [vl]⟩, by omega, rfl, by go_num⟩
  case round =>
    obtain ⟨j, v, hK, hj, rfl, rfl⟩ := hrel
    obtain ⟨k, hk⟩ : ∃ k : Nat, k = A + j := ⟨_, rfl⟩
    have K := Lib.hid hK
    rw [← hk] at hj ⊢
    by_cases hlt : k < E
    · have hks : k < s.size := by omega
      have b := hK.bd n0 n1 (by have := HE.out; omega)
      obtain ⟨b0, b1⟩ := b
      have HK := Lib.hid hk
      clear hk hK
      by_cases hd : isd s[k] = true
      · obtain ⟨d1, d2⟩ := isd_t hd
        have D := Lib.hid hd
        clear hd
        go_wp2
        go_round
        case rel =>
          have hk := HK.out
          subst hk
          have S := DigK.succ K.out (by have := HE.out; omega) (by have := SL.out; omega) D.out
          exact ⟨j + 1, _, S, by omega, by go_num, by go_num⟩
        case measure => simp [intOf]; omega
      · have hd' : isd s[k] = false := by simpa using hd
        have D := Lib.hid hd'
        have hn := isd_f hd'
        clear hd hd'
        have R := DigK.done K.out (.inr (.inr ⟨by have := SL.out; have := HK.out; omega, by have hk := HK.out; subst hk; exact D.out⟩))
        have RR := Lib.hid R
        clear R
        by_cases h1 : (s[k].toNat : Int) < 48
        · go_wp2
          go_ret2
          exact ⟨ret_ii RR.out.2 (by have := RR.out.1; have := HK.out; omega), rfl⟩
        · have h2 : 57 < (s[k].toNat : Int) := by omega
          clear hn
          go_wp2
          go_ret2
          exact ⟨ret_ii RR.out.2 (by have := RR.out.1; have := HK.out; omega), rfl⟩
    · have R := DigK.done K.out (by have := HE.out; have := SL.out; omega)
      have RR := Lib.hid R
      have HK := Lib.hid hk
      clear R hk hK
      go_wp2
      go_ret2
      exact ⟨ret_ii RR.out.2 (by have := RR.out.1; have := HK.out; omega), rfl⟩

end Go.Proofs.YtlinfdgmebogbaaDoor
