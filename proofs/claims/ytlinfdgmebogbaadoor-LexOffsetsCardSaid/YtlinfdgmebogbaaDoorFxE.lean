
/- The walk of the specification's Parse. -/
import Derived.Test.YtlinfdgmebogbaaDoorFxD
import Derived.Test.YtlinfdgmebogbaaDoorFxB
set_option linter.unusedVariables false
set_option linter.unusedSimpArgs false
namespace Go.Proofs.YtlinfdgmebogbaaDoor
open Go.RowKit

def isdI (c : Int) : Bool := decide (48 ≤ c ∧ c ≤ 57)

theorem rxDigit (c : Int) (w : World) : Calls Tryd.prog 38 #[.int .u8 c] w fun e w' => e = .returned (.bool (isdI c)) ∧ w = w' := by
  by_cases h1 : c < 48
  · rw [show isdI c = false from decide_eq_false (by omega)]
    go_enter Tryd.func38, Tryd.ntmps38
    go_wp2
    go_ret
    exact ⟨ret_bl (by first | rfl | (simp; omega)), rfl⟩
  · by_cases h2 : 57 < c
    · rw [show isdI c = false from decide_eq_false (by omega)]
      go_enter Tryd.func38, Tryd.ntmps38
      go_wp2
      go_ret
      exact ⟨ret_bl (by first | rfl | (simp; omega)), rfl⟩
    · rw [show isdI c = true from decide_eq_true (by omega)]
      go_enter Tryd.func38, Tryd.ntmps38
      go_wp2
      go_ret
      exact ⟨ret_bl (by first | rfl | (simp; omega)), rfl⟩

/-! ### what the scan knows -/

/-- No point yet. -/
def ScA (l : List UInt8) (i : Nat) (v : Int) : Prop := DigK 0 l 0 9 i v
/-- Behind the point. -/
def ScB (l : List UInt8) (p j : Nat) (v : Int) : Prop := pw l = p ∧ p < l.length ∧ pdot l = true ∧ DigK (vl 0 (l.take p)) l (p + 1) 6 j v

theorem ScA.done {l : List UInt8} {i : Nat} {v : Int} (h : ScA l i v) (e : i = 9 ∨ i = l.length ∨ ∃ h : i < l.length, isd l[i] = false) : pw l = i ∧ v = vl 0 (l.take i) := by
  have r := DigK.done h (by
    rcases e with e | e | ⟨e, f⟩
    · exact .inl e
    · exact .inr (.inl (by omega))
    · exact .inr (.inr ⟨by omega, by simpa using f⟩))
  have r1 : pw l = i := by have := r.1; rwa [List.drop_zero] at this
  refine ⟨r1, ?_⟩
  have r2 := r.2
  rw [r.1, List.drop_zero] at r2
  exact r2

theorem ScA.none {l : List UInt8} {i : Nat} (e : pw l = i) (h : ∀ h : i < l.length, l[i] ≠ 46) : pend l = i ∧ pf l = 0 := by
  have d : pdot l = false := by
    unfold pdot
    by_cases c : i < l.length
    · rw [e, getD_of _ _ c, show (l[i] == 46) = false from beq_eq_false_iff_ne.2 (h c), Bool.and_false]
    · rw [e, decide_eq_false c]; rfl
  obtain ⟨x, y⟩ := pf_none d
  exact ⟨by omega, x⟩

theorem ScA.stop {l : List UInt8} {i : Nat} {v : Int} (h : ScA l i v) (hi : i < l.length) (n46 : l[i] ≠ 46) (e : i = 9 ∨ isd l[i] = false) : prv l = 0 ∧ pre l = 2 := by
  obtain ⟨a, b⟩ := h.done (by rcases e with e | e; exact .inl e; exact .inr (.inr ⟨hi, e⟩))
  obtain ⟨c, d⟩ := ScA.none a (fun _ => n46)
  exact pr_no (.inl (by omega))

theorem ScA.fin {l : List UInt8} {i : Nat} {v : Int} (h : ScA l i v) (hi : i = l.length) : (i = 0 → prv l = 0 ∧ pre l = 2) ∧ (i ≠ 0 → prv l = v * 10 ^ (6 - 0) ∧ pre l = 0) ∧ 0 ≤ v ∧ v < 1000000000 * 10 ^ 0 := by
  obtain ⟨a, b⟩ := h.done (.inr (.inl hi))
  obtain ⟨c, d⟩ := ScA.none a (fun h => by omega)
  have wb := whole_bd l
  rw [a, ← b] at wb
  refine ⟨fun h => pr_no (.inr (by omega)), fun h => ?_, wb.1, by omega⟩
  obtain ⟨x, y⟩ := pr_ok (show pend l = l.length by omega) (by omega)
  refine ⟨x.trans ?_, y⟩
  unfold pnum
  rw [a, d, ← b]; rfl

theorem ScA.point {l : List UInt8} {i : Nat} {v : Int} (h : ScA l i v) (hi : i < l.length) (e : l[i] = 46) : ScB l i 0 v := by
  obtain ⟨a, b⟩ := h.done (.inr (.inr ⟨hi, by rw [e]; decide⟩))
  refine ⟨a, hi, ?_, ⟨by omega, by omega, fun i hi => by omega, by simpa [vl] using b⟩⟩
  unfold pdot; rw [a, getD_of _ _ hi, e, decide_eq_true hi]; rfl

theorem ScB.done {l : List UInt8} {p j : Nat} {v : Int} (h : ScB l p j v) (e : j = 6 ∨ p + 1 + j = l.length ∨ ∃ h : p + 1 + j < l.length, isd l[p + 1 + j] = false) :
    pf l = j ∧ pend l = p + 1 + j ∧ v = vl (vl 0 (l.take p)) ((l.drop (p + 1)).take j) := by
  obtain ⟨a, _, d, k⟩ := h
  have r := k.done e
  have f : pf l = j := by unfold pf; rw [if_pos d, a]; exact r.1
  refine ⟨f, by unfold pend; rw [if_pos d, a, f], ?_⟩
  have r2 := r.2
  rw [r.1] at r2
  exact r2

theorem ScB.stop {l : List UInt8} {p j : Nat} {v : Int} (h : ScB l p j v) (hi : p + 1 + j < l.length) (e : j = 6 ∨ isd l[p + 1 + j] = false) : prv l = 0 ∧ pre l = 2 := by
  obtain ⟨a, b, c⟩ := h.done (by rcases e with e | e; exact .inl e; exact .inr (.inr ⟨hi, e⟩))
  exact pr_no (.inl (by omega))

theorem ScB.fin {l : List UInt8} {p j : Nat} {v : Int} (h : ScB l p j v) (hi : p + 1 + j = l.length) : (p + j = 0 → prv l = 0 ∧ pre l = 2) ∧ (p + j ≠ 0 → prv l = v * 10 ^ (6 - j) ∧ pre l = 0) ∧ 0 ≤ v ∧ v < 1000000000 * 10 ^ j := by
  obtain ⟨a, b, c⟩ := h.done (.inr (.inl hi))
  obtain ⟨w, wl, d, k⟩ := h
  have bb := both_bd l d (by omega)
  rw [w, a, ← c] at bb
  refine ⟨fun h => pr_no (.inr (by omega)), fun h => ?_, bb.1, bb.2⟩
  obtain ⟨x, y⟩ := pr_ok (show pend l = l.length by omega) (by omega)
  refine ⟨x.trans ?_, y⟩
  unfold pnum
  rw [w, a, ← c]

/-- After some rounds. -/
def ScanK (l : List UInt8) (wv pv tv nv iv : Value) : Prop :=
  (∃ i v, ScA l i v ∧ wv = .int .i64 (i : Nat) ∧ pv = .int .i64 0 ∧ tv = .bool false ∧ nv = .int .i64 v ∧ iv = .int .i64 (i : Nat)) ∨
  (∃ p j v, ScB l p j v ∧ wv = .int .i64 (p : Nat) ∧ pv = .int .i64 (j : Nat) ∧ tv = .bool true ∧ nv = .int .i64 v ∧ iv = .int .i64 ((p + 1 + j : Nat) : Int))

set_option maxRecDepth 100000 in
set_option maxHeartbeats 1000000 in
theorem rxParse (s : ByteArray) (hs : s.size ≤ maxLen) (w : World) :
    Calls Tryd.prog 28 #[.string s] w fun e w' => e = .returned (.tuple #[.int .i64 (prv s.data.toList), .int .i64 (pre s.data.toList)]) ∧ w = w' := by
  have sl : s.data.toList.length = s.size := by rw [Array.length_toList]; rfl
  have hm : s.size ≤ 9223372036854775807 := hs
  have SL := Lib.hid sl
  clear sl
  go_enter Tryd.func28, Tryd.ntmps28
  go_wp2
  go_loop [4, 5, 6, 7, 8] (fun wv pv tv nv iv => ScanK s.data.toList wv pv tv nv iv) (fun _ _ _ _ iv => s.size - (intOf iv).toNat)
  case atStart => exact .inl ⟨0, 0, ⟨by omega, by omega, fun i hi => by omega, by simp [vl]⟩, rfl, rfl, rfl, rfl, rfl⟩
  case round =>
    rcases hrel with ⟨i, v, hK, rfl, rfl, rfl, rfl, rfl⟩ | ⟨p, f, v, hK, rfl, rfl, rfl, rfl, rfl⟩
    · have K := Lib.hid hK
      have i9 : i ≤ 9 := hK.1
      have il : i ≤ s.size := by have := hK.2.1; have := SL.out; omega
      by_cases hlt : i < s.size
      · have gl : s.data.toList[i]'(by have := SL.out; omega) = s[i] := rfl
        by_cases h46 : s[i] = 46
        · have dt : ((s[i].toNat : Int) == 46) = true := by rw [h46]; decide
          have P := Lib.hid (hK.point (by have := SL.out; omega) (by rw [gl]; exact h46))
          have di : isdI (s[i].toNat : Int) = false := by rw [h46]; decide
          clear hK gl h46 K
          go_wp2_with (go_at_call 38; ((with_reducible refine (rxDigit _ _).mono ?_); rintro e w' ⟨rfl, rfl⟩))
          go_round
          case rel => exact .inr ⟨i, 0, v, P.out, rfl, rfl, rfl, rfl, by go_num⟩
          case measure => simp [intOf]; omega
        · have dt : ((s[i].toNat : Int) == 46) = false := beq_eq_false_iff_ne.2 (fun h => h46 (UInt8.toNat_inj.1 (by have : (46 : UInt8).toNat = 46 := rfl; omega)))
          by_cases hd : isd s[i] = true
          · have di : isdI (s[i].toNat : Int) = true := hd
            obtain ⟨d1, d2⟩ := isd_t hd
            by_cases h9 : i = 9
            · have ST := hK.stop (by have := SL.out; omega) (by rw [gl]; exact h46) (.inl h9)
              have S2 := Lib.hid ST
              have g9 : 9 < i + 1 := by omega
              clear hK gl h46 K hd h9 ST
              go_wp2_with (go_at_call 38; ((with_reducible refine (rxDigit _ _).mono ?_); rintro e w' ⟨rfl, rfl⟩))
              go_ret2
              exact ⟨ret_ii S2.out.1.symm S2.out.2.symm, rfl⟩
            · have S := hK.succ (by omega) (by have := SL.out; omega) (by simpa [gl] using hd)
              simp only [Nat.zero_add, gl] at S
              have S2 := Lib.hid S
              have b := hK.bd (by omega) (by omega) (by omega)
              have g9 : i + 1 ≤ 9 := by omega
              clear hK gl h46 K hd h9 S
              go_wp2_with (go_at_call 38; ((with_reducible refine (rxDigit _ _).mono ?_); rintro e w' ⟨rfl, rfl⟩))
              go_round
              case rel => exact .inl ⟨i + 1, _, S2.out, by go_num, rfl, rfl, by go_num, by go_num⟩
              case measure => simp [intOf]; omega
          · have hd' : isd s[i] = false := by simpa using hd
            have di : isdI (s[i].toNat : Int) = false := hd'
            have S2 := Lib.hid (hK.stop (by have := SL.out; omega) (by rw [gl]; exact h46) (.inr (by rw [gl]; exact hd')))
            clear hK gl h46 K hd hd'
            go_wp2_with (go_at_call 38; ((with_reducible refine (rxDigit _ _).mono ?_); rintro e w' ⟨rfl, rfl⟩))
            go_ret2
            exact ⟨ret_ii S2.out.1.symm S2.out.2.symm, rfl⟩
      · obtain ⟨f0, f1, f2, f3⟩ := hK.fin (by have := SL.out; omega)
        clear hK K
        by_cases z : i = 0
        · have S2 := Lib.hid (f0 z)
          have zb : ((i : Int) == 0) = true := by rw [beq_iff_eq]; omega
          clear f0 f1 z
          go_wp2
          go_ret2
          exact ⟨ret_ii S2.out.1.symm S2.out.2.symm, rfl⟩
        · have S2 := Lib.hid (f1 z)
          have zb : ((i : Int) == 0) = false := beq_eq_false_iff_ne.2 (by omega)
          have BB := Lib.hid (And.intro f2 f3)
          clear f0 f1 z f2 f3
          go_wp2
          go_loop [5, 7] (fun pv nv => ∃ j : Nat, j + 0 ≤ 6 ∧ nv = .int .i64 (v * 10 ^ j) ∧ pv = .int .i64 ((0 + j : Nat) : Int)) (fun pv _ => 6 - (intOf pv).toNat)
          case atStart => exact ⟨0, by omega, by simp, by go_num⟩
          case round =>
            obtain ⟨j, hj, rfl, rfl⟩ := hrel
            have xs : v * 10 ^ (j + 1) = 10 * (v * 10 ^ j) := by rw [Int.pow_succ, ← Int.mul_assoc, Int.mul_comm]
            have XS := Lib.hid xs
            clear xs
            obtain ⟨q, hq⟩ : ∃ q : Nat, q = 0 + j := ⟨_, rfl⟩
            rw [← hq]
            by_cases hlt : q < 6
            · have xb := scaled v 0 j BB.out.1 BB.out.2 (by omega)
              have HQ := Lib.hid hq
              clear hq hj
              generalize v * 10 ^ j = Y at *
              go_wp2
              go_round
              case rel => exact ⟨j + 1, by have := HQ.out; omega, by rw [XS.out], by rw [HQ.out]; go_num⟩
              case measure => simp [intOf]; omega
            · obtain rfl : j = 6 - 0 := by omega
              clear hq hj
              obtain ⟨Y, hY⟩ : ∃ Y, v * 10 ^ (6 - 0) = Y := ⟨_, rfl⟩
              rw [hY]
              have YE := Lib.hid hY.symm
              clear hY XS
              go_wp2
              go_ret2
              exact ⟨ret_ii (YE.out.trans S2.out.1.symm) S2.out.2.symm, rfl⟩
    · have K := Lib.hid hK
      obtain ⟨hw, hwl, hdt, hD⟩ := hK
      have p9 : p ≤ 9 := by have := pw_le s.data.toList; omega
      have f6 : f ≤ 6 := hD.1
      have jl : p + 1 + f ≤ s.size := by have := hD.2.1; have := SL.out; omega
      have wb := whole_bd s.data.toList
      rw [hw] at wb
      obtain ⟨wb0, wb1⟩ := wb
      obtain ⟨k, hk⟩ : ∃ k : Nat, k = p + 1 + f := ⟨_, rfl⟩
      rw [← hk] at jl ⊢
      clear hw hwl hdt
      by_cases hlt : k < s.size
      · have gl : s.data.toList[k]'(by have := SL.out; omega) = s[k] := rfl
        by_cases hd : isd s[k] = true
        · have di : isdI (s[k].toNat : Int) = true := hd
          obtain ⟨d1, d2⟩ := isd_t hd
          have dt : ((s[k].toNat : Int) == 46) = false := beq_eq_false_iff_ne.2 (by omega)
          by_cases h6 : f = 6
          · have S2 := Lib.hid (K.out.stop (by have := SL.out; omega) (.inl h6))
            have g6 : 6 < f + 1 := by omega
            have HK := Lib.hid hk
            clear hk gl hd h6 hD K wb0 wb1
            go_wp2_with (go_at_call 38; ((with_reducible refine (rxDigit _ _).mono ?_); rintro e w' ⟨rfl, rfl⟩))
            go_ret2
            exact ⟨ret_ii S2.out.1.symm S2.out.2.symm, rfl⟩
          · have S : DigK (vl 0 (s.data.toList.take p)) s.data.toList (p + 1) 6 (f + 1) (v * 10 + ((s[k].toNat : Int) - 48)) := by
              subst hk
              exact hD.succ (by omega) (by have := SL.out; omega) hd
            have S2 : Hid (ScB s.data.toList p (f + 1) (v * 10 + ((s[k].toNat : Int) - 48))) := Lib.hid ⟨K.out.1, K.out.2.1, K.out.2.2.1, S⟩
            have b := hD.bd wb0 wb1 (by omega)
            have g6 : f + 1 ≤ 6 := by omega
            have HK := Lib.hid hk
            clear hk gl hd h6 hD K S wb0 wb1
            go_wp2_with (go_at_call 38; ((with_reducible refine (rxDigit _ _).mono ?_); rintro e w' ⟨rfl, rfl⟩))
            go_round
            case rel => exact .inr ⟨p, f + 1, _, S2.out, rfl, by go_num, rfl, by go_num, by rw [HK.out]; go_num⟩
            case measure => simp [intOf]; omega
        · have hd' : isd s[k] = false := by simpa using hd
          have di : isdI (s[k].toNat : Int) = false := hd'
          have S2 := Lib.hid (K.out.stop (by have := SL.out; omega) (.inr (by subst hk; exact hd')))
          clear hk gl hd hd' hD K wb0 wb1
          by_cases h46 : s[k] = 46
          · have dt : ((s[k].toNat : Int) == 46) = true := by rw [h46]; decide
            clear h46
            go_wp2_with (go_at_call 38; ((with_reducible refine (rxDigit _ _).mono ?_); rintro e w' ⟨rfl, rfl⟩))
            go_ret2
            exact ⟨ret_ii S2.out.1.symm S2.out.2.symm, rfl⟩
          · have dt : ((s[k].toNat : Int) == 46) = false := beq_eq_false_iff_ne.2 (fun h => h46 (UInt8.toNat_inj.1 (by have : (46 : UInt8).toNat = 46 := rfl; omega)))
            clear h46
            go_wp2_with (go_at_call 38; ((with_reducible refine (rxDigit _ _).mono ?_); rintro e w' ⟨rfl, rfl⟩))
            go_ret2
            exact ⟨ret_ii S2.out.1.symm S2.out.2.symm, rfl⟩
      · obtain ⟨f0, f1, f2, f3⟩ := K.out.fin (by have := SL.out; omega)
        clear hD K wb0 wb1
        by_cases z : p + f = 0
        · have S2 := Lib.hid (f0 z)
          have zb : ((p : Int) + (f : Int) == 0) = true := by rw [beq_iff_eq]; omega
          have HK := Lib.hid hk
          clear f0 f1 z hk
          go_wp2
          go_ret2
          exact ⟨ret_ii S2.out.1.symm S2.out.2.symm, rfl⟩
        · have S2 := Lib.hid (f1 z)
          have zb : ((p : Int) + (f : Int) == 0) = false := beq_eq_false_iff_ne.2 (by omega)
          have BB := Lib.hid (And.intro f2 f3)
          have HK := Lib.hid hk
          clear f0 f1 z f2 f3 hk
          go_wp2
          go_loop [5, 7] (fun pv nv => ∃ j : Nat, j + f ≤ 6 ∧ nv = .int .i64 (v * 10 ^ j) ∧ pv = .int .i64 ((f + j : Nat) : Int)) (fun pv _ => 6 - (intOf pv).toNat)
          case atStart => exact ⟨0, by omega, by simp, by go_num⟩
          case round =>
            obtain ⟨j, hj, rfl, rfl⟩ := hrel
            have xs : v * 10 ^ (j + 1) = 10 * (v * 10 ^ j) := by rw [Int.pow_succ, ← Int.mul_assoc, Int.mul_comm]
            have XS := Lib.hid xs
            clear xs
            obtain ⟨q, hq⟩ : ∃ q : Nat, q = f + j := ⟨_, rfl⟩
            rw [← hq]
            by_cases hlt : q < 6
            · have xb := scaled v f j BB.out.1 BB.out.2 (by omega)
              have HQ := Lib.hid hq
              clear hq hj
              generalize v * 10 ^ j = Y at *
              go_wp2
              go_round
              case rel => exact ⟨j + 1, by have := HQ.out; omega, by rw [XS.out], by rw [HQ.out]; go_num⟩
              case measure => simp [intOf]; omega
            · obtain rfl : j = 6 - f := by omega
              clear hq hj
              obtain ⟨Y, hY⟩ : ∃ Y, v * 10 ^ (6 - f) = Y := ⟨_, rfl⟩
              rw [hY]
              have YE := Lib.hid hY.symm
              clear hY XS
              go_wp2
              go_ret2
              exact ⟨ret_ii (YE.out.trans S2.out.1.symm) S2.out.2.symm, rfl⟩

end Go.Proofs.YtlinfdgmebogbaaDoor
