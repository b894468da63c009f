
/- The walk of fixed.Parse. -/
import Derived.Test.YtlinfdgmebogbaaDoorFxC
import Derived.Outline
set_option linter.unusedVariables false
set_option linter.unusedSimpArgs false
namespace Go.Proofs.YtlinfdgmebogbaaDoor
open Go.RowKit

theorem scaled (v : Int) (f j : Nat) (h0 : 0 ≤ v) (h1 : v < 1000000000 * 10 ^ f) (hj : j + f < 6) : 0 ≤ v * 10 ^ j ∧ v * 10 ^ j ≤ 100000000000000 := by
  have p : (0 : Int) < 10 ^ j := Int.pow_pos (by decide)
  refine ⟨Int.mul_nonneg h0 (Int.le_of_lt p), ?_⟩
  have m : v * 10 ^ j ≤ 1000000000 * 10 ^ f * 10 ^ j := Int.mul_le_mul_of_nonneg_right (by omega) (Int.le_of_lt p)
  rw [Int.mul_assoc, ← Int.pow_add] at m
  have q := pow10_le (show f + j ≤ 5 by omega)
  have e : (10 : Int) ^ 5 = 100000 := by decide
  omega

/-- The value of the digits on both sides. -/
theorem both_bd (l : List UInt8) (h : pdot l = true) (hl : pw l < l.length) : 0 ≤ vl (vl 0 (l.take (pw l))) ((l.drop (pw l + 1)).take (pf l)) ∧ vl (vl 0 (l.take (pw l))) ((l.drop (pw l + 1)).take (pf l)) < 1000000000 * 10 ^ pf l := by
  obtain ⟨b0, b1⟩ := whole_bd l
  have e : pf l = rk (l.drop (pw l + 1)) 6 := if_pos h
  have le := (rk_le (l.drop (pw l + 1)) 6).2
  rw [← e] at le
  obtain ⟨x, y⟩ := vl_bd ((l.drop (pw l + 1)).take (pf l)) _ b0 (all_take _ _ le (fun i hi => rk_dig _ 6 i (by omega)))
  rw [List.length_take, Nat.min_eq_left le] at y
  refine ⟨by omega, Int.lt_of_lt_of_le y (Int.mul_le_mul_of_nonneg_right (by omega) (Int.le_of_lt (Int.pow_pos (by decide))))⟩

theorem pr_ok {l : List UInt8} (h : pend l = l.length) (h2 : pw l + pf l ≠ 0) : prv l = pnum l ∧ pre l = 0 := by
  have : pok l = true := by unfold pok; rw [decide_eq_true h, decide_eq_true h2]; rfl
  exact ⟨if_pos this, if_pos this⟩
theorem pr_no {l : List UInt8} (h : pend l ≠ l.length ∨ pw l + pf l = 0) : prv l = 0 ∧ pre l = 2 := by
  have : pok l = false := by
    unfold pok
    rcases h with h | h
    · rw [decide_eq_false h]; rfl
    · rw [decide_eq_false (show ¬ pw l + pf l ≠ 0 by omega), Bool.and_false]
  unfold prv pre
  rw [this]; exact ⟨rfl, rfl⟩

set_option maxRecDepth 100000 in
set_option maxHeartbeats 1000000 in
theorem fxParse (s : ByteArray) (hs : s.size ≤ maxLen) (w : World) :
    Calls Tryd.prog 40 #[.string s] w fun e w' => e = .returned (.tuple #[.int .i64 (prv s.data.toList), .int .i64 (pre s.data.toList)]) ∧ w = w' := by
  have sl : s.data.toList.length = s.size := by rw [Array.length_toList]; rfl
  have pb := pw_le s.data.toList
  obtain ⟨wb0, wb1⟩ := whole_bd s.data.toList
  have fb := pf_le s.data.toList
  have c1 := fun w => fxDigits 0 0 9 s (by omega) (by omega) (by omega) (by omega) (by omega) (by omega) (by omega) hs w
  have c0 := fun x y z u v => fxDigits (vl 0 (s.data.toList.take (pw s.data.toList))) ((pw s.data.toList : Nat) + 1) 6 s wb0 wb1 x y z u v hs
  have hm : s.size ≤ 9223372036854775807 := hs
  rw [show rdv 0 s.data.toList 0 9 = vl 0 (s.data.toList.take (pw s.data.toList)) by unfold rdv rdl; rfl, show rdl s.data.toList 0 9 = pw s.data.toList by unfold rdl; rfl] at c1
  have ok := @pr_ok s.data.toList
  have no := @pr_no s.data.toList
  rw [sl] at ok no
  by_cases hW : pw s.data.toList < s.size
  · have gd : s.data.toList.getD (pw s.data.toList) 0 = s[pw s.data.toList] := by rw [getD_of _ _ (by omega)]; rfl
    by_cases hp : s[pw s.data.toList] = 46
    · have d : pdot s.data.toList = true := by unfold pdot; rw [gd, hp, sl, decide_eq_true hW]; rfl
      have pe : pend s.data.toList = pw s.data.toList + 1 + pf s.data.toList := if_pos d
      have pfe : pf s.data.toList = rk (s.data.toList.drop (pw s.data.toList + 1)) 6 := if_pos d
      have c2 := fun w => c0 (by omega) (by omega) (by omega) (by omega) (by omega) w
      have tn : (((pw s.data.toList : Nat) : Int) + 1).toNat = pw s.data.toList + 1 := by omega
      have bb := both_bd s.data.toList d (by omega)
      have dt : (((s[pw s.data.toList]).toNat : Int) == 46) = true := by rw [hp]; decide
      have pn : pnum s.data.toList = vl (vl 0 (s.data.toList.take (pw s.data.toList))) ((s.data.toList.drop (pw s.data.toList + 1)).take (pf s.data.toList)) * 10 ^ (6 - pf s.data.toList) := rfl
      rw [show rdl s.data.toList ((pw s.data.toList : Nat) + 1) 6 = pf s.data.toList by unfold rdl; rw [tn]; exact pfe.symm,
        show rdv (vl 0 (s.data.toList.take (pw s.data.toList))) s.data.toList ((pw s.data.toList : Nat) + 1) 6 = vl (vl 0 (s.data.toList.take (pw s.data.toList))) ((s.data.toList.drop (pw s.data.toList + 1)).take (pf s.data.toList)) by
          unfold rdv rdl; rw [tn, pfe]; rfl] at c2
      have fl : pw s.data.toList + 1 + pf s.data.toList ≤ s.size := by have := (rk_le (s.data.toList.drop (pw s.data.toList + 1)) 6).2; rw [List.length_drop] at this; omega
      rw [pn] at ok
      rw [pe] at ok no
      have C1 := Lib.hid c1
      have C2 := Lib.hid c2
      have BB := Lib.hid bb
      clear c0 c1 c2 d pe pfe tn gd hp sl bb pn
      generalize vl (vl 0 (s.data.toList.take (pw s.data.toList))) ((s.data.toList.drop (pw s.data.toList + 1)).take (pf s.data.toList)) = X at *
      generalize vl 0 (s.data.toList.take (pw s.data.toList)) = V at *
      generalize prv s.data.toList = PV at *
      generalize pre s.data.toList = PE at *
      generalize pf s.data.toList = F at *
      generalize pw s.data.toList = P at *
      by_cases he : P + 1 + F < s.size
      · obtain ⟨rfl, rfl⟩ := no (.inl (by omega))
        clear no ok
        go_enter Tryd.func40, Tryd.ntmps40
        go_wp2_with (first | (go_at_call 42; ((with_reducible refine (C1.out _).mono ?_); rintro e w' ⟨rfl, rfl⟩)) | (go_at_call 42; ((with_reducible refine (C2.out _).mono ?_); rintro e w' ⟨rfl, rfl⟩)))
        go_ret2
        exact ⟨rfl, rfl⟩
      · by_cases hz : P + F = 0
        · obtain ⟨rfl, rfl⟩ := no (.inr hz)
          have sb : (P : Int) + 1 + (F : Int) - ((P : Int) + 1) = (F : Int) := by omega
          have dl : decide ((P : Int) + 1 + (F : Int) < (s.size : Int)) = false := decide_eq_false (by omega)
          have nz : (((P : Int) + (F : Int)) == 0) = true := by rw [beq_iff_eq]; omega
          clear no ok hz
          go_enter Tryd.func40, Tryd.ntmps40
          go_wp2_with (first | (go_at_call 42; ((with_reducible refine (C1.out _).mono ?_); rintro e w' ⟨rfl, rfl⟩)) | (go_at_call 42; ((with_reducible refine (C2.out _).mono ?_); rintro e w' ⟨rfl, rfl⟩)))
          go_ret2
          exact ⟨rfl, rfl⟩
        · obtain ⟨rfl, rfl⟩ := ok (by omega) hz
          have sb : (P : Int) + 1 + (F : Int) - ((P : Int) + 1) = (F : Int) := by omega
          have dl : decide ((P : Int) + 1 + (F : Int) < (s.size : Int)) = false := decide_eq_false (by omega)
          have nz : (((P : Int) + (F : Int)) == 0) = false := beq_eq_false_iff_ne.2 (by omega)
          clear no ok hz
          go_enter Tryd.func40, Tryd.ntmps40
          go_wp2_with (first | (go_at_call 42; ((with_reducible refine (C1.out _).mono ?_); rintro e w' ⟨rfl, rfl⟩)) | (go_at_call 42; ((with_reducible refine (C2.out _).mono ?_); rintro e w' ⟨rfl, rfl⟩)))
          go_loop [4, 48] (fun nv cv => ∃ j : Nat, j + F ≤ 6 ∧ nv = .int .i64 (X * 10 ^ j) ∧ cv = .int .i64 (j : Int)) (fun _ cv => 6 - F - (intOf cv).toNat)
          case atStart => exact ⟨0, by omega, by simp, rfl⟩
          case round =>
            obtain ⟨j, hj, rfl, rfl⟩ := hrel
            have xs : X * 10 ^ (j + 1) = X * 10 ^ j * 10 := by rw [Int.pow_succ, Int.mul_assoc]
            have XS := Lib.hid xs
            clear xs
            by_cases hlt : j + F < 6
            · have xb := scaled X F j BB.out.1 BB.out.2 hlt
              generalize X * 10 ^ j = Y at *
              go_wp2
              go_round
              case rel => exact ⟨j + 1, by omega, by rw [XS.out], by go_num⟩
              case measure => simp [intOf]; omega
            · obtain rfl : j = 6 - F := by omega
              obtain ⟨Y, hY⟩ : ∃ Y, X * 10 ^ (6 - F) = Y := ⟨_, rfl⟩
              rw [hY]
              have YE := Lib.hid hY.symm
              clear hY XS
              go_wp2
              go_ret2
              exact ⟨ret_ii YE.out rfl, rfl⟩
    · have d : pdot s.data.toList = false := by
        unfold pdot; rw [gd, show (s[pw s.data.toList] == 46) = false from beq_eq_false_iff_ne.2 hp, Bool.and_false]
      obtain ⟨f0, pe⟩ := pf_none d
      have dt : (((s[pw s.data.toList]).toNat : Int) == 46) = false := beq_eq_false_iff_ne.2 (fun h => hp (UInt8.toNat_inj.1 (by have : (46 : UInt8).toNat = 46 := rfl; omega)))
      obtain ⟨e1, e2⟩ := no (.inl (by omega))
      rw [e1, e2]
      have C1 := Lib.hid c1
      clear c0 c1 d pe gd hp sl no ok f0 e1 e2 fb
      generalize vl 0 (s.data.toList.take (pw s.data.toList)) = V at *
      generalize pw s.data.toList = P at *
      go_enter Tryd.func40, Tryd.ntmps40
      go_wp2_with (go_at_call 42; ((with_reducible refine (C1.out _).mono ?_); rintro e w' ⟨rfl, rfl⟩))
      go_ret2
      exact ⟨rfl, rfl⟩
  · have d : pdot s.data.toList = false := by unfold pdot; rw [sl, decide_eq_false hW]; rfl
    obtain ⟨f0, pe⟩ := pf_none d
    have C1 := Lib.hid c1
    have hb := vl_bd (s.data.toList.take (pw s.data.toList)) 0
    have pn : pnum s.data.toList = vl 0 (s.data.toList.take (pw s.data.toList)) * 10 ^ (6 - 0) := by unfold pnum; rw [f0]; simp [vl]
    rw [pn, pe, f0] at ok
    rw [pe, f0] at no
    have BB : Hid (0 ≤ vl 0 (s.data.toList.take (pw s.data.toList)) ∧ vl 0 (s.data.toList.take (pw s.data.toList)) < 1000000000 * 10 ^ 0) := Lib.hid ⟨wb0, by omega⟩
    clear c0 c1 d pe f0 fb hb pn
    generalize vl 0 (s.data.toList.take (pw s.data.toList)) = V at *
    generalize prv s.data.toList = PV at *
    generalize pre s.data.toList = PE at *
    generalize pw s.data.toList = P at *
    by_cases hz : P = 0
    · obtain ⟨rfl, rfl⟩ := no (.inr (by omega))
      subst hz
      clear no ok
      go_enter Tryd.func40, Tryd.ntmps40
      go_wp2_with (go_at_call 42; ((with_reducible refine (C1.out _).mono ?_); rintro e w' ⟨rfl, rfl⟩))
      go_ret2
      exact ⟨rfl, rfl⟩
    · obtain ⟨rfl, rfl⟩ := ok (by omega) (by omega)
      have nz : ((P : Int) == 0) = false := beq_eq_false_iff_ne.2 (by omega)
      clear no ok hz
      go_enter Tryd.func40, Tryd.ntmps40
      go_wp2_with (go_at_call 42; ((with_reducible refine (C1.out _).mono ?_); rintro e w' ⟨rfl, rfl⟩))
      go_loop [4, 48] (fun nv cv => ∃ j : Nat, j + 0 ≤ 6 ∧ nv = .int .i64 (V * 10 ^ j) ∧ cv = .int .i64 (j : Int)) (fun _ cv => 6 - 0 - (intOf cv).toNat)
      case atStart => exact ⟨0, by omega, by simp, rfl⟩
      case round =>
        obtain ⟨j, hj, rfl, rfl⟩ := hrel
        have xs : V * 10 ^ (j + 1) = V * 10 ^ j * 10 := by rw [Int.pow_succ, Int.mul_assoc]
        have XS := Lib.hid xs
        clear xs
        by_cases hlt : j + 0 < 6
        · have xb := scaled V 0 j BB.out.1 BB.out.2 hlt
          generalize V * 10 ^ j = Y at *
          go_wp2
          go_round
          case rel => exact ⟨j + 1, by omega, by rw [XS.out], by go_num⟩
          case measure => simp [intOf]; omega
        · obtain rfl : j = 6 - 0 := by omega
          have YE := Lib.hid (show V * 10 ^ (6 - 0) = V * 1000000 from rfl)
          generalize V * 10 ^ (6 - 0) = Y at *
          go_wp2
          go_ret2
          exact ⟨ret_ii YE.out rfl, rfl⟩

end Go.Proofs.YtlinfdgmebogbaaDoor
