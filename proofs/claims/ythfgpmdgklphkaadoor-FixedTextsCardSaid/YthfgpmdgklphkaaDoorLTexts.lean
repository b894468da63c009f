
/- FixedTexts: an accepted text has a digit, at most one point and no other bytes, and zeros at both ends do not matter.
   Conditions: the listed tables lie as the program's own text lays them (the card ties them); every input. -/
import Derived.Test.YthfgpmdgklphkaaDoorFrameL
import Derived.Test.YthfgpmdgklphkaaDoorFxL
import Derived.Test.YthfgpmdgklphkaaDoorFxM
import Derived.Test.YthfgpmdgklphkaaDoorText
import Derived.Test.YthfgpmdgklphkaaDoorFrameI
import Derived.Test.YthfgpmdgklphkaaDoorFxT
set_option linter.unusedVariables false
set_option linter.unusedSimpArgs false
namespace Go.Proofs.YthfgpmdgklphkaaDoor
open Go.ChangeShapes Go.WideShapes Go.ChangeAt Go.RowKit

theorem snoc_counts (s : ByteArray) (k : Nat) (h : k < s.size) :
    (isd s[k] = true → cd (s.data.toList.take (k + 1)) = cd (s.data.toList.take k) + 1 ∧ cp (s.data.toList.take (k + 1)) = cp (s.data.toList.take k) ∧ co (s.data.toList.take (k + 1)) = co (s.data.toList.take k) ∧ ct 0 (s.data.toList.take (k + 1)) = ct 0 (s.data.toList.take k) + cp (s.data.toList.take k)) ∧
    (s[k] = 46 → cd (s.data.toList.take (k + 1)) = cd (s.data.toList.take k) ∧ cp (s.data.toList.take (k + 1)) = cp (s.data.toList.take k) + 1 ∧ co (s.data.toList.take (k + 1)) = co (s.data.toList.take k) ∧ ct 0 (s.data.toList.take (k + 1)) = ct 0 (s.data.toList.take k)) ∧
    (isd s[k] = false → s[k] ≠ 46 → cd (s.data.toList.take (k + 1)) = cd (s.data.toList.take k) ∧ cp (s.data.toList.take (k + 1)) = cp (s.data.toList.take k) ∧ co (s.data.toList.take (k + 1)) = co (s.data.toList.take k) + 1 ∧ ct 0 (s.data.toList.take (k + 1)) = ct 0 (s.data.toList.take k)) := by
  have sl : s.data.toList.length = s.size := by rw [Array.length_toList]; rfl
  have e : s.data.toList.take (k + 1) = s.data.toList.take k ++ [s[k]] := by rw [List.take_succ_eq_append_getElem (by omega)]; rfl
  rw [e, cd_append, cp_append, co_append, ct_append]
  generalize s[k] = c
  have n : ¬ isd 46 = true := by decide
  refine ⟨fun h => ?_, fun h => ?_, fun h g => ?_⟩
  · simp only [cd, cp, co, ct, h, if_true]; omega
  · subst h
    simp only [cd, cp, co, ct, if_neg n, if_true]; omega
  · have h' : ¬ isd c = true := by rw [h]; decide
    simp only [cd, cp, co, ct, if_neg h', if_neg g]; omega

theorem zero_size (X : ByteArray) (h : X.size ≤ 1011) : (({ data := #[48] } : ByteArray) ++ X).size ≤ maxLen := by
  have : (({ data := #[48] } : ByteArray) ++ X).size = 1 + X.size := by rw [ByteArray.size_append]; rfl
  rw [this]
  exact Nat.le_trans (Nat.add_le_add_left h 1) (by decide)

/-- What the counts of a text say of what Parse returns. -/
theorem parse_counts (l : List UInt8) : (pre l = 0 ∧ 0 < cd l ∧ cp l ≤ 1 ∧ co l = 0 ∧ cd l - ct 0 l ≤ 9 ∧ ct 0 l ≤ 6 ∧ 0 ≤ prv l ∧ (cd l - ct 0 l < 9 → prv (48 :: l) = prv l ∧ pre (48 :: l) = 0)) ∨
    (pre l = 2 ∧ prv l = 0 ∧ ¬ (0 < cd l ∧ cp l ≤ 1 ∧ co l = 0 ∧ cd l - ct 0 l ≤ 9 ∧ ct 0 l ≤ 6)) := by
  have k := pok_counts l
  cases h : pok l
  · right
    rw [h] at k
    refine ⟨by unfold pre; rw [h]; rfl, by unfold prv; rw [h]; rfl, fun x => by have := k.2 x; contradiction⟩
  · left
    obtain ⟨a, b, c, d, e⟩ := k.1 h
    obtain ⟨x, y⟩ := pok_zero h
    exact ⟨if_pos h, a, b, c, d, e, x, y⟩

set_option maxHeartbeats 2000000 in
set_option maxRecDepth 100000 in
theorem walk_fixedTexts (s : ByteArray) (hs : s.size ≤ maxLen) (v : Value) (zs : List Int) (w : World) (hz : IntsB w.heap.size w v zs) (ht : Tb w) : Calls Tryd.prog 10 #[.string s, v] w fun e w' => e = .returned (.bool true) ∧ Below w.heap.size w w' := by
  have q0 := Qw.refl w
  have HT := Lib.hid ht
  clear ht
  have hm : s.size ≤ 9223372036854775807 := hs
  have lg := fun w' (h : Qw w w') => lightF v zs w.heap.size w' (hz.kept h (Nat.le_refl _))
  have nw := newF v zs w hz
  have tl := txl_len zs 0
  obtain ⟨T, hT⟩ : ∃ T : ByteArray, T = ⟨(txl zs 0).toArray⟩ := ⟨_, rfl⟩
  have ts : T.size ≤ 1011 := by rw [hT, mk_size]; exact tl
  have nx := fun w' h => nextF w.heap.size v zs 0 3 (by omega) (by omega) w' h
  have nb := nxt_bd zs 0 3 (by omega)
  obtain ⟨r, hr⟩ : ∃ r, nxt zs 0 3 = r := ⟨_, rfl⟩
  rw [hr] at nx nb
  obtain ⟨nb0, nb1⟩ := nb
  have NW := Lib.hid nw
  have NX := Lib.hid nx
  have LG := Lib.hid lg
  have HZ := Lib.hid hz
  have HTT := Lib.hid hT
  clear nw nx lg tl hT hz hr
  by_cases h1 : 100 < s.size
  · have h1i : (100 : Int) < (s.size : Int) := by omega
    have h1b : decide ((100 : Int) < (s.size : Int)) = true := decide_eq_true h1i
    go_enter Tryd.func10, Tryd.ntmps10
    go_wp2_with fail
    refine (awakeF _ (HT.out.kept q0)).mono ?_
    rintro e w' ⟨rfl, h⟩
    replace q0 := Qw.trans q0 h
    go_wp2
    go_ret
    exact ⟨rfl, q0⟩
  · have h1' : s.size ≤ 100 := by omega
    by_cases h2 : zs.length ≤ 120
    · have d2 : decide (zs.length ≤ 120) = true := decide_eq_true h2
      by_cases hr0 : 0 < r
      · have px := fun w => fxParse T (Nat.le_trans ts (by decide)) w
        have zx : (({ data := #[48] } : ByteArray) ++ T).data.toList = 48 :: T.data.toList := by rw [ByteArray.data_append]; simp
        have p0 := fun w => fxParse (({ data := #[48] } : ByteArray) ++ T) (zero_size T ts) w
        rw [zx] at p0
        have pk := parse_counts T.data.toList
        have PX := Lib.hid px
        have P0 := Lib.hid p0
        have PK := Lib.hid pk
        clear px p0 pk zx
        go_enter Tryd.func10, Tryd.ntmps10
        go_wp2_with fail
        refine (LG.out _ q0).mono ?_
        rintro e w' ⟨rfl, rfl⟩
        go_wp2_with fail
        refine NW.out.mono ?_
        rintro e w1 ⟨rfl, h1, q1⟩
        have TP := Lib.hid h1
        clear h1
        go_wp2_with fail
        refine (NX.out _ TP.out).mono ?_
        rintro e w2 ⟨rfl, _, q2⟩
        have qw2 : Qw w w2 := Below.trans q1 q2
        have hsz := qw2.size
        have nw2 := newF v zs w2 (HZ.out.kept qw2 (Nat.le_refl _) |>.mono hsz)
        have NW2 := Lib.hid nw2
        clear nw2
        go_wp2_with fail
        refine NW2.out.mono ?_
        rintro e w3 ⟨rfl, h3, q3⟩
        have tx := textF w2.heap.size v zs 0 w3 h3
        rw [← HTT.out] at tx
        have TX := Lib.hid tx
        clear tx h3
        go_wp2_with fail
        refine TX.out.mono ?_
        rintro e w4 ⟨rfl, _, q4⟩
        replace q0 : Qw w w4 := Qw.trans qw2 (Below.trans q3 q4)
        clear q1 q2 qw2 hsz q3 q4
        go_wp2_with fail
        refine (PX.out _).mono ?_
        rintro e w' ⟨rfl, rfl⟩
        go_wp2
        go_loop [7, 8, 9, 10, 11] (fun dv pv ov tv iv => ∃ k : Nat, k ≤ T.size ∧ dv = .int .i64 (cd (T.data.toList.take k)) ∧ pv = .int .i64 (cp (T.data.toList.take k)) ∧ ov = .int .i64 (co (T.data.toList.take k)) ∧ tv = .int .i64 (ct 0 (T.data.toList.take k)) ∧ iv = .int .i64 k) (fun _ _ _ _ iv => T.size - (intOf iv).toNat)
        case atStart => exact ⟨0, Nat.zero_le _, rfl, rfl, rfl, rfl, rfl⟩
        case round =>
          obtain ⟨k, hk, rfl, rfl, rfl, rfl, rfl⟩ := hrel
          obtain ⟨c0, c1, c2, c3, c4⟩ := counts_pos (T.data.toList.take k)
          have c5 := ct_le (T.data.toList.take k) 0 (by omega)
          have c6 := c3 0 (by omega)
          have lk : (T.data.toList.take k).length = k := by rw [List.length_take, Array.length_toList]; exact Nat.min_eq_left hk
          rw [lk] at c4 c5
          have k2 : (k : Int) ≤ 1011 := by omega
          have c7 : (0 + (k : Int)) * k ≤ 1011 * 1011 := Int.mul_le_mul (by omega) k2 (by omega) (by omega)
          have c8 : ct 0 (T.data.toList.take k) ≤ 1022121 := by omega
          clear c3 c5 c7 lk
          by_cases hlt : k < T.size
          · have sn := snoc_counts T k hlt
            have SN := Lib.hid sn
            clear sn
            generalize cd (T.data.toList.take k) = d at *
            generalize cp (T.data.toList.take k) = p at *
            generalize co (T.data.toList.take k) = o at *
            generalize ct 0 (T.data.toList.take k) = t at *
            by_cases hd : isd T[k] = true
            · obtain ⟨i1, i2⟩ := isd_t hd
              have S := Lib.hid (SN.out.1 hd)
              clear hd SN
              go_wp2
              go_round
              case rel => exact ⟨k + 1, by omega, by rw [S.out.1], by rw [S.out.2.1], by rw [S.out.2.2.1], by rw [S.out.2.2.2], by go_num⟩
              case measure => simp [intOf]; omega
            · have hd' : isd T[k] = false := by simpa using hd
              have nf := isd_f hd'
              by_cases h46 : T[k] = 46
              · have S := Lib.hid (SN.out.2.1 h46)
                have dt : ((T[k].toNat : Int) == 46) = true := by rw [h46]; decide
                have lo : (T[k].toNat : Int) < 48 := by rw [h46]; decide
                clear hd hd' nf h46 SN
                go_wp2
                go_round
                case rel => exact ⟨k + 1, by omega, by rw [S.out.1], by rw [S.out.2.1], by rw [S.out.2.2.1], by rw [S.out.2.2.2], by go_num⟩
                case measure => simp [intOf]; omega
              · have S := Lib.hid (SN.out.2.2 hd' h46)
                have dt : ((T[k].toNat : Int) == 46) = false := beq_eq_false_iff_ne.2 (fun h => h46 (UInt8.toNat_inj.1 (by have : (46 : UInt8).toNat = 46 := rfl; omega)))
                clear hd hd' h46 SN
                by_cases lo : (T[k].toNat : Int) < 48
                · clear nf
                  go_wp2
                  go_round
                  case rel => exact ⟨k + 1, by omega, by rw [S.out.1], by rw [S.out.2.1], by rw [S.out.2.2.1], by rw [S.out.2.2.2], by go_num⟩
                  case measure => simp [intOf]; omega
                · have hi : 57 < (T[k].toNat : Int) := by omega
                  clear nf
                  go_wp2
                  go_round
                  case rel => exact ⟨k + 1, by omega, by rw [S.out.1], by rw [S.out.2.1], by rw [S.out.2.2.1], by rw [S.out.2.2.2], by go_num⟩
                  case measure => simp [intOf]; omega
          · obtain rfl : k = T.size := by omega
            have tk : T.data.toList.take T.size = T.data.toList := List.take_of_length_le (by rw [Array.length_toList]; exact Nat.le_refl _)
            rw [tk] at c0 c1 c2 c4 c6 c8
            rw [tk]
            clear hlt tk hk
            generalize cd T.data.toList = d at *
            generalize cp T.data.toList = p at *
            generalize co T.data.toList = o at *
            generalize ct 0 T.data.toList = t at *
            have AWK : ∀ w' (q : Qw w w'), Calls Tryd.prog 18 #[] w' fun e w' => e = .returned (.bool true) ∧ Qw w w' := fun w' q => (awakeF w' (HT.out.kept q)).mono fun _ _ ⟨h, k⟩ => ⟨h, Qw.trans q k⟩
            have AWH := Lib.hid AWK
            clear AWK
            rcases PK.out with ⟨pe, g1, g2, g3, g4, g5, g6, g7⟩ | ⟨pe, pv, hno⟩
            · rw [pe] at *
              have p01 : p = 0 ∨ p = 1 := by omega
              by_cases g9 : d - t < 9
              · obtain ⟨z1, z2⟩ := g7 g9
                have p0 := P0.out
                rw [z1, z2] at p0
                have P1 := Lib.hid p0
                clear g7 z1 z2 p01 p0
                subst g3
                go_wp2_with fail
                refine (AWH.out _ q0).mono ?_
                rintro e w' ⟨rfl, h⟩
                replace q0 := h
                go_wp2_with fail
                refine (P1.out _).mono ?_
                rintro e w' ⟨rfl, rfl⟩
                go_wp2
                go_ret
                exact ⟨ret_bl (by first | rfl | simp), q0⟩
              · have g9' : 9 ≤ d - t := by omega
                clear g7 g9 p01
                subst g3
                go_wp2_with fail
                refine (AWH.out _ q0).mono ?_
                rintro e w' ⟨rfl, h⟩
                replace q0 := h
                go_wp2
                go_ret
                exact ⟨ret_bl (by first | rfl | simp), q0⟩
            · rw [pe] at *
              rw [pv] at *
              clear pe pv
              by_cases f1 : 0 < d
              · by_cases f2 : p ≤ 1
                · by_cases f3 : o = 0
                  · by_cases f4 : d - t ≤ 9
                    · have f5 : 6 < t := by omega
                      clear hno
                      subst f3
                      go_wp2_with fail
                      refine (AWH.out _ q0).mono ?_
                      rintro e w' ⟨rfl, h⟩
                      replace q0 := h
                      go_wp2
                      go_ret
                      exact ⟨ret_bl (by first | rfl | simp), q0⟩
                    · have f4' : 9 < d - t := by omega
                      clear hno f4
                      subst f3
                      go_wp2_with fail
                      refine (AWH.out _ q0).mono ?_
                      rintro e w' ⟨rfl, h⟩
                      replace q0 := h
                      go_wp2
                      go_ret
                      exact ⟨ret_bl (by first | rfl | simp), q0⟩
                  · have f3' : (o == 0) = false := beq_eq_false_iff_ne.2 f3
                    clear hno f3
                    go_wp2_with fail
                    refine (AWH.out _ q0).mono ?_
                    rintro e w' ⟨rfl, h⟩
                    replace q0 := h
                    go_wp2
                    go_ret
                    exact ⟨ret_bl (by first | rfl | simp), q0⟩
                · have f2' : 1 < p := by omega
                  clear hno f2
                  go_wp2_with fail
                  refine (AWH.out _ q0).mono ?_
                  rintro e w' ⟨rfl, h⟩
                  replace q0 := h
                  go_wp2
                  go_ret
                  exact ⟨ret_bl (by first | rfl | simp), q0⟩
              · have f1' : d ≤ 0 := by omega
                clear hno f1
                go_wp2_with fail
                refine (AWH.out _ q0).mono ?_
                rintro e w' ⟨rfl, h⟩
                replace q0 := h
                go_wp2
                go_ret
                exact ⟨ret_bl (by first | rfl | simp), q0⟩
      · have ss : s.size ≤ 1011 := by omega
        have hr1 : r ≤ 0 := by omega
        clear hr0
        have px := fun w => fxParse s hs w
        have zx : (({ data := #[48] } : ByteArray) ++ s).data.toList = 48 :: s.data.toList := by rw [ByteArray.data_append]; simp
        have p0 := fun w => fxParse (({ data := #[48] } : ByteArray) ++ s) (zero_size s ss) w
        rw [zx] at p0
        have pk := parse_counts s.data.toList
        have PX := Lib.hid px
        have P0 := Lib.hid p0
        have PK := Lib.hid pk
        clear px p0 pk zx
        go_enter Tryd.func10, Tryd.ntmps10
        go_wp2_with fail
        refine (LG.out _ q0).mono ?_
        rintro e w' ⟨rfl, rfl⟩
        go_wp2_with fail
        refine NW.out.mono ?_
        rintro e w1 ⟨rfl, h1, q1⟩
        have TP := Lib.hid h1
        clear h1
        go_wp2_with fail
        refine (NX.out _ TP.out).mono ?_
        rintro e w2 ⟨rfl, _, q2⟩
        replace q0 : Qw w w2 := Below.trans q1 q2
        clear q1 q2
        go_wp2_with fail
        refine (PX.out _).mono ?_
        rintro e w' ⟨rfl, rfl⟩
        go_wp2
        go_loop [7, 8, 9, 10, 11] (fun dv pv ov tv iv => ∃ k : Nat, k ≤ s.size ∧ dv = .int .i64 (cd (s.data.toList.take k)) ∧ pv = .int .i64 (cp (s.data.toList.take k)) ∧ ov = .int .i64 (co (s.data.toList.take k)) ∧ tv = .int .i64 (ct 0 (s.data.toList.take k)) ∧ iv = .int .i64 k) (fun _ _ _ _ iv => s.size - (intOf iv).toNat)
        case atStart => exact ⟨0, Nat.zero_le _, rfl, rfl, rfl, rfl, rfl⟩
        case round =>
          obtain ⟨k, hk, rfl, rfl, rfl, rfl, rfl⟩ := hrel
          obtain ⟨c0, c1, c2, c3, c4⟩ := counts_pos (s.data.toList.take k)
          have c5 := ct_le (s.data.toList.take k) 0 (by omega)
          have c6 := c3 0 (by omega)
          have lk : (s.data.toList.take k).length = k := by rw [List.length_take, Array.length_toList]; exact Nat.min_eq_left hk
          rw [lk] at c4 c5
          have k2 : (k : Int) ≤ 1011 := by omega
          have c7 : (0 + (k : Int)) * k ≤ 1011 * 1011 := Int.mul_le_mul (by omega) k2 (by omega) (by omega)
          have c8 : ct 0 (s.data.toList.take k) ≤ 1022121 := by omega
          clear c3 c5 c7 lk
          by_cases hlt : k < s.size
          · have sn := snoc_counts s k hlt
            have SN := Lib.hid sn
            clear sn
            generalize cd (s.data.toList.take k) = d at *
            generalize cp (s.data.toList.take k) = p at *
            generalize co (s.data.toList.take k) = o at *
            generalize ct 0 (s.data.toList.take k) = t at *
            by_cases hd : isd s[k] = true
            · obtain ⟨i1, i2⟩ := isd_t hd
              have S := Lib.hid (SN.out.1 hd)
              clear hd SN
              go_wp2
              go_round
              case rel => exact ⟨k + 1, by omega, by rw [S.out.1], by rw [S.out.2.1], by rw [S.out.2.2.1], by rw [S.out.2.2.2], by go_num⟩
              case measure => simp [intOf]; omega
            · have hd' : isd s[k] = false := by simpa using hd
              have nf := isd_f hd'
              by_cases h46 : s[k] = 46
              · have S := Lib.hid (SN.out.2.1 h46)
                have dt : ((s[k].toNat : Int) == 46) = true := by rw [h46]; decide
                have lo : (s[k].toNat : Int) < 48 := by rw [h46]; decide
                clear hd hd' nf h46 SN
                go_wp2
                go_round
                case rel => exact ⟨k + 1, by omega, by rw [S.out.1], by rw [S.out.2.1], by rw [S.out.2.2.1], by rw [S.out.2.2.2], by go_num⟩
                case measure => simp [intOf]; omega
              · have S := Lib.hid (SN.out.2.2 hd' h46)
                have dt : ((s[k].toNat : Int) == 46) = false := beq_eq_false_iff_ne.2 (fun h => h46 (UInt8.toNat_inj.1 (by have : (46 : UInt8).toNat = 46 := rfl; omega)))
                clear hd hd' h46 SN
                by_cases lo : (s[k].toNat : Int) < 48
                · clear nf
                  go_wp2
                  go_round
                  case rel => exact ⟨k + 1, by omega, by rw [S.out.1], by rw [S.out.2.1], by rw [S.out.2.2.1], by rw [S.out.2.2.2], by go_num⟩
                  case measure => simp [intOf]; omega
                · have hi : 57 < (s[k].toNat : Int) := by omega
                  clear nf
                  go_wp2
                  go_round
                  case rel => exact ⟨k + 1, by omega, by rw [S.out.1], by rw [S.out.2.1], by rw [S.out.2.2.1], by rw [S.out.2.2.2], by go_num⟩
                  case measure => simp [intOf]; omega
          · obtain rfl : k = s.size := by omega
            have tk : s.data.toList.take s.size = s.data.toList := List.take_of_length_le (by rw [Array.length_toList]; exact Nat.le_refl _)
            rw [tk] at c0 c1 c2 c4 c6 c8
            rw [tk]
            clear hlt tk hk
            generalize cd s.data.toList = d at *
            generalize cp s.data.toList = p at *
            generalize co s.data.toList = o at *
            generalize ct 0 s.data.toList = t at *
            have AWK : ∀ w' (q : Qw w w'), Calls Tryd.prog 18 #[] w' fun e w' => e = .returned (.bool true) ∧ Qw w w' := fun w' q => (awakeF w' (HT.out.kept q)).mono fun _ _ ⟨h, k⟩ => ⟨h, Qw.trans q k⟩
            have AWH := Lib.hid AWK
            clear AWK
            rcases PK.out with ⟨pe, g1, g2, g3, g4, g5, g6, g7⟩ | ⟨pe, pv, hno⟩
            · rw [pe] at *
              have p01 : p = 0 ∨ p = 1 := by omega
              by_cases g9 : d - t < 9
              · obtain ⟨z1, z2⟩ := g7 g9
                have p0 := P0.out
                rw [z1, z2] at p0
                have P1 := Lib.hid p0
                clear g7 z1 z2 p01 p0
                subst g3
                go_wp2_with fail
                refine (AWH.out _ q0).mono ?_
                rintro e w' ⟨rfl, h⟩
                replace q0 := h
                go_wp2_with fail
                refine (P1.out _).mono ?_
                rintro e w' ⟨rfl, rfl⟩
                go_wp2
                go_ret
                exact ⟨ret_bl (by first | rfl | simp), q0⟩
              · have g9' : 9 ≤ d - t := by omega
                clear g7 g9 p01
                subst g3
                go_wp2_with fail
                refine (AWH.out _ q0).mono ?_
                rintro e w' ⟨rfl, h⟩
                replace q0 := h
                go_wp2
                go_ret
                exact ⟨ret_bl (by first | rfl | simp), q0⟩
            · rw [pe] at *
              rw [pv] at *
              clear pe pv
              by_cases f1 : 0 < d
              · by_cases f2 : p ≤ 1
                · by_cases f3 : o = 0
                  · by_cases f4 : d - t ≤ 9
                    · have f5 : 6 < t := by omega
                      clear hno
                      subst f3
                      go_wp2_with fail
                      refine (AWH.out _ q0).mono ?_
                      rintro e w' ⟨rfl, h⟩
                      replace q0 := h
                      go_wp2
                      go_ret
                      exact ⟨ret_bl (by first | rfl | simp), q0⟩
                    · have f4' : 9 < d - t := by omega
                      clear hno f4
                      subst f3
                      go_wp2_with fail
                      refine (AWH.out _ q0).mono ?_
                      rintro e w' ⟨rfl, h⟩
                      replace q0 := h
                      go_wp2
                      go_ret
                      exact ⟨ret_bl (by first | rfl | simp), q0⟩
                  · have f3' : (o == 0) = false := beq_eq_false_iff_ne.2 f3
                    clear hno f3
                    go_wp2_with fail
                    refine (AWH.out _ q0).mono ?_
                    rintro e w' ⟨rfl, h⟩
                    replace q0 := h
                    go_wp2
                    go_ret
                    exact ⟨ret_bl (by first | rfl | simp), q0⟩
                · have f2' : 1 < p := by omega
                  clear hno f2
                  go_wp2_with fail
                  refine (AWH.out _ q0).mono ?_
                  rintro e w' ⟨rfl, h⟩
                  replace q0 := h
                  go_wp2
                  go_ret
                  exact ⟨ret_bl (by first | rfl | simp), q0⟩
              · have f1' : d ≤ 0 := by omega
                clear hno f1
                go_wp2_with fail
                refine (AWH.out _ q0).mono ?_
                rintro e w' ⟨rfl, h⟩
                replace q0 := h
                go_wp2
                go_ret
                exact ⟨ret_bl (by first | rfl | simp), q0⟩
    · have d2 : decide (zs.length ≤ 120) = false := decide_eq_false h2
      go_enter Tryd.func10, Tryd.ntmps10
      go_wp2_with fail
      refine (LG.out _ q0).mono ?_
      rintro e w' ⟨rfl, rfl⟩
      go_wp2_with fail
      refine (awakeF _ (HT.out.kept q0)).mono ?_
      rintro e w' ⟨rfl, h⟩
      replace q0 := Qw.trans q0 h
      go_wp2
      go_ret
      exact ⟨rfl, q0⟩

/-! ### the row and the card -/
theorem reads_fixedTexts (os : Os) {H : Type} (enc : TypeId × Value → H) : ∃ places, DataW.whole enc Tryd.prog ((laidWorldL os).forCall (fun _ _ => 0) ⟨#[], #[.string { data := #[] }, .slice none 0 0], []⟩).memory Tryd.f10.params.toList Rows.fixedTextsSpec.vars false #[(.string { data := #[] } : Value), .slice none 0 0].toList 8 = some ([.lit (.string []), .nil], [], places) :=
  ⟨[], by kernel_rfl⟩
set_option maxRecDepth 100000 in
theorem lifted_fixedTexts (os : Os) (started : os.Started) (H : Type) (enc : TypeId × Value → H) (F : Stop.Interp) :
    ReturnsInHanded {} Tryd.checked os 10 .any ((OpenSpec.ofChange Rows.fixedTextsSpec).preRow enc Tryd.prog Tryd.f10 Rows.fixedTextsRow.domain false Rows.fixedTextsRow.laid) (((OpenSpec.ofChange Rows.fixedTextsSpec).at F).post enc Tryd.prog Tryd.f10 false true false false) := by
  obtain ⟨places, hx⟩ := reads_fixedTexts os enc
  refine returnsInHanded_of_row (C := Tryd.checked) (s := OpenSpec.ofChange Rows.fixedTextsSpec) ownL started (by kernel_rfl) Tryd.func10
    (witness_row_at (enc := enc) (C := Tryd.checked) false (laidWorldL os) #[.string { data := #[] }, .slice none 0 0] rfl (by kernel_rfl) (by kernel_rfl) (by kernel_rfl)
      (OpenSpec.preRow_of_cond 8 hx (by kernel_rfl) (fun k hk => by cases hk) (by kernel_rfl) (laid_metL os _))) ?_
  intro W base args ds gs before hval0 hW _ _ _ hL _ _
  have ht : Tb W := tableL hL
  have hval : ∀ (j : Nat) t v, Tryd.f10.params[j]? = some t → args[j]? = some v → Value.okWide Tryd.prog W .any base t v := hval0
  have hW' := hW
  obtain ⟨p, q, hA0, hV, rfl, hfz, hnd⟩ := hW
  have hA : DataW.TrodAll enc Tryd.prog W 0 (fun _ => true) true Tryd.f10.params.toList args.toList ds p := hA0
  rw [Tryd.params10] at hA hval
  obtain ⟨v0, vs0, d0, ds0, p0, q0, hargs, rfl, rfl, h0, r0⟩ := trodAll_cons hA
  obtain ⟨v1, vs1, d1, ds1, p1, q1, rfl, rfl, rfl, h1, r1⟩ := trodAll_cons r0
  obtain ⟨rfl, rfl, rfl⟩ := trodAll_nil r1
  obtain rfl : args = #[v0, v1] := by cases args; simp_all
  obtain ⟨rfl, rfl⟩ := trodVars_none hV
  obtain ⟨a0, rfl, rfl, rfl, w0⟩ := Go.ChangeMaps.open_string Tryd.underlying9 (hval 0 9 v0 rfl rfl) h0
  obtain ⟨u1, hu1⟩ := in_ints (hval 1 22 v1 rfl rfl) h1
  clear hA0 hval0 hL
  simp only [List.append_nil] at hW'
  refine (walk_fixedTexts a0 w0 v1 u1 W hu1 ht).mono fun e W' ⟨he, bel⟩ => ?_
  subst he
  exact ⟨_, rfl, _, _, _, [], _, [], hW', trodAll_mk1 (shut_bool Tryd.underlying4 _), (trodAll_cons_mk (Go.ChangeMaps.shut_string Tryd.underlying9 w0) (trodAll_cons_mk (out_ints h1 bel (fun x hx => hW'.lt x (by first | exact hx | simp [hx]))) trodAll_mk0)), rfl, Below.frame bel _, fun h => by cases h⟩

theorem fixedTexts_said : Rows.FixedTextsSaid :=
  OpenClaim.holds_of_cond 10 Tryd.f10 rfl rfl rfl rfl rfl rfl rfl ⟨rfl, rfl, rfl, rfl, rfl⟩ rfl rfl rfl rfl rfl (by kernel_rfl) Tryd.func10 (by kernel_rfl)
    (of_decide_eq_true (by kernel_rfl)) (by unfold Func.isWrapper; first | (rw [if_pos (by decide +kernel)]; kernel_rfl) | (rw [if_neg (by decide +kernel)]; exact ⟨rfl, rfl⟩))
    (fun os started H enc _ F => by rw [OpenClaim.pre_eq_preRow]; exact lifted_fixedTexts os started H enc F)

theorem plain_fixedTexts (f : FuncId) (fn : Func) (hf : Tryd.pinned.checked.prog.funcNamed "cnc/cnclaw02.FixedTexts" = some f) (hfn : Tryd.pinned.checked.prog.funcs[f]? = some fn) :
    false = Tryd.pinned.checked.prog.looks [] ∧ ∀ (j : Nat) t, fn.params[j]? = some t → Tryd.pinned.checked.prog.wantsStandIn t = false := by
  obtain rfl : f = 10 := Option.some.inj ((show Tryd.prog.funcNamed "cnc/cnclaw02.FixedTexts" = some 10 by kernel_rfl).symm.trans hf) |>.symm
  obtain rfl : fn = Tryd.f10 := (Option.some.inj (Tryd.func10.symm.trans hfn)).symm
  refine ⟨by kernel_rfl, fun j t ht => ?_⟩
  rw [Tryd.params10] at ht
  have hm : t = 9 ∨ t = 22 := by simpa using Array.mem_of_getElem? ht
  rcases hm with rfl | rfl
  · exact (show Tryd.prog.wantsStandIn 9 = false by kernel_rfl)
  · exact (show Tryd.prog.wantsStandIn 22 = false by kernel_rfl)

/-- The statement. -/
theorem fixedTexts_card : Rows.FixedTextsCardSaid :=
  Claim7.holds_tied_plain_at .later [] _ _ _ _ fixedTexts_said (fun _ h => by cases h) (by kernel_rfl) (fun _ h => by cases h) fixedTexts_row_tie rfl ⟨rfl, rfl⟩ (by kernel_rfl) rfl plain_fixedTexts (by kernel_rfl)

end Go.Proofs.YthfgpmdgklphkaaDoor
