
/- The walks of the specification's Digits and Format. -/
import Derived.Test.YtlinfdgmebogbaaDoorFxG
import Derived.Lib.Strings
import Derived.Test.YtlinfdgmebogbaaDoorFxB
import Derived.Outline
set_option linter.unusedVariables false
set_option linter.unusedSimpArgs false
namespace Go.Proofs.YtlinfdgmebogbaaDoor
open Go.RowKit

theorem str_append (a b : List UInt8) : (⟨a.toArray⟩ : ByteArray) ++ ⟨b.toArray⟩ = ⟨(a ++ b).toArray⟩ := by
  apply ByteArray.ext
  simp
theorem str_one (m : Nat) (l : List UInt8) : Value.string (({ data := #[48 + UInt8.ofNat m] } : ByteArray) ++ { data := l.toArray }) = .string ⟨(UInt8.ofNat (48 + m) :: l).toArray⟩ := by
  have e : (48 : UInt8) + UInt8.ofNat m = UInt8.ofNat (48 + m) := by rw [UInt8.ofNat_add]; rfl
  rw [e]
  exact congrArg Value.string (str_append [UInt8.ofNat (48 + m)] l)

theorem run_digit (a : Int) (h0 : 0 ≤ a) (h9 : a ≤ 9) (w : World) :
    (Instr.slice 9 (.string { data := #[48, 49, 50, 51, 52, 53, 54, 55, 56, 57] }) (some (.int .i64 a)) (some (.int .i64 (a + 1))) none).run Tryd.prog w = .ok (.string ⟨[UInt8.ofNat (48 + a.toNat)].toArray⟩) w := by
  have t := Tryd.underlying9
  have c : a = 0 ∨ a = 1 ∨ a = 2 ∨ a = 3 ∨ a = 4 ∨ a = 5 ∨ a = 6 ∨ a = 7 ∨ a = 8 ∨ a = 9 := by omega
  rcases c with rfl | rfl | rfl | rfl | rfl | rfl | rfl | rfl | rfl | rfl <;> simp [go_sem, t] <;> decide +kernel

set_option maxRecDepth 100000 in
set_option maxHeartbeats 1000000 in
theorem rxDigits (n : Int) (n0 : 0 ≤ n) (n1 : n ≤ 9223372036854775807) (w : World) :
    Calls Tryd.prog 33 #[.int .i64 n] w fun e w' => e = .returned (.string ⟨(Lib.decDigits n.toNat).toArray⟩) ∧ w = w' := by
  obtain ⟨m0, rfl⟩ := Int.eq_ofNat_of_zero_le n0
  rw [Int.toNat_natCast]
  go_enter Tryd.func33, Tryd.ntmps33
  go_wp2
  go_loop [0, 3] (fun nv sv => ∃ (m : Nat) (l : List UInt8), m ≤ m0 ∧ Lib.decDigits m0 = Lib.decDigits m ++ l ∧ nv = .int .i64 m ∧ sv = .string ⟨l.toArray⟩) (fun nv _ => (intOf nv).toNat)
  case atStart => exact ⟨m0, [], Nat.le_refl _, by simp, rfl, rfl⟩
  case round =>
    obtain ⟨m, l, hm, hd, rfl, rfl⟩ := hrel
    have hl : l.length ≤ 18 := by
      have a := dec_len 18 m0 (by have : (10 : Nat) ^ 19 = 10000000000000000000 := by decide
                                  omega)
      have b : (Lib.decDigits m).length ≠ 0 := fun h => dec_ne m (List.eq_nil_of_length_eq_zero h)
      rw [hd, List.length_append] at a
      omega
    have HD := Lib.hid hd
    clear hd
    by_cases hc : 9 < m
    · have sl := run_digit ((m : Int) % 10) (by omega) (by omega)
      go_wp2
      refine ⟨⟨m / 10, UInt8.ofNat (48 + m % 10) :: l, by omega, by rw [HD.out, dec_big (by omega), List.append_assoc]; rfl, by go_num, str_one _ _⟩, ?_⟩
      simp [intOf]; omega
    · have hc' : (m : Int) ≤ 9 := by omega
      have sl := run_digit (m : Int) (by omega) (by omega)
      go_wp2
      go_ret
      exact ⟨by rw [HD.out, dec_small (by omega)]; exact congrArg Ending.returned (str_one _ _), rfl⟩

theorem ret_str {a b : ByteArray} (h : a = b) : Ending.returned (.string a) = .returned (.string b) := by rw [h]

theorem mk_size (l : List UInt8) : (⟨l.toArray⟩ : ByteArray).size = l.length := by simp [ByteArray.size]

theorem extract_tail (c : UInt8) (l : List UInt8) (n : Nat) (h : n = l.length + 1) : (⟨(c :: l).toArray⟩ : ByteArray).extract 1 n = ⟨l.toArray⟩ := by
  apply ByteArray.ext
  apply Array.toList_inj.1
  rw [Lib.extract_data]
  simp [h]
theorem extract_init (c : UInt8) (l : List UInt8) (n : Nat) (h : n = l.length) : (⟨(l ++ [c]).toArray⟩ : ByteArray).extract 0 n = ⟨l.toArray⟩ := by
  apply ByteArray.ext
  apply Array.toList_inj.1
  rw [Lib.extract_data]
  simp [h]

theorem dgs_at (f : Int) (j : Nat) (hj : j ≤ 5) (V : ByteArray) (hV : V = ⟨(dgs f (j + 1)).toArray⟩) (h : j < V.size) : (V[j].toNat : Int) = 48 + dn f j := by
  subst hV
  rw [← dg_nat f j hj]
  have e : (⟨(dgs f (j + 1)).toArray⟩ : ByteArray)[j] = (dgs f (j + 1))[j]'(by rw [dgs_length]; omega) := rfl
  rw [e]
  simp [dgs]

set_option maxRecDepth 100000 in
set_option maxHeartbeats 1000000 in
theorem rxFormatP (n : Int) (n0 : 0 ≤ n) (n1 : n ≤ 1000000000000000) (w : World) :
    Calls Tryd.prog 24 #[.int .i64 n] w fun e w' => e = .returned (.string ⟨(fmtp n).toArray⟩) ∧ w = w' := by
  have hv : vld n = true := vld_t (by omega) n1
  obtain ⟨S, hS⟩ : ∃ S : ByteArray, S = ⟨(Lib.decDigits (n / 1000000).toNat).toArray⟩ := ⟨_, rfl⟩
  have c1 := fun w => rxDigits (n / 1000000) (by omega) (by omega) w
  rw [← hS] at c1
  have C1 := Lib.hid c1
  have s1 : S.size ≤ 1000 := by
    have := dec_len10 [] n (by decide) n0 n1
    rw [hS, mk_size]; exact this
  have HS := Lib.hid hS
  clear c1 hS
  unfold fmtp frac
  by_cases hz : n % 1000000 = 0
  · rw [if_pos hz, List.append_nil]
    go_enter Tryd.func24, Tryd.ntmps24
    go_wp2_with (first | (go_at_call 32; refine (rxValid _ _).mono ?_; rintro e w' ⟨rfl, rfl⟩) | (go_at_call 33; refine (C1.out _).mono ?_; rintro e w' ⟨rfl, rfl⟩))
    go_ret
    exact ⟨ret_str HS.out, rfl⟩
  · rw [if_neg hz]
    have f0 : 0 ≤ n % 1000000 := by omega
    have f1 : n % 1000000 < 1000000 := by omega
    obtain ⟨T, hT⟩ : ∃ T : ByteArray, T = ⟨(49 :: dgs (n % 1000000) 6).toArray⟩ := ⟨_, rfl⟩
    have c2 := fun w => rxDigits (1000000 + n % 1000000) (by omega) (by omega) w
    rw [dec_seven _ f0 f1, ← hT] at c2
    have C2 := Lib.hid c2
    have t1 : T.size = 7 := by rw [hT, mk_size, List.length_cons, dgs_length]
    obtain ⟨U, hU⟩ : ∃ U : ByteArray, U = ⟨(dgs (n % 1000000) 6).toArray⟩ := ⟨_, rfl⟩
    have t2 : T.extract 1 7 = U := by rw [hT, hU, extract_tail _ _ _ (by rw [dgs_length])]
    have HU := Lib.hid hU
    have bz : (n % 1000000 == 0) = false := beq_eq_false_iff_ne.2 hz
    have Hz := Lib.hid hz
    clear c2 hT hU hz
    generalize hf : n % 1000000 = f at *
    go_enter Tryd.func24, Tryd.ntmps24
    go_wp2_with (first | (go_at_call 32; refine (rxValid _ _).mono ?_; rintro e w' ⟨rfl, rfl⟩) | (go_at_call 33; ((with_reducible refine (C1.out _).mono ?_); rintro e w' ⟨rfl, rfl⟩)) | (go_at_call 33; ((with_reducible refine (C2.out _).mono ?_); rintro e w' ⟨rfl, rfl⟩)))
    go_loop [5] (fun tv => ∃ (j : Nat) (T : ByteArray), j ≤ 5 ∧ f % um (j + 1) = 0 ∧ T = ⟨(dgs f (j + 1)).toArray⟩ ∧ tv = .string T) (fun tv => match tv with | .string t => t.size | _ => 0)
    case atStart => exact ⟨5, U, Nat.le_refl _, by simp only [um]; omega, HU.out, rfl⟩
    case round =>
      obtain ⟨j, V, hj, hm, hV, rfl⟩ := hrel
      have v1 : V.size = j + 1 := by rw [hV, mk_size, dgs_length]
      have vj := dgs_at f j hj V hV (by omega)
      obtain ⟨z1, z2⟩ := zero_step f j hj hm
      by_cases hd : dn f j = 0
      · have bt : ((V[j].toNat : Int) == 48) = true := by rw [vj, hd]; decide
        have j1 : 1 ≤ j := by
          rcases Nat.eq_zero_or_pos j with h | h
          · subst h
            have := z1 hd
            simp only [um] at this
            rw [Int.emod_eq_of_lt f0 f1] at this
            exact absurd this Hz.out
          · exact h
        obtain ⟨i, rfl⟩ : ∃ i, j = i + 1 := ⟨j - 1, by omega⟩
        have t3 : ∃ V' : ByteArray, V.extract 0 (i + 1) = V' ∧ V' = ⟨(dgs f (i + 1)).toArray⟩ := ⟨_, rfl, by rw [hV, dgs_succ f (i + 1), extract_init _ _ _ (by rw [dgs_length])]⟩
        obtain ⟨V', t3, hV'⟩ := t3
        have HV' := Lib.hid (And.intro hV' (z1 hd))
        have vs : V'.size = i + 1 := by rw [hV', mk_size, dgs_length]
        clear hV hV' hd z1 z2 hm vj
        go_wp2
        go_round
        case rel => exact ⟨i, V', by omega, HV'.out.2, HV'.out.1, rfl⟩
        case measure => simp; omega
      · have bt : ((V[j].toNat : Int) == 48) = false := beq_eq_false_iff_ne.2 (by omega)
        have hk : kf f = j + 1 := kf_eq (by omega) (by simp only [um]; rw [Int.emod_eq_of_lt f0 f1]; exact Hz.out) hm (z2 hd)
        have HK := Lib.hid (And.intro hk hV)
        clear hV hd z1 z2 hm vj hk
        go_wp2
        go_ret
        exact ⟨ret_str (by rw [HS.out, HK.out.2, HK.out.1, str_append, show (⟨#[46]⟩ : ByteArray) = ⟨[(46 : UInt8)].toArray⟩ from rfl, str_append]; simp), rfl⟩

theorem fmtp_len (m : Int) (h0 : 0 ≤ m) (h1 : m ≤ 1000000000000000) : (fmtp m).length ≤ 1010 := by
  have a := dec_len10 [] m (by decide) h0 h1
  have k := kf_range (m % 1000000)
  have b : (frac (m % 1000000)).length ≤ 7 := by
    unfold frac
    split
    · simp
    · rw [List.length_cons, dgs_length]; omega
  unfold fmtp
  rw [List.nil_append] at a
  rw [List.length_append]; omega

set_option maxRecDepth 100000 in
set_option maxHeartbeats 1000000 in
theorem rxFormat (n : Int) (w : World) :
    Calls Tryd.prog 24 #[.int .i64 n] w fun e w' => e = .returned (.string ⟨(fmtl n).toArray⟩) ∧ w = w' := by
  cases hv : vld n
  · rw [show fmtl n = [] from if_neg (by rw [hv]; decide)]
    go_enter Tryd.func24, Tryd.ntmps24
    go_wp2_with (go_at_call 32; refine (rxValid _ _).mono ?_; rintro e w' ⟨rfl, rfl⟩)
    go_ret
    exact ⟨rfl, rfl⟩
  · obtain ⟨a1, a2⟩ := vld_bd hv
    by_cases hn : n < 0
    · obtain ⟨m, rfl⟩ : ∃ m, n = -m := ⟨-n, by omega⟩
      have e : fmtl (-m) = [45] ++ fmtp m := by unfold fmtl; rw [if_pos hv, if_pos hn, Int.neg_neg]; rfl
      obtain ⟨S, hS⟩ : ∃ S : ByteArray, S = ⟨(fmtp m).toArray⟩ := ⟨_, rfl⟩
      have c1 := fun w => rxFormatP m (by omega) (by omega) w
      rw [← hS] at c1
      have C1 := Lib.hid c1
      have s1 : S.size ≤ 1010 := by rw [hS, mk_size]; exact fmtp_len m (by omega) (by omega)
      have HS := Lib.hid (And.intro hS e)
      have m0 : 0 < m := by omega
      have m1 : m ≤ 1000000000000000 := by omega
      clear c1 hS e hn a1 a2
      go_enter Tryd.func24, Tryd.ntmps24
      go_wp2_with (first | (go_at_call 32; refine (rxValid _ _).mono ?_; rintro e w' ⟨rfl, rfl⟩) | (go_at_call 24; refine (C1.out _).mono ?_; rintro e w' ⟨rfl, rfl⟩))
      go_ret
      exact ⟨ret_str (by rw [HS.out.1, HS.out.2, show (⟨#[45]⟩ : ByteArray) = ⟨[(45 : UInt8)].toArray⟩ from rfl, str_append]), rfl⟩
    · rw [show fmtl n = fmtp n from (if_pos hv).trans (if_neg hn)]
      exact rxFormatP n (by omega) a2 w

end Go.Proofs.YtlinfdgmebogbaaDoor
