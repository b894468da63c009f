import Derived.Test.YtbcbnkapipimmaaGreatDoorZRg3
import Derived.Test.YtbcbnkapipimmaaGreatDoorZRg16
import Derived.Test.YtbcbnkapipimmaaGreatDoorZRg18
import Derived.Test.YtbcbnkapipimmaaGreatDoorZRg22
import Derived.Lib.Strings
import Derived.Outline
set_option linter.unusedVariables false
set_option linter.unusedSimpArgs false
namespace Go.Proofs.YtbcbnkapipimmaaGreatDoor
open Go.RowKit
theorem str_appendH (a b : List UInt8) : (⟨a.toArray⟩ : ByteArray) ++ ⟨b.toArray⟩ = ⟨(a ++ b).toArray⟩ := by
  apply ByteArray.ext
  simp
theorem str_one (m : Nat) (l : List UInt8) : Value.string (({ data := #[48 + UInt8.ofNat m] } : ByteArray) ++ { data := l.toArray }) = .string ⟨(UInt8.ofNat (48 + m) :: l).toArray⟩ := by
  have e : (48 : UInt8) + UInt8.ofNat m = UInt8.ofNat (48 + m) := by rw [UInt8.ofNat_add]; rfl
  rw [e]
  exact congrArg Value.string (str_appendH [UInt8.ofNat (48 + m)] l)
theorem run_digit (a : Int) (h0 : 0 ≤ a) (h9 : a ≤ 9) (w : World) :
    (Instr.slice 9 (.string { data := #[48, 49, 50, 51, 52, 53, 54, 55, 56, 57] }) (some (.int .i64 a)) (some (.int .i64 (a + 1))) none).run Tryz.prog w = .ok (.string ⟨[UInt8.ofNat (48 + a.toNat)].toArray⟩) w := by
  have t := Tryz.underlying9
  have c : a = 0 ∨ a = 1 ∨ a = 2 ∨ a = 3 ∨ a = 4 ∨ a = 5 ∨ a = 6 ∨ a = 7 ∨ a = 8 ∨ a = 9 := by omega
  rcases c with rfl | rfl | rfl | rfl | rfl | rfl | rfl | rfl | rfl | rfl <;> simp [go_sem, t] <;> decide +kernel
set_option maxRecDepth 100000 in
set_option maxHeartbeats 1000000 in
theorem rxDigits (n : Int) (n0 : 0 ≤ n) (n1 : n ≤ 9223372036854775807) (w : World) :
    Calls Tryz.prog 57 #[.int .i64 n] w fun e w' => e = .returned (.string ⟨(Lib.decDigits n.toNat).toArray⟩) ∧ w = w' := by
  obtain ⟨m0, rfl⟩ := Int.eq_ofNat_of_zero_le n0
  rw [Int.toNat_natCast]
  go_enter Tryz.func57, Tryz.ntmps57
  go_wp2
  go_loop [0, 3] (fun nv sv => ∃ (m : Nat) (l : List UInt8), m ≤ m0 ∧ Lib.decDigits m0 = Lib.decDigits m ++ l ∧ nv = .int .i64 m ∧ sv = .string ⟨l.toArray⟩) (fun nv _ => (intOf nv).toNat)
  case atStart => exact ⟨m0, [], Nat.le_refl _, by simp, rfl, rfl⟩
  case round =>
    obtain ⟨m, l, hm, hd, rfl, rfl⟩ := hrel
    have hl : l.length ≤ 18 := by
      have a := dec_len 18 m0 (by have : (10 : Nat) ^ 19 = 10000000000000000000 := by decide
                                  omega)
      have b : (Lib.decDigits m).length ≠ 0 := fun h => dec_ne m (List.eq_nil_of_length_eq_zero h)
      rw [hd, List.length_append] at a
      omega
    have HD := Lib.hid hd
    clear hd
    by_cases hc : 9 < m
    · have sl := run_digit ((m : Int) % 10) (by omega) (by omega)
      go_wp2
      refine ⟨⟨m / 10, UInt8.ofNat (48 + m % 10) :: l, by omega, by rw [HD.out, dec_big (by omega), List.append_assoc]; rfl, by go_num, str_one _ _⟩, ?_⟩
      simp [intOf]; omega
    · have hc' : (m : Int) ≤ 9 := by omega
      have sl := run_digit (m : Int) (by omega) (by omega)
      go_wp2
      go_ret
      exact ⟨by rw [HD.out, dec_small (by omega)]; exact congrArg Ending.returned (str_one _ _), rfl⟩
theorem ret_str {a b : ByteArray} (h : a = b) : Ending.returned (.string a) = .returned (.string b) := by rw [h]
theorem mk_size (l : List UInt8) : (⟨l.toArray⟩ : ByteArray).size = l.length := by simp [ByteArray.size]
theorem extract_tail (c : UInt8) (l : List UInt8) (n : Nat) (h : n = l.length + 1) : (⟨(c :: l).toArray⟩ : ByteArray).extract 1 n = ⟨l.toArray⟩ := by
  apply ByteArray.ext
  apply Array.toList_inj.1
  rw [Lib.extract_data]
  simp [h]
theorem extract_init (c : UInt8) (l : List UInt8) (n : Nat) (h : n = l.length) : (⟨(l ++ [c]).toArray⟩ : ByteArray).extract 0 n = ⟨l.toArray⟩ := by
  apply ByteArray.ext
  apply Array.toList_inj.1
  rw [Lib.extract_data]
  simp [h]
theorem dgs_at (f : Int) (j : Nat) (hj : j ≤ 5) (V : ByteArray) (hV : V = ⟨(dgs f (j + 1)).toArray⟩) (h : j < V.size) : (V[j].toNat : Int) = 48 + dn f j := by
  subst hV
  rw [← dg_nat f j hj]
  have e : (⟨(dgs f (j + 1)).toArray⟩ : ByteArray)[j] = (dgs f (j + 1))[j]'(by rw [dgs_length]; omega) := rfl
  rw [e]
  simp [dgs]
set_option maxRecDepth 100000 in
set_option maxHeartbeats 1000000 in
theorem rxFormatP (n : Int) (n0 : 0 ≤ n) (n1 : n ≤ 1000000000000000) (w : World) :
    Calls Tryz.prog 104 #[.int .i64 n] w fun e w' => e = .returned (.string ⟨(fmtp n).toArray⟩) ∧ w = w' := by
  have hv : vld n = true := vld_t (by omega) n1
  obtain ⟨S, hS⟩ : ∃ S : ByteArray, S = ⟨(Lib.decDigits (n / 1000000).toNat).toArray⟩ := ⟨_, rfl⟩
  have c1 := fun w => rxDigits (n / 1000000) (by omega) (by omega) w
  rw [← hS] at c1
  have C1 := Lib.hid c1
  have s1 : S.size ≤ 1000 := by
    have := dec_len10 [] n (by decide) n0 n1
    rw [hS, mk_size]; exact this
  have HS := Lib.hid hS
  clear c1 hS
  unfold fmtp frac
  by_cases hz : n % 1000000 = 0
  · rw [if_pos hz, List.append_nil]
    go_enter Tryz.func104, Tryz.ntmps104
    go_wp2_with (first | (go_at_call 139; refine (rxValid _ _).mono ?_; rintro e w' ⟨rfl, rfl⟩) | (go_at_call 57; refine (C1.out _).mono ?_; rintro e w' ⟨rfl, rfl⟩))
    go_ret
    exact ⟨ret_str HS.out, rfl⟩
  · rw [if_neg hz]
    have f0 : 0 ≤ n % 1000000 := by omega
    have f1 : n % 1000000 < 1000000 := by omega
    obtain ⟨T, hT⟩ : ∃ T : ByteArray, T = ⟨(49 :: dgs (n % 1000000) 6).toArray⟩ := ⟨_, rfl⟩
    have c2 := fun w => rxDigits (1000000 + n % 1000000) (by omega) (by omega) w
    rw [dec_seven _ f0 f1, ← hT] at c2
    have C2 := Lib.hid c2
    have t1 : T.size = 7 := by rw [hT, mk_size, List.length_cons, dgs_length]
    obtain ⟨U, hU⟩ : ∃ U : ByteArray, U = ⟨(dgs (n % 1000000) 6).toArray⟩ := ⟨_, rfl⟩
    have t2 : T.extract 1 7 = U := by rw [hT, hU, extract_tail _ _ _ (by rw [dgs_length])]
    have HU := Lib.hid hU
    have bz : (n % 1000000 == 0) = false := beq_eq_false_iff_ne.2 hz
    have Hz := Lib.hid hz
    clear c2 hT hU hz
    generalize hf : n % 1000000 = f at *
    go_enter Tryz.func104, Tryz.ntmps104
    go_wp2_with (first | (go_at_call 139; refine (rxValid _ _).mono ?_; rintro e w' ⟨rfl, rfl⟩) | (go_at_call 57; ((with_reducible refine (C1.out _).mono ?_); rintro e w' ⟨rfl, rfl⟩)) | (go_at_call 57; ((with_reducible refine (C2.out _).mono ?_); rintro e w' ⟨rfl, rfl⟩)))
    go_loop [5] (fun tv => ∃ (j : Nat) (T : ByteArray), j ≤ 5 ∧ f % um (j + 1) = 0 ∧ T = ⟨(dgs f (j + 1)).toArray⟩ ∧ tv = .string T) (fun tv => match tv with | .string t => t.size | _ => 0)
    case atStart => exact ⟨5, U, Nat.le_refl _, by simp only [um]; omega, HU.out, rfl⟩
    case round =>
      obtain ⟨j, V, hj, hm, hV, rfl⟩ := hrel
      have v1 : V.size = j + 1 := by rw [hV, mk_size, dgs_length]
      have vj := dgs_at f j hj V hV (by omega)
      obtain ⟨z1, z2⟩ := zero_step f j hj hm
      by_cases hd : dn f j = 0
      · have bt : ((V[j].toNat : Int) == 48) = true := by rw [vj, hd]; decide
        have j1 : 1 ≤ j := by
          rcases Nat.eq_zero_or_pos j with h | h
          · subst h
            have := z1 hd
            simp only [um] at this
            rw [Int.emod_eq_of_lt f0 f1] at this
            exact absurd this Hz.out
          · exact h
        obtain ⟨i, rfl⟩ : ∃ i, j = i + 1 := ⟨j - 1, by omega⟩
        have t3 : ∃ V' : ByteArray, V.extract 0 (i + 1) = V' ∧ V' = ⟨(dgs f (i + 1)).toArray⟩ := ⟨_, rfl, by rw [hV, dgs_succ f (i + 1), extract_init _ _ _ (by rw [dgs_length])]⟩
        obtain ⟨V', t3, hV'⟩ := t3
        have HV' := Lib.hid (And.intro hV' (z1 hd))
        have vs : V'.size = i + 1 := by rw [hV', mk_size, dgs_length]
        clear hV hV' hd z1 z2 hm vj
        go_wp2
        go_round
        case rel => exact ⟨i, V', by omega, HV'.out.2, HV'.out.1, rfl⟩
        case measure => simp; omega
      · have bt : ((V[j].toNat : Int) == 48) = false := beq_eq_false_iff_ne.2 (by omega)
        have hk : kf f = j + 1 := kf_eq (by omega) (by simp only [um]; rw [Int.emod_eq_of_lt f0 f1]; exact Hz.out) hm (z2 hd)
        have HK := Lib.hid (And.intro hk hV)
        clear hV hd z1 z2 hm vj hk
        go_wp2
        go_ret
        exact ⟨ret_str (by rw [HS.out, HK.out.2, HK.out.1, str_appendH, show (⟨#[46]⟩ : ByteArray) = ⟨[(46 : UInt8)].toArray⟩ from rfl, str_appendH]; simp), rfl⟩
theorem fmtp_len (m : Int) (h0 : 0 ≤ m) (h1 : m ≤ 1000000000000000) : (fmtp m).length ≤ 1010 := by
  have a := dec_len10 [] m (by decide) h0 h1
  have k := kf_range (m % 1000000)
  have b : (frac (m % 1000000)).length ≤ 7 := by
    unfold frac
    split
    · simp
    · rw [List.length_cons, dgs_length]; omega
  unfold fmtp
  rw [List.nil_append] at a
  rw [List.length_append]; omega
set_option maxRecDepth 100000 in
set_option maxHeartbeats 1000000 in
theorem rxFormat (n : Int) (w : World) :
    Calls Tryz.prog 104 #[.int .i64 n] w fun e w' => e = .returned (.string ⟨(fmtl n).toArray⟩) ∧ w = w' := by
  cases hv : vld n
  · rw [show fmtl n = [] from if_neg (by rw [hv]; decide)]
    go_enter Tryz.func104, Tryz.ntmps104
    go_wp2_with (go_at_call 139; refine (rxValid _ _).mono ?_; rintro e w' ⟨rfl, rfl⟩)
    go_ret
    exact ⟨rfl, rfl⟩
  · obtain ⟨a1, a2⟩ := vld_bd hv
    by_cases hn : n < 0
    · obtain ⟨m, rfl⟩ : ∃ m, n = -m := ⟨-n, by omega⟩
      have e : fmtl (-m) = [45] ++ fmtp m := by unfold fmtl; rw [if_pos hv, if_pos hn, Int.neg_neg]; rfl
      obtain ⟨S, hS⟩ : ∃ S : ByteArray, S = ⟨(fmtp m).toArray⟩ := ⟨_, rfl⟩
      have c1 := fun w => rxFormatP m (by omega) (by omega) w
      rw [← hS] at c1
      have C1 := Lib.hid c1
      have s1 : S.size ≤ 1010 := by rw [hS, mk_size]; exact fmtp_len m (by omega) (by omega)
      have HS := Lib.hid (And.intro hS e)
      have m0 : 0 < m := by omega
      have m1 : m ≤ 1000000000000000 := by omega
      clear c1 hS e hn a1 a2
      go_enter Tryz.func104, Tryz.ntmps104
      go_wp2_with (first | (go_at_call 139; refine (rxValid _ _).mono ?_; rintro e w' ⟨rfl, rfl⟩) | (go_at_call 104; refine (C1.out _).mono ?_; rintro e w' ⟨rfl, rfl⟩))
      go_ret
      exact ⟨ret_str (by rw [HS.out.1, HS.out.2, show (⟨#[45]⟩ : ByteArray) = ⟨[(45 : UInt8)].toArray⟩ from rfl, str_appendH]), rfl⟩
    · rw [show fmtl n = fmtp n from (if_pos hv).trans (if_neg hn)]
      exact rxFormatP n (by omega) a2 w
end Go.Proofs.YtbcbnkapipimmaaGreatDoor
set_option linter.unusedVariables false
set_option linter.unusedSimpArgs false
namespace Go.Proofs.YtbcbnkapipimmaaGreatDoor
open Go.RowKit
theorem rw_sign3 (w : World) : Calls Tryz.prog 73 #[.int .i64 3] w fun e w' => e = .returned (.string ⟨#[43]⟩) ∧ Qw w w' := by
  have q0 : Hid (Qw w w) := Lib.hid (Qw.refl w)
  go_enter Tryz.func73, Tryz.ntmps73
  go_wp2_with fail
  go_ret
  exact ⟨rfl, Qz⟩
theorem rw_sign4 (w : World) : Calls Tryz.prog 73 #[.int .i64 4] w fun e w' => e = .returned (.string ⟨#[45]⟩) ∧ Qw w w' := by
  have q0 : Hid (Qw w w) := Lib.hid (Qw.refl w)
  go_enter Tryz.func73, Tryz.ntmps73
  go_wp2_with fail
  go_ret
  exact ⟨rfl, Qz⟩
theorem rw_sign5 (w : World) : Calls Tryz.prog 73 #[.int .i64 5] w fun e w' => e = .returned (.string ⟨#[42]⟩) ∧ Qw w w' := by
  have q0 : Hid (Qw w w) := Lib.hid (Qw.refl w)
  go_enter Tryz.func73, Tryz.ntmps73
  go_wp2_with fail
  go_ret
  exact ⟨rfl, Qz⟩
theorem rw_sign6 (w : World) : Calls Tryz.prog 73 #[.int .i64 6] w fun e w' => e = .returned (.string ⟨#[47]⟩) ∧ Qw w w' := by
  have q0 : Hid (Qw w w) := Lib.hid (Qw.refl w)
  go_enter Tryz.func73, Tryz.ntmps73
  go_wp2_with fail
  go_ret
  exact ⟨rfl, Qz⟩
theorem rw_sign7 (w : World) : Calls Tryz.prog 73 #[.int .i64 7] w fun e w' => e = .returned (.string ⟨#[77, 79, 68]⟩) ∧ Qw w w' := by
  have q0 : Hid (Qw w w) := Lib.hid (Qw.refl w)
  go_enter Tryz.func73, Tryz.ntmps73
  go_wp2_with fail
  go_ret
  exact ⟨rfl, Qz⟩
theorem rw_sign8 (w : World) : Calls Tryz.prog 73 #[.int .i64 8] w fun e w' => e = .returned (.string ⟨#[83, 73, 78]⟩) ∧ Qw w w' := by
  have q0 : Hid (Qw w w) := Lib.hid (Qw.refl w)
  go_enter Tryz.func73, Tryz.ntmps73
  go_wp2_with fail
  go_ret
  exact ⟨rfl, Qz⟩
theorem rw_sign9 (w : World) : Calls Tryz.prog 73 #[.int .i64 9] w fun e w' => e = .returned (.string ⟨#[67, 79, 83]⟩) ∧ Qw w w' := by
  have q0 : Hid (Qw w w) := Lib.hid (Qw.refl w)
  go_enter Tryz.func73, Tryz.ntmps73
  go_wp2_with fail
  go_ret
  exact ⟨rfl, Qz⟩
theorem rw_sign10 (w : World) : Calls Tryz.prog 73 #[.int .i64 10] w fun e w' => e = .returned (.string ⟨#[84, 65, 78]⟩) ∧ Qw w w' := by
  have q0 : Hid (Qw w w) := Lib.hid (Qw.refl w)
  go_enter Tryz.func73, Tryz.ntmps73
  go_wp2_with fail
  go_ret
  exact ⟨rfl, Qz⟩
theorem rw_sign11 (w : World) : Calls Tryz.prog 73 #[.int .i64 11] w fun e w' => e = .returned (.string ⟨#[65, 84, 65, 78]⟩) ∧ Qw w w' := by
  have q0 : Hid (Qw w w) := Lib.hid (Qw.refl w)
  go_enter Tryz.func73, Tryz.ntmps73
  go_wp2_with fail
  go_ret
  exact ⟨rfl, Qz⟩
theorem rw_sign12 (w : World) : Calls Tryz.prog 73 #[.int .i64 12] w fun e w' => e = .returned (.string ⟨#[83, 81, 82, 84]⟩) ∧ Qw w w' := by
  have q0 : Hid (Qw w w) := Lib.hid (Qw.refl w)
  go_enter Tryz.func73, Tryz.ntmps73
  go_wp2_with fail
  go_ret
  exact ⟨rfl, Qz⟩
theorem rw_sign13 (w : World) : Calls Tryz.prog 73 #[.int .i64 13] w fun e w' => e = .returned (.string ⟨#[65, 66, 83]⟩) ∧ Qw w w' := by
  have q0 : Hid (Qw w w) := Lib.hid (Qw.refl w)
  go_enter Tryz.func73, Tryz.ntmps73
  go_wp2_with fail
  go_ret
  exact ⟨rfl, Qz⟩
theorem rw_sign14 (w : World) : Calls Tryz.prog 73 #[.int .i64 14] w fun e w' => e = .returned (.string ⟨#[82, 79, 85, 78, 68]⟩) ∧ Qw w w' := by
  have q0 : Hid (Qw w w) := Lib.hid (Qw.refl w)
  go_enter Tryz.func73, Tryz.ntmps73
  go_wp2_with fail
  go_ret
  exact ⟨rfl, Qz⟩
theorem rw_sign15 (w : World) : Calls Tryz.prog 73 #[.int .i64 15] w fun e w' => e = .returned (.string ⟨#[70, 73, 88]⟩) ∧ Qw w w' := by
  have q0 : Hid (Qw w w) := Lib.hid (Qw.refl w)
  go_enter Tryz.func73, Tryz.ntmps73
  go_wp2_with fail
  go_ret
  exact ⟨rfl, Qz⟩
theorem rw_sign16 (w : World) : Calls Tryz.prog 73 #[.int .i64 16] w fun e w' => e = .returned (.string ⟨#[70, 85, 80]⟩) ∧ Qw w w' := by
  have q0 : Hid (Qw w w) := Lib.hid (Qw.refl w)
  go_enter Tryz.func73, Tryz.ntmps73
  go_wp2_with fail
  go_ret
  exact ⟨rfl, Qz⟩
theorem rw_sign17 (w : World) : Calls Tryz.prog 73 #[.int .i64 17] w fun e w' => e = .returned (.string ⟨#[69, 81]⟩) ∧ Qw w w' := by
  have q0 : Hid (Qw w w) := Lib.hid (Qw.refl w)
  go_enter Tryz.func73, Tryz.ntmps73
  go_wp2_with fail
  go_ret
  exact ⟨rfl, Qz⟩
theorem rw_sign18 (w : World) : Calls Tryz.prog 73 #[.int .i64 18] w fun e w' => e = .returned (.string ⟨#[78, 69]⟩) ∧ Qw w w' := by
  have q0 : Hid (Qw w w) := Lib.hid (Qw.refl w)
  go_enter Tryz.func73, Tryz.ntmps73
  go_wp2_with fail
  go_ret
  exact ⟨rfl, Qz⟩
theorem rw_sign19 (w : World) : Calls Tryz.prog 73 #[.int .i64 19] w fun e w' => e = .returned (.string ⟨#[71, 84]⟩) ∧ Qw w w' := by
  have q0 : Hid (Qw w w) := Lib.hid (Qw.refl w)
  go_enter Tryz.func73, Tryz.ntmps73
  go_wp2_with fail
  go_ret
  exact ⟨rfl, Qz⟩
theorem rw_sign20 (w : World) : Calls Tryz.prog 73 #[.int .i64 20] w fun e w' => e = .returned (.string ⟨#[71, 69]⟩) ∧ Qw w w' := by
  have q0 : Hid (Qw w w) := Lib.hid (Qw.refl w)
  go_enter Tryz.func73, Tryz.ntmps73
  go_wp2_with fail
  go_ret
  exact ⟨rfl, Qz⟩
theorem rw_sign21 (w : World) : Calls Tryz.prog 73 #[.int .i64 21] w fun e w' => e = .returned (.string ⟨#[76, 84]⟩) ∧ Qw w w' := by
  have q0 : Hid (Qw w w) := Lib.hid (Qw.refl w)
  go_enter Tryz.func73, Tryz.ntmps73
  go_wp2_with fail
  go_ret
  exact ⟨rfl, Qz⟩
theorem rw_sign22 (w : World) : Calls Tryz.prog 73 #[.int .i64 22] w fun e w' => e = .returned (.string ⟨#[76, 69]⟩) ∧ Qw w w' := by
  have q0 : Hid (Qw w w) := Lib.hid (Qw.refl w)
  go_enter Tryz.func73, Tryz.ntmps73
  go_wp2_with fail
  go_ret
  exact ⟨rfl, Qz⟩
theorem rw_sign23 (w : World) : Calls Tryz.prog 73 #[.int .i64 23] w fun e w' => e = .returned (.string ⟨#[65, 78, 68]⟩) ∧ Qw w w' := by
  have q0 : Hid (Qw w w) := Lib.hid (Qw.refl w)
  go_enter Tryz.func73, Tryz.ntmps73
  go_wp2_with fail
  go_ret
  exact ⟨rfl, Qz⟩
theorem rw_sign24 (w : World) : Calls Tryz.prog 73 #[.int .i64 24] w fun e w' => e = .returned (.string ⟨#[79, 82]⟩) ∧ Qw w w' := by
  have q0 : Hid (Qw w w) := Lib.hid (Qw.refl w)
  go_enter Tryz.func73, Tryz.ntmps73
  go_wp2_with fail
  go_ret
  exact ⟨rfl, Qz⟩
theorem rw_sign25 (w : World) : Calls Tryz.prog 73 #[.int .i64 25] w fun e w' => e = .returned (.string ⟨#[88, 79, 82]⟩) ∧ Qw w w' := by
  have q0 : Hid (Qw w w) := Lib.hid (Qw.refl w)
  go_enter Tryz.func73, Tryz.ntmps73
  go_wp2_with fail
  go_ret
  exact ⟨rfl, Qz⟩
theorem rw_sign (o : Nat) (h : 3 ≤ o) (h' : o < 26) (w : World) : Calls Tryz.prog 73 #[.int .i64 (o : Int)] w fun e w' => e = .returned (.string (bs (Sy.onm o))) ∧ Qw w w' := by
  match o, h, h' with
  | 3, _, _ => exact rw_sign3 w
  | 4, _, _ => exact rw_sign4 w
  | 5, _, _ => exact rw_sign5 w
  | 6, _, _ => exact rw_sign6 w
  | 7, _, _ => exact rw_sign7 w
  | 8, _, _ => exact rw_sign8 w
  | 9, _, _ => exact rw_sign9 w
  | 10, _, _ => exact rw_sign10 w
  | 11, _, _ => exact rw_sign11 w
  | 12, _, _ => exact rw_sign12 w
  | 13, _, _ => exact rw_sign13 w
  | 14, _, _ => exact rw_sign14 w
  | 15, _, _ => exact rw_sign15 w
  | 16, _, _ => exact rw_sign16 w
  | 17, _, _ => exact rw_sign17 w
  | 18, _, _ => exact rw_sign18 w
  | 19, _, _ => exact rw_sign19 w
  | 20, _, _ => exact rw_sign20 w
  | 21, _, _ => exact rw_sign21 w
  | 22, _, _ => exact rw_sign22 w
  | 23, _, _ => exact rw_sign23 w
  | 24, _, _ => exact rw_sign24 w
  | 25, _, _ => exact rw_sign25 w
  | n + 26, _, h => omega
theorem rw_closed_num {n : Int} (h0 : 0 ≤ n) (h1 : n < 1000000000000000) : WrC 71 (Sy.bcl (.mk 0 n [])) 0 n [] := by
  intro a cap S w hO hT hk
  obtain ⟨m1, m2⟩ := hk.cap
  have e2 : Sy.bcl (.mk 0 n []) = fmtp n := by simp [Sy.bcl, Sy.bpc]
  have eF : fmtl n = fmtp n := by unfold fmtl; rw [if_pos (by unfold vld; simp; omega), if_neg (by omega)]
  have c1 : ∀ w1, Calls Tryz.prog 104 #[.int .i64 n] w1 fun e w' => e = .returned (.string (bs (fmtl n))) ∧ w1 = w' := fun w1 => rxFormat n w1
  rw [e2, ← eF]
  have C1 := Lib.hid c1
  clear c1 hO hT hk e2 eF m1
  have q0 : Hid (Qw w w) := Lib.hid (Qw.refl w)
  show Calls Tryz.prog 71 #[.agg #[.int .i64 0, .int .i64 n, .slice a 0 cap]] w _
  go_enter Tryz.func71, Tryz.ntmps71
  go_wp2_with (go_at_call 104; ((with_reducible refine (C1.out _).mono ?_); rintro e w' ⟨rfl, rfl⟩))
  go_ret
  exact ⟨rfl, Qz⟩
theorem rw_closed_var {op n : Int} {ks : List Sy.Ex} {r : List UInt8} (lr : r.length ≤ 1000000000000) (h : WrC 58 r op n ks) : WrC 71 (r) 1 0 [.mk op n ks] := by
  intro a cap S w hO hT hk
  cases hk with
  | mk b off cap ks' ad cc hS h1 h2 hc hkk =>
    obtain ⟨z0, z1, z2⟩ := hc 0 (by simp)
    have KK := hkk 0 (by simp)
    have c1 := fun w1 (h1 : Ow w1) (h2 : Tb w1) (h3 : KidsB w1 S (ad 0) (cc 0) ks) => h (ad 0) (cc 0) S w1 h1 h2 h3
    have y0 : w.cell? ⟨b, off, none⟩ = some (.int .i64 op) := by simpa [Sy.Ex.op] using z0
    have y1 : w.cell? ⟨b, off + 1, none⟩ = some (.int .i64 n) := by simpa [Sy.Ex.n] using z1
    have y2 : w.cell? ⟨b, off + 2, none⟩ = some (.slice (ad 0) ks.length (cc 0)) := by simpa [Sy.Ex.ks] using z2
    have bl := cell_lt z0
    have hne : b ≠ w.heap.size := by omega
    have C1 := Lib.hid c1
    have HO := Lib.hid hO
    have HT := Lib.hid hT
    have HK : Hid (KidsB w S (ad 0) (cc 0) ks) := Lib.hid KK
    clear c1 hO hT hc hkk KK z0 z1 z2 h lr
    have q0 : Hid (Qw w w) := Lib.hid (Qw.refl w)
    show Calls Tryz.prog 71 #[.agg #[.int .i64 1, .int .i64 0, .slice (some ⟨b, off, none⟩) 1 cap]] w _
    go_enter Tryz.func71, Tryz.ntmps71
    go_wp2_with (go_at_call 58; ((with_reducible refine (C1.out _ (Ow.kept HO.out Qz) (Tb.kept HT.out Qz) (KidsB.kept HK.out Qz)).mono ?_); rintro e w' ⟨rfl, q⟩; replace q0 : Hid (Qw w w') := Lib.hid (Qw.trans Qz q); clear q))
    go_ret
    exact ⟨rfl, q0.out⟩
theorem rw_shown_neg {op n : Int} {ks : List Sy.Ex} {r : List UInt8} (lr : r.length ≤ 1000000000000) (h : WrC 71 r op n ks) : WrC 38 (45 :: r) 2 0 [.mk op n ks] := by
  intro a cap S w hO hT hk
  cases hk with
  | mk b off cap ks' ad cc hS h1 h2 hc hkk =>
    obtain ⟨z0, z1, z2⟩ := hc 0 (by simp)
    have KK := hkk 0 (by simp)
    have c1 := fun w1 (h1 : Ow w1) (h2 : Tb w1) (h3 : KidsB w1 S (ad 0) (cc 0) ks) => h (ad 0) (cc 0) S w1 h1 h2 h3
    have eB : bs [45] ++ bs r = bs (45 :: r) := by rw [bs_app]; rfl
    have hz1 : ¬ 9223372036854775807 < 1 + (bs r).size := by simp only [bs_size]; omega
    generalize 45 :: r = r2 at eB ⊢
    have EB := Lib.hid eB
    have y0 : w.cell? ⟨b, off, none⟩ = some (.int .i64 op) := by simpa [Sy.Ex.op] using z0
    have y1 : w.cell? ⟨b, off + 1, none⟩ = some (.int .i64 n) := by simpa [Sy.Ex.n] using z1
    have y2 : w.cell? ⟨b, off + 2, none⟩ = some (.slice (ad 0) ks.length (cc 0)) := by simpa [Sy.Ex.ks] using z2
    have bl := cell_lt z0
    have hne : b ≠ w.heap.size := by omega
    have C1 := Lib.hid c1
    have HO := Lib.hid hO
    have HT := Lib.hid hT
    have HK : Hid (KidsB w S (ad 0) (cc 0) ks) := Lib.hid KK
    clear c1 hO hT hc hkk KK z0 z1 z2 h lr eB
    have q0 : Hid (Qw w w) := Lib.hid (Qw.refl w)
    show Calls Tryz.prog 38 #[.agg #[.int .i64 2, .int .i64 0, .slice (some ⟨b, off, none⟩) 1 cap]] w _
    go_enter Tryz.func38, Tryz.ntmps38
    go_wp2_with (go_at_call 71; ((with_reducible refine (C1.out _ (Ow.kept HO.out Qz) (Tb.kept HT.out Qz) (KidsB.kept HK.out Qz)).mono ?_); rintro e w' ⟨rfl, q⟩; replace q0 : Hid (Qw w w') := Lib.hid (Qw.trans Qz q); clear q))
    go_ret
    exact ⟨by rw [← EB.out]; rfl, q0.out⟩
theorem rw_cell_num {n : Int} {ks : List Sy.Ex} {r : List UInt8} (lr : r.length ≤ 1000000000000) (h : WrC 71 r 0 n ks) : WrC 58 (35 :: r) 0 n ks := by
  intro a cap S w hO hT hk
  obtain ⟨m1, m2⟩ := hk.cap
  have c1 := fun w1 (h1 : Ow w1) (h2 : Tb w1) (h3 : KidsB w1 S a cap ks) => h a cap S w1 h1 h2 h3
  have eB : bs [35] ++ bs r = bs (35 :: r) := by simp only [bs_app, List.append_assoc]; rfl
  have hz1 : ¬ 9223372036854775807 < 1 + (bs r).size := by simp only [bs_size]; omega
  generalize 35 :: r = r2 at eB ⊢
  have EB := Lib.hid eB
  have C1 := Lib.hid c1
  have HO := Lib.hid hO
  have HT := Lib.hid hT
  have HK := Lib.hid hk
  clear c1 hO hT hk eB h lr
  have q0 : Hid (Qw w w) := Lib.hid (Qw.refl w)
  go_enter Tryz.func58, Tryz.ntmps58
  go_wp2_with (first | (go_at_call 71; ((with_reducible refine (C1.out _ (Ow.kept HO.out Qz) (Tb.kept HT.out Qz) (KidsB.kept HK.out Qz)).mono ?_); rintro e w' ⟨rfl, q⟩; replace q0 : Hid (Qw w w') := Lib.hid (Qw.trans Qz q); clear q)))
  go_ret
  exact ⟨by rw [← EB.out]; rfl, q0.out⟩
theorem rw_cell_var {n : Int} {ks : List Sy.Ex} {r : List UInt8} (lr : r.length ≤ 1000000000000) (h : WrC 71 r 1 n ks) : WrC 58 (35 :: r) 1 n ks := by
  intro a cap S w hO hT hk
  obtain ⟨m1, m2⟩ := hk.cap
  have c1 := fun w1 (h1 : Ow w1) (h2 : Tb w1) (h3 : KidsB w1 S a cap ks) => h a cap S w1 h1 h2 h3
  have eB : bs [35] ++ bs r = bs (35 :: r) := by simp only [bs_app, List.append_assoc]; rfl
  have hz1 : ¬ 9223372036854775807 < 1 + (bs r).size := by simp only [bs_size]; omega
  generalize 35 :: r = r2 at eB ⊢
  have EB := Lib.hid eB
  have C1 := Lib.hid c1
  have HO := Lib.hid hO
  have HT := Lib.hid hT
  have HK := Lib.hid hk
  clear c1 hO hT hk eB h lr
  have q0 : Hid (Qw w w) := Lib.hid (Qw.refl w)
  go_enter Tryz.func58, Tryz.ntmps58
  go_wp2_with (first | (go_at_call 71; ((with_reducible refine (C1.out _ (Ow.kept HO.out Qz) (Tb.kept HT.out Qz) (KidsB.kept HK.out Qz)).mono ?_); rintro e w' ⟨rfl, q⟩; replace q0 : Hid (Qw w w') := Lib.hid (Qw.trans Qz q); clear q)))
  go_ret
  exact ⟨by rw [← EB.out]; rfl, q0.out⟩
theorem rw_cell_br {op n : Int} {ks : List Sy.Ex} {r : List UInt8} (d0 : op ≠ 0) (d1 : op ≠ 1) (lr : r.length ≤ 1000000000000) (h : WrC 38 r op n ks) : WrC 58 (35 :: (91 :: r ++ [93])) op n ks := by
  intro a cap S w hO hT hk
  obtain ⟨m1, m2⟩ := hk.cap
  have c1 := fun w1 (h1 : Ow w1) (h2 : Tb w1) (h3 : KidsB w1 S a cap ks) => h a cap S w1 h1 h2 h3
  have eB : bs [35, 91] ++ bs r ++ bs [93] = bs (35 :: (91 :: r ++ [93])) := by simp only [bs_app, List.append_assoc]; rfl
  have hz1 : ¬ 9223372036854775807 < 2 + (bs r).size := by simp only [bs_size]; omega
  have hz2 : ¬ 9223372036854775807 < 2 + (bs r).size + 1 := by simp only [bs_size]; omega
  have e0 : (op == 0) = false := beq_eq_false_iff_ne.2 d0
  have e1 : (op == 1) = false := beq_eq_false_iff_ne.2 d1
  clear d0 d1
  generalize 35 :: (91 :: r ++ [93]) = r2 at eB ⊢
  have EB := Lib.hid eB
  have C1 := Lib.hid c1
  have HO := Lib.hid hO
  have HT := Lib.hid hT
  have HK := Lib.hid hk
  clear c1 hO hT hk eB h lr
  have q0 : Hid (Qw w w) := Lib.hid (Qw.refl w)
  go_enter Tryz.func58, Tryz.ntmps58
  go_wp2_with (first | (go_at_call 38; ((with_reducible refine (C1.out _ (Ow.kept HO.out Qz) (Tb.kept HT.out Qz) (KidsB.kept HK.out Qz)).mono ?_); rintro e w' ⟨rfl, q⟩; replace q0 : Hid (Qw w w') := Lib.hid (Qw.trans Qz q); clear q)))
  go_ret
  exact ⟨by rw [← EB.out]; rfl, q0.out⟩
theorem rw_closed_lo {o : Nat} {n : Int} {ks : List Sy.Ex} {r : List UInt8} (d : o ≠ 0 ∧ o ≠ 1 ∧ o < 8) (lr : r.length ≤ 1000000000000) (h : WrC 38 r (o : Int) n ks) : WrC 71 (91 :: r ++ [93]) (o : Int) n ks := by
  intro a cap S w hO hT hk
  obtain ⟨m1, m2⟩ := hk.cap
  have c1 := fun w1 (h1 : Ow w1) (h2 : Tb w1) (h3 : KidsB w1 S a cap ks) => h a cap S w1 h1 h2 h3
  have eB : bs [91] ++ bs r ++ bs [93] = bs (91 :: r ++ [93]) := by simp only [bs_app, List.append_assoc]; rfl
  have hz1 : ¬ 9223372036854775807 < 1 + (bs r).size := by simp only [bs_size]; omega
  have hz2 : ¬ 9223372036854775807 < 1 + (bs r).size + 1 := by simp only [bs_size]; omega
  have e0 : ((o : Int) == 0) = false := beq_eq_false_iff_ne.2 (by omega)
  have e1 : ((o : Int) == 1) = false := beq_eq_false_iff_ne.2 (by omega)
  have e11 : ((o : Int) == 11) = false := beq_eq_false_iff_ne.2 (by omega)
  have g8 : ¬ (8 : Int) ≤ (o : Int) := by omega
  clear d
  generalize 91 :: r ++ [93] = r2 at eB ⊢
  have EB := Lib.hid eB
  have C1 := Lib.hid c1
  have HO := Lib.hid hO
  have HT := Lib.hid hT
  have HK := Lib.hid hk
  clear c1 hO hT hk eB h lr
  have q0 : Hid (Qw w w) := Lib.hid (Qw.refl w)
  go_enter Tryz.func71, Tryz.ntmps71
  go_wp2_with (first | (go_at_call 38; ((with_reducible refine (C1.out _ (Ow.kept HO.out Qz) (Tb.kept HT.out Qz) (KidsB.kept HK.out Qz)).mono ?_); rintro e w' ⟨rfl, q⟩; replace q0 : Hid (Qw w w') := Lib.hid (Qw.trans Qz q); clear q)))
  go_ret
  exact ⟨by rw [← EB.out]; rfl, q0.out⟩
theorem rw_closed_hi {o : Nat} {n : Int} {ks : List Sy.Ex} {r : List UInt8} (d : 16 < o) (lr : r.length ≤ 1000000000000) (h : WrC 38 r (o : Int) n ks) : WrC 71 (91 :: r ++ [93]) (o : Int) n ks := by
  intro a cap S w hO hT hk
  obtain ⟨m1, m2⟩ := hk.cap
  have c1 := fun w1 (h1 : Ow w1) (h2 : Tb w1) (h3 : KidsB w1 S a cap ks) => h a cap S w1 h1 h2 h3
  have eB : bs [91] ++ bs r ++ bs [93] = bs (91 :: r ++ [93]) := by simp only [bs_app, List.append_assoc]; rfl
  have hz1 : ¬ 9223372036854775807 < 1 + (bs r).size := by simp only [bs_size]; omega
  have hz2 : ¬ 9223372036854775807 < 1 + (bs r).size + 1 := by simp only [bs_size]; omega
  have e0 : ((o : Int) == 0) = false := beq_eq_false_iff_ne.2 (by omega)
  have e1 : ((o : Int) == 1) = false := beq_eq_false_iff_ne.2 (by omega)
  have e11 : ((o : Int) == 11) = false := beq_eq_false_iff_ne.2 (by omega)
  have g8 : (8 : Int) ≤ (o : Int) := by omega
  have g16 : ¬ (o : Int) ≤ 16 := by omega
  clear d
  generalize 91 :: r ++ [93] = r2 at eB ⊢
  have EB := Lib.hid eB
  have C1 := Lib.hid c1
  have HO := Lib.hid hO
  have HT := Lib.hid hT
  have HK := Lib.hid hk
  clear c1 hO hT hk eB h lr
  have q0 : Hid (Qw w w) := Lib.hid (Qw.refl w)
  go_enter Tryz.func71, Tryz.ntmps71
  go_wp2_with (first | (go_at_call 38; ((with_reducible refine (C1.out _ (Ow.kept HO.out Qz) (Tb.kept HT.out Qz) (KidsB.kept HK.out Qz)).mono ?_); rintro e w' ⟨rfl, q⟩; replace q0 : Hid (Qw w w') := Lib.hid (Qw.trans Qz q); clear q)))
  go_ret
  exact ⟨by rw [← EB.out]; rfl, q0.out⟩
theorem rw_shown_cl {o : Nat} {n : Int} {ks : List Sy.Ex} {r : List UInt8} (ho : o < 26) (d : o ≠ 2) (dk : Sy.kds o ≠ 2) (lr : r.length ≤ 1000000000000) (h : WrC 71 r (o : Int) n ks) : WrC 38 (r) (o : Int) n ks := by
  intro a cap S w hO hT hk
  obtain ⟨m1, m2⟩ := hk.cap
  have c1 := fun w1 (h1 : Ow w1) (h2 : Tb w1) (h3 : KidsB w1 S a cap ks) => h a cap S w1 h1 h2 h3
  have eB : bs r = bs (r) := rfl
  have e2 : ((o : Int) == 2) = false := beq_eq_false_iff_ne.2 (by omega)
  have KD : Hid (∀ w : World, Calls Tryz.prog 72 #[.int .i64 (o : Int)] w fun e w' => e = .returned (.int .i64 (Sy.kds o : Nat)) ∧ w = w') := Lib.hid fun w => rw_kids o ho w
  have ek : (((Sy.kds o : Nat) : Int) == 2) = false := beq_eq_false_iff_ne.2 (by omega)
  generalize Sy.kds o = kk at *
  clear d dk ho
  have EB := Lib.hid eB
  have C1 := Lib.hid c1
  have HO := Lib.hid hO
  have HT := Lib.hid hT
  have HK := Lib.hid hk
  clear c1 hO hT hk eB h lr
  have q0 : Hid (Qw w w) := Lib.hid (Qw.refl w)
  go_enter Tryz.func38, Tryz.ntmps38
  go_wp2_with (first | (go_at_call 71; ((with_reducible refine (C1.out _ (Ow.kept HO.out Qz) (Tb.kept HT.out Qz) (KidsB.kept HK.out Qz)).mono ?_); rintro e w' ⟨rfl, q⟩; replace q0 : Hid (Qw w w') := Lib.hid (Qw.trans Qz q); clear q)) | (go_at_call 72; ((with_reducible refine (KD.out _).mono ?_); rintro e w' ⟨rfl, rfl⟩)))
  go_ret
  exact ⟨rfl, q0.out⟩
theorem rw_shown_atan {n : Int} {ks : List Sy.Ex} {r : List UInt8} (lr : r.length ≤ 1000000000000) (h : WrC 71 r 11 n ks) : WrC 38 (r) 11 n ks := by
  intro a cap S w hO hT hk
  obtain ⟨m1, m2⟩ := hk.cap
  have c1 := fun w1 (h1 : Ow w1) (h2 : Tb w1) (h3 : KidsB w1 S a cap ks) => h a cap S w1 h1 h2 h3
  have eB : bs r = bs (r) := rfl
  have KD : Hid (∀ w : World, Calls Tryz.prog 72 #[.int .i64 11] w fun e w' => e = .returned (.int .i64 2) ∧ w = w') := Lib.hid fun w => rw_kids1 rfl w
  have EB := Lib.hid eB
  have C1 := Lib.hid c1
  have HO := Lib.hid hO
  have HT := Lib.hid hT
  have HK := Lib.hid hk
  clear c1 hO hT hk eB h lr
  have q0 : Hid (Qw w w) := Lib.hid (Qw.refl w)
  go_enter Tryz.func38, Tryz.ntmps38
  go_wp2_with (first | (go_at_call 71; ((with_reducible refine (C1.out _ (Ow.kept HO.out Qz) (Tb.kept HT.out Qz) (KidsB.kept HK.out Qz)).mono ?_); rintro e w' ⟨rfl, q⟩; replace q0 : Hid (Qw w w') := Lib.hid (Qw.trans Qz q); clear q)) | (go_at_call 72; ((with_reducible refine (KD.out _).mono ?_); rintro e w' ⟨rfl, rfl⟩)))
  go_ret
  exact ⟨rfl, q0.out⟩
end Go.Proofs.YtbcbnkapipimmaaGreatDoor

