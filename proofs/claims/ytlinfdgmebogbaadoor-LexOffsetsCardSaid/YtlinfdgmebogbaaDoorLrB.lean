
/- The walks of the specification: names. -/
import Derived.Test.YtlinfdgmebogbaaDoorLrA
import Derived.Outline
set_option linter.unusedVariables false
set_option linter.unusedSimpArgs false
namespace Go.Proofs.YtlinfdgmebogbaaDoor
open Go.RowKit

theorem isnm_fin (s : ByteArray) (h : ∀ j, j < 24 → nb j ≠ s) : isnm s.data.toList = false := by
  unfold isnm
  rw [Bool.eq_false_iff, ne_eq, List.contains_iff_mem, List.mem_iff_getElem]
  rintro ⟨j, hj, e⟩
  rw [Lx.nms_length] at hj
  refine h j hj ?_
  unfold nb Lx.nm
  rw [List.getD_eq_getElem?_getD, List.getElem?_eq_getElem (by rw [Lx.nms_length]; exact hj)]
  simp only [Option.getD_some, e, bs_of]
theorem isnm_hit (s : ByteArray) (j : Nat) (hj : j < 24) (h : nb j = s) : isnm s.data.toList = true := by
  unfold isnm
  rw [List.contains_iff_mem, List.mem_iff_getElem]
  refine ⟨j, by rw [Lx.nms_length]; exact hj, ?_⟩
  rw [← h, nb_list]
  unfold Lx.nm
  rw [List.getD_eq_getElem?_getD, List.getElem?_eq_getElem (by rw [Lx.nms_length]; exact hj)]; rfl

theorem nmA_at {w : World} {b : Nat} {t : TypeId} (h : Bx w b nmA t) (j : Nat) (hj : j < 24) : w.cell? ⟨b, j, none⟩ = some (.string (nb j)) := by
  rw [h.cell j]; unfold nmA; rw [List.getElem?_toArray]; exact nmA_get j hj

set_option maxRecDepth 100000 in
set_option maxHeartbeats 1000000 in
theorem lrName (s : ByteArray) (w : World) :
    Calls Tryd.prog 19 #[.string s] w fun e w' => e = .returned (.bool (isnm s.data.toList)) ∧ Qw w w' := by
  go_enter Tryd.func19, Tryd.ntmps19
  go_wp2_with (go_at_call 31; ((with_reducible refine (lrNames _).mono ?_); rintro e w1 ⟨rfl, ⟨t, hb⟩, q1⟩))
  obtain ⟨B, hB⟩ : ∃ B, B = w.heap.size := ⟨_, rfl⟩
  rw [← hB] at hb ⊢
  have HB := Lib.hid hb
  have Q1 := Lib.hid q1
  clear hb q1 hB
  go_loop [4] (fun kv => ∃ k : Nat, k ≤ 24 ∧ (∀ j, j < k → nb j ≠ s) ∧ kv = .int .i64 (k : Int)) (fun kv => 24 - (intOf kv).toNat)
  case atStart => exact ⟨0, by omega, fun j hj => by omega, rfl⟩
  case round =>
    obtain ⟨k, hk, hn, rfl⟩ := hrel
    have HN := Lib.hid hn
    clear hn
    by_cases h24 : k < 24
    · have ck := nmA_at HB.out k h24
      have bq := beq_txt (nb k) s
      by_cases he : nb k = s
      · rw [decide_eq_true he] at bq
        have HE := Lib.hid he
        clear he
        go_wp2
        go_ret
        exact ⟨ret_bool5 (isnm_hit s k h24 HE.out).symm, Q1.out⟩
      · rw [decide_eq_false he] at bq
        have HE := Lib.hid he
        clear he
        go_wp2
        go_round
        case rel => exact ⟨k + 1, by omega, fun j hj => by
          rcases Nat.lt_or_ge j k with h | h
          · exact HN.out j h
          · obtain rfl : j = k := by omega
            exact HE.out, by go_num⟩
        case measure => simp [intOf]; omega
    · obtain rfl : k = 24 := by omega
      clear h24
      go_wp2
      go_ret
      exact ⟨ret_bool5 (isnm_fin s HN.out).symm, Q1.out⟩

theorem pfx_at (s n : ByteArray) (a : Nat) (ha : a ≤ s.size) : Lx.pfx n.data.toList (s.data.toList.drop a) = (decide ((n.size : Int) ≤ (s.size : Int) - (a : Int)) && decide (s.extract a (a + n.size) = n)) := by
  have nl : n.data.toList.length = n.size := size_len n
  unfold Lx.pfx
  rw [List.length_drop, nl, size_len]
  congr 1
  · exact decide_eq_decide.2 (by omega)
  · have e : (s.extract a (a + n.size)).data.toList = (s.data.toList.drop a).take n.size := by rw [Lib.extract_data, Nat.add_sub_cancel_left]
    rw [← e]
    refine decide_eq_decide.2 ⟨fun h => ?_, fun h => by rw [h]⟩
    exact ByteArray.ext (Array.toList_inj.1 h)

set_option maxRecDepth 100000 in
set_option maxHeartbeats 2000000 in
theorem lrNamed (s : ByteArray) (a : Nat) (hs : s.size ≤ maxLen) (ha : a ≤ s.size) (w : World) :
    Calls Tryd.prog 29 #[.string s, .int .i64 (a : Int)] w fun e w' => e = .returned (.string (bs (Lx.fnm (s.data.toList.drop a)))) ∧ Qw w w' := by
  have hm : s.size ≤ 9223372036854775807 := hs
  obtain ⟨L, hL⟩ : ∃ L, L = s.data.toList.drop a := ⟨_, rfl⟩
  have Ls : L.length = s.size - a := by rw [hL, List.length_drop, size_len]
  have px := fun n => pfx_at s n a ha
  rw [← hL] at px ⊢
  have PX := Lib.hid px
  clear px hL
  have e1 : IntKind.i64.wrap ((s.size : Int) - (a : Int)) = (s.size : Int) - (a : Int) := IntWalk.i64_in _ (by omega)
  go_enter Tryd.func29, Tryd.ntmps29
  go_wp2_with (go_at_call 31; ((with_reducible refine (lrNames _).mono ?_); rintro e w1 ⟨rfl, ⟨t, hb⟩, q1⟩))
  obtain ⟨B, hB⟩ : ∃ B, B = w.heap.size := ⟨_, rfl⟩
  rw [← hB] at hb ⊢
  have HB := Lib.hid hb
  have Q1 := Lib.hid q1
  clear hb q1 hB
  go_loopw [5, 7] (fun bv kv wr => ∃ k : Nat, k ≤ 24 ∧ bv = .string (bs (Lx.nfold L k)) ∧ kv = .int .i64 (k : Int) ∧ Bx wr B nmA t ∧ Qw w wr) (fun _ kv _ => 24 - (intOf kv).toNat)
  case atStart => exact ⟨0, by omega, rfl, rfl, HB.out, Q1.out⟩
  case round =>
    obtain ⟨k, hk, rfl, rfl, hBx, hQ⟩ := hrel
    have BX := Lib.hid hBx
    have QW := Lib.hid hQ
    clear hBx hQ
    have fl := Lx.nfold_le L k hk
    rw [Ls, ← bs_size] at fl
    by_cases h24 : k < 24
    · have ck := nmA_at BX.out k h24
      have sc := Lx.nfold_succ L k h24
      have ns := nb_size k
      have px := PX.out (nb k)
      rw [nb_list] at px
      have nl : (nb k).size = (Lx.nm k).length := by unfold nb; rw [bs_size]
      have bl := bs_size (Lx.nfold L k)
      unfold Lx.nstep at sc
      rw [← bl, ← nl, px] at sc
      obtain ⟨Z, hZ⟩ : ∃ Z, bs (Lx.nfold L (k + 1)) = Z := ⟨_, rfl⟩
      rw [sc] at hZ
      have YES : (bs (Lx.nfold L k)).size < (nb k).size → ((nb k).size : Int) ≤ (s.size : Int) - (a : Int) → s.extract a (a + (nb k).size) = nb k → nb k = Z := fun h1 h2 h3 => by
        rw [decide_eq_true h1, decide_eq_true h2, decide_eq_true h3] at hZ; exact hZ
      have NO : ¬ ((bs (Lx.nfold L k)).size < (nb k).size ∧ ((nb k).size : Int) ≤ (s.size : Int) - (a : Int) ∧ s.extract a (a + (nb k).size) = nb k) → bs (Lx.nfold L k) = Z := fun h1 => by
        rw [if_neg (by simp only [Bool.and_eq_true, decide_eq_true_iff]; exact h1)] at hZ; exact hZ
      have HZ := Lib.hid (show bs (Lx.nfold L (k + 1)) = Z by rw [sc]; exact hZ)
      clear sc px nl bl hZ
      have bq := beq_txt (s.extract a (a + (nb k).size)) (nb k)
      generalize bs (Lx.nfold L k) = X at *
      generalize nb k = Y at *
      by_cases h2 : (Y.size : Int) ≤ (s.size : Int) - (a : Int)
      · have d2 : decide ((Y.size : Int) ≤ (s.size : Int) - (a : Int)) = true := decide_eq_true h2
        have h2' : (a : Int) + (Y.size : Int) ≤ (s.size : Int) := by omega
        have z0 : (0 : Int) ≤ (a : Int) := by omega
        have z1 : (a : Int) ≤ (a : Int) + (Y.size : Int) := by omega
        have e2 : IntKind.i64.wrap ((a : Int) + (Y.size : Int)) = (a : Int) + (Y.size : Int) := IntWalk.i64_in _ (by omega)
        by_cases h3 : s.extract a (a + Y.size) = Y
        · rw [decide_eq_true h3] at bq
          by_cases h1 : X.size < Y.size
          · obtain rfl := YES h1 h2 h3
            have d1 : decide ((X.size : Int) < (Y.size : Int)) = true := decide_eq_true (by omega)
            have H3 := Lib.hid h3
            clear YES NO h3
            go_wp2
            go_quiet (fail)
            go_wp2
            go_roundw
            case rel => exact ⟨k + 1, by omega, by rw [HZ.out], by go_num, BX.out.kept (Qw.drewN wr nq), QW.out.trans (Qw.drewN wr nq)⟩
            case measure => simp [intOf]; omega
          · obtain rfl := NO (by simp [h1])
            have d1 : decide ((X.size : Int) < (Y.size : Int)) = false := decide_eq_false (by omega)
            have H3 := Lib.hid h3
            clear YES NO h3
            go_wp2
            go_quiet (fail)
            go_wp2
            go_roundw
            case rel => exact ⟨k + 1, by omega, by rw [HZ.out], by go_num, BX.out.kept (Qw.drewN wr nq), QW.out.trans (Qw.drewN wr nq)⟩
            case measure => simp [intOf]; omega
        · rw [decide_eq_false h3] at bq
          obtain rfl := NO (by simp [h3])
          have H3 := Lib.hid h3
          clear YES NO h3
          go_wp2
          go_quiet (fail)
          go_wp2
          go_roundw
          case rel => exact ⟨k + 1, by omega, by rw [HZ.out], by go_num, BX.out.kept (Qw.drewN wr nq), QW.out.trans (Qw.drewN wr nq)⟩
          case measure => simp [intOf]; omega
      · have d2 : decide ((Y.size : Int) ≤ (s.size : Int) - (a : Int)) = false := decide_eq_false h2
        obtain rfl := NO (by simp [h2])
        clear YES NO
        go_wp2
        go_quiet (fail)
        go_wp2
        go_roundw
        case rel => exact ⟨k + 1, by omega, by rw [HZ.out], by go_num, BX.out.kept (Qw.drewN wr nq), QW.out.trans (Qw.drewN wr nq)⟩
        case measure => simp [intOf]; omega
    · obtain rfl : k = 24 := by omega
      clear h24
      obtain ⟨Z, hZ⟩ : ∃ Z, bs (Lx.nfold L 24) = Z := ⟨_, rfl⟩
      rw [hZ] at fl ⊢
      have HZ := Lib.hid hZ
      clear hZ
      go_wp2
      go_ret
      exact ⟨ret_str5 (by rw [← HZ.out]; rfl), QW.out⟩

end Go.Proofs.YtlinfdgmebogbaaDoor
