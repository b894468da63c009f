
/- The walk of the specification's Args. -/
import Derived.Test.YtmfhiabajkdikaaDoorVaH
set_option linter.unusedVariables false
set_option linter.unusedSimpArgs false
namespace Go.Proofs.YtmfhiabajkdikaaDoor
open Go.RowKit


set_option maxRecDepth 100000 in
set_option maxHeartbeats 4000000 in
theorem vrArgs {w : World} {v : Value} {l : Vs.Ar} (h : ValsB w.heap.size w v l) : Calls Tryd.prog 45 #[v] w fun e w' => e = .returned (.int .i64 (Vs.err l)) ∧ Qw w w' := by
  obtain ⟨a, cap, rfl, l1, l2, hA⟩ := h
  have HA := Lib.hid hA
  clear hA
  go_enter Tryd.func45, Tryd.ntmps45
  go_wp2
  go_loopw [3] (fun iv wr => ∃ i : Nat, i ≤ l.length ∧ iv = .int .i64 (i : Int) ∧ Hid (Vs.errTo l i = 0) ∧ Hid (Qw w wr)) (fun iv _ => l.length - (intOf iv).toNat)
  case atStart => exact ⟨0, by omega, rfl, Lib.hid rfl, Lib.hid (Qw.refl w)⟩
  case round =>
    obtain ⟨i, hi, rfl, HE, HQ⟩ := hrel
    by_cases hlt : i < l.length
    · rcases HA.out with h | ⟨b, off, rfl, hb, hc⟩
      · rw [h] at hlt; simp at hlt
      · have HC := Lib.hid hc
        obtain ⟨c0, c1, n1, n2⟩ := hc i hlt
        have kb : ∀ w', Qw w w' → ∀ o, w'.cell? ⟨b, o, none⟩ = w.cell? ⟨b, o, none⟩ := fun w' q o => q.cell (p := ⟨b, o, none⟩) hb
        have KB := Lib.hid kb
        have C0 := Lib.hid c0
        have C1 := Lib.hid c1
        rw [← kb wr HQ.out] at c0 c1
        have hlt' : (i : Int) < (l.length : Int) := by omega
        have hi63 : (i : Int) ≤ 9223372036854775806 := by omega
        have hloc : ∀ w', Calls Tryd.prog 17 #[.int .i64 (Vs.ltr l i)] w' fun e w'' => e = .returned (.int .i64 (Vs.loc (Vs.ltr l i))) ∧ Qw w' w'' := fun w' => vrTab _ _
        have hval := vrValid (Vs.num l i)
        clear hc kb n1 n2 HA
        by_cases e1 : Vs.loc (Vs.ltr l i) = 0
        · have E : Hid (Vs.err l = 1) := Lib.hid (by
            have e2 : Vs.errAt l i = 1 := by unfold Vs.errAt; rw [if_pos e1]
            rw [Vs.err_of hlt HE.out (by rw [e2]; decide), e2])
          rw [e1] at hloc
          have HL := Lib.hid hloc
          clear hloc hval e1
          generalize Vs.ltr l i = x at *
          generalize Vs.num l i = y at *
          go_wp2_with (go_at_call 17; ((with_reducible refine (HL.out _).mono ?_); rintro e w' ⟨rfl, q⟩; replace q := Lib.hid q))
          go_ret
          exact ⟨ret_n E.out.symm, HQ.out.trans q.out⟩
        · have z1 : ((Vs.loc (Vs.ltr l i) : Int) == 0) = false := beq_eq_false_iff_ne.2 e1
          have HL := Lib.hid hloc
          have E1 := Lib.hid e1
          clear hloc e1
          generalize hx : Vs.ltr l i = x at *
          generalize hy : Vs.num l i = y at *
          generalize hz : Vs.loc x = z at *
          replace hx := Lib.hid hx
          replace hy := Lib.hid hy
          have hzx : Hid (Vs.loc x = z) := Lib.hid hz
          clear hz
          have HV := Lib.hid hval
          clear hval
          go_wp2_with (go_at_call 17; ((with_reducible refine (HL.out _).mono ?_); rintro e w' ⟨rfl, q⟩; replace q := Lib.hid q))
          obtain ⟨wo, hwo⟩ : ∃ wo, wo = w' := ⟨_, rfl⟩
          rw [← hwo] at q ⊢
          have HO : Hid (Qw w wo) := Lib.hid (HQ.out.trans q.out)
          clear q hwo c0 c1
          go_loopw [4] (fun kv wi => ∃ k : Nat, k ≤ i ∧ kv = .int .i64 (k : Int) ∧ Hid (∀ j, j < k → Vs.ltr l j ≠ x) ∧ Hid (Qw w wi)) (fun kv _ => i - (intOf kv).toNat)
          case atStart => exact ⟨0, by omega, rfl, Lib.hid (fun j hj => by omega), HO⟩
          case round =>
            obtain ⟨k, hk, rfl, HN, HI⟩ := hrel
            by_cases hki : k < i
            · obtain ⟨k0, k1, _, _⟩ := HC.out k (by omega)
              have i0 := C0.out
              rw [← KB.out _ HI.out] at k0 i0
              have hk1 : (k : Int) < (i : Int) := by omega
              have hk2 : (k : Int) < (l.length : Int) := by omega
              clear k1
              by_cases e : Vs.ltr l k = x
              · have E : Hid (Vs.err l = 7) := Lib.hid (by
                  have d : Vs.dup l i := ⟨k, hki, e.trans hx.out.symm⟩
                  have e2 : Vs.errAt l i = 7 := by unfold Vs.errAt; rw [if_neg (by rw [hx.out, hzx.out]; intro h; rw [h] at z1; cases z1), if_pos d]
                  rw [Vs.err_of hlt HE.out (by rw [e2]; decide), e2])
                rw [e] at k0
                clear e
                go_wp2
                go_quiet (fail)
                go_wp2
                go_ret
                exact ⟨ret_n E.out.symm, Qw.dn HI.out _⟩
              · have N : Hid (∀ j, j < k + 1 → Vs.ltr l j ≠ x) := Lib.hid (fun j hj => by
                  by_cases h : j < k
                  · exact HN.out j h
                  · obtain rfl : j = k := by omega
                    exact e)
                have eb : ((Vs.ltr l k : Int) == x) = false := beq_eq_false_iff_ne.2 e
                generalize Vs.ltr l k = y2 at *
                clear e
                go_wp2
                go_quiet (fail)
                go_wp2
                go_roundw
                case rel => exact ⟨k + 1, by omega, by go_num, N, Lib.hid (Qw.dn HI.out _)⟩
                case measure => simp [intOf]; omega
            · obtain rfl : k = i := by omega
              have i1 := C1.out
              rw [← KB.out _ HI.out] at i1
              have ND : Hid (¬ Vs.dup l k) := Lib.hid (fun ⟨j, hj, e⟩ => HN.out j hj (e.trans hx.out))
              by_cases hvl : Vs.vld y
              · have hv := HV.out
                rw [decide_eq_true hvl] at hv
                have HW := Lib.hid hv
                have E : Hid (Vs.errTo l (k + 1) = 0) := Lib.hid (Vs.errTo_succ HE.out (by
                  unfold Vs.errAt
                  rw [if_neg (by rw [hx.out, hzx.out]; intro h; rw [h] at z1; cases z1), if_neg ND.out, if_pos (by rw [hy.out]; exact hvl)]))
                clear hv hvl
                go_wp2_with (go_at_call 44; ((with_reducible refine (HW.out _).mono ?_); rintro e w5 ⟨rfl, rfl⟩))
                go_roundw
                case rel => exact ⟨k + 1, by omega, by go_num, E, HI⟩
                case measure => simp [intOf]; omega
              · have hv := HV.out
                rw [decide_eq_false hvl] at hv
                have HW := Lib.hid hv
                have E : Hid (Vs.err l = 3) := Lib.hid (by
                  have e2 : Vs.errAt l k = 3 := by
                    unfold Vs.errAt
                    rw [if_neg (by rw [hx.out, hzx.out]; intro h; rw [h] at z1; cases z1), if_neg ND.out, if_neg (by rw [hy.out]; exact hvl)]
                  rw [Vs.err_of hlt HE.out (by rw [e2]; decide), e2])
                clear hv hvl
                go_wp2_with (go_at_call 44; ((with_reducible refine (HW.out _).mono ?_); rintro e w5 ⟨rfl, rfl⟩))
                go_ret
                exact ⟨ret_n E.out.symm, HI.out⟩
    · obtain rfl : i = l.length := by omega
      have E : Hid (Vs.err l = 0) := Lib.hid HE.out
      go_wp2
      go_ret
      exact ⟨ret_n E.out.symm, HQ.out⟩

end Go.Proofs.YtmfhiabajkdikaaDoor
