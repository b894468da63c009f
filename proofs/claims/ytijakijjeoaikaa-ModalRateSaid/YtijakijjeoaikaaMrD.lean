
/- The walks of the specification's feed rates and words of a block. -/
import Derived.Test.YtijakijjeoaikaaMrC
import Derived.Test.YtijakijjeoaikaaMdE
import Derived.Deep.DeepCutAuto
import Derived.Deep.Cut
set_option linter.unusedVariables false
set_option linter.unusedSimpArgs false
namespace Go.Proofs.Ytijakijjeoaikaa
open Go.RowKit

theorem mrRate (n u : Int) (w : World) : Calls Try.prog 30 #[.int .i64 n, .int .i64 u] w fun e w' => e = .returned (.tuple #[.int .i64 (Md.rev n u), .int .i64 (Md.ree n u)]) ∧ Qw w w' := by
  have q0 := Qw.refl w
  cases h : vld n
  · have e : Md.ree n u = 1 := if_neg (by rw [h]; simp)
    rw [show Md.rev n u = 0 from if_neg (by omega), e]
    have vv := fun w => rxValid n w
    rw [h] at vv
    have VV := Lib.hid vv
    clear e vv h
    go_enter Try.func30, Try.ntmps30
    go_wp2_with (go_at_call 43; ((with_reducible refine (VV.out _).mono ?_); rintro e w' ⟨rfl, rfl⟩))
    go_ret2
    exact ⟨rfl, q0⟩
  · obtain ⟨a1, a2⟩ := vld_bd h
    have vv := fun w => rxValid n w
    rw [h] at vv
    have VV := Lib.hid vv
    by_cases hu : u = 20 ∨ u = 21
    · have e : Md.ree n u = if 1 ≤ ln n u ∧ ln n u ≤ 60000000 then 0 else 3 := if_pos ⟨h, hu⟩
      have e2 : Md.rev n u = if 1 ≤ ln n u ∧ ln n u ≤ 60000000 then ln n u else 0 := by unfold Md.rev; rw [e]; split <;> simp
      rw [e, e2]
      have k1 : mdok n 1 1000 2 = true ∧ mdv n 1 1000 2 = ln n 21 := by
        have e : qv 2 (n * 1) 1000 = ln n 21 ∧ -9223372036854775808 ≤ ln n 21 ∧ ln n 21 ≤ 9223372036854775807 := by
          rw [qv_2]; unfold ln; rw [if_neg (by decide)]; omega
        have := md_qv n 1 1000 2 (by omega) (by omega) (by omega) (by rw [e.1]; exact e.2.1) (by rw [e.1]; exact e.2.2)
        rw [e.1] at this
        exact this
      have k2 : mdok n 254 10000 2 = true ∧ mdv n 254 10000 2 = ln n 20 := by
        have e : qv 2 (n * 254) 10000 = ln n 20 ∧ -9223372036854775808 ≤ ln n 20 ∧ ln n 20 ≤ 9223372036854775807 := by
          rw [qv_2]; unfold ln; rw [if_pos rfl]; omega
        have := md_qv n 254 10000 2 (by omega) (by omega) (by omega) (by rw [e.1]; exact e.2.1) (by rw [e.1]; exact e.2.2)
        rw [e.1] at this
        exact this
      have c1 := fun w => refMulDivW n 1 1000 2 (by omega) (by omega) (by omega) (by omega) (by omega) (by omega) w
      have c2 := fun w => refMulDivW n 254 10000 2 (by omega) (by omega) (by omega) (by omega) (by omega) (by omega) w
      rw [k1.1, k1.2] at c1
      rw [k2.1, k2.2] at c2
      have C1 := Lib.hid c1
      have C2 := Lib.hid c2
      clear k1 k2 c1 c2 e e2 vv h
      rcases hu with rfl | rfl
      · generalize ln n 20 = x20 at *
        generalize ln n 21 = x21 at *
        by_cases c1 : x20 < 1
        · rw [if_neg (by omega), if_neg (by omega)]
          go_enter Try.func30, Try.ntmps30
          go_wp2_with (first | (go_at_call 43; ((with_reducible refine (VV.out _).mono ?_); rintro e w' ⟨rfl, rfl⟩)) | (go_at_call 48; ((with_reducible refine (C1.out _).mono ?_); rintro e w' ⟨rfl, q⟩; replace q0 := Qw.trans q0 q; clear q)) | (go_at_call 48; ((with_reducible refine (C2.out _).mono ?_); rintro e w' ⟨rfl, q⟩; replace q0 := Qw.trans q0 q; clear q)))
          go_ret2
          exact ⟨rfl, q0⟩
        · by_cases c2 : 60000000 < x20
          · rw [if_neg (by omega), if_neg (by omega)]
            go_enter Try.func30, Try.ntmps30
            go_wp2_with (first | (go_at_call 43; ((with_reducible refine (VV.out _).mono ?_); rintro e w' ⟨rfl, rfl⟩)) | (go_at_call 48; ((with_reducible refine (C1.out _).mono ?_); rintro e w' ⟨rfl, q⟩; replace q0 := Qw.trans q0 q; clear q)) | (go_at_call 48; ((with_reducible refine (C2.out _).mono ?_); rintro e w' ⟨rfl, q⟩; replace q0 := Qw.trans q0 q; clear q)))
            go_ret2
            exact ⟨rfl, q0⟩
          · rw [if_pos (by omega), if_pos (by omega)]
            go_enter Try.func30, Try.ntmps30
            go_wp2_with (first | (go_at_call 43; ((with_reducible refine (VV.out _).mono ?_); rintro e w' ⟨rfl, rfl⟩)) | (go_at_call 48; ((with_reducible refine (C1.out _).mono ?_); rintro e w' ⟨rfl, q⟩; replace q0 := Qw.trans q0 q; clear q)) | (go_at_call 48; ((with_reducible refine (C2.out _).mono ?_); rintro e w' ⟨rfl, q⟩; replace q0 := Qw.trans q0 q; clear q)))
            go_ret2
            exact ⟨rfl, q0⟩
      · generalize ln n 20 = x20 at *
        generalize ln n 21 = x21 at *
        by_cases c1 : x21 < 1
        · rw [if_neg (by omega), if_neg (by omega)]
          go_enter Try.func30, Try.ntmps30
          go_wp2_with (first | (go_at_call 43; ((with_reducible refine (VV.out _).mono ?_); rintro e w' ⟨rfl, rfl⟩)) | (go_at_call 48; ((with_reducible refine (C1.out _).mono ?_); rintro e w' ⟨rfl, q⟩; replace q0 := Qw.trans q0 q; clear q)) | (go_at_call 48; ((with_reducible refine (C2.out _).mono ?_); rintro e w' ⟨rfl, q⟩; replace q0 := Qw.trans q0 q; clear q)))
          go_ret2
          exact ⟨rfl, q0⟩
        · by_cases c2 : 60000000 < x21
          · rw [if_neg (by omega), if_neg (by omega)]
            go_enter Try.func30, Try.ntmps30
            go_wp2_with (first | (go_at_call 43; ((with_reducible refine (VV.out _).mono ?_); rintro e w' ⟨rfl, rfl⟩)) | (go_at_call 48; ((with_reducible refine (C1.out _).mono ?_); rintro e w' ⟨rfl, q⟩; replace q0 := Qw.trans q0 q; clear q)) | (go_at_call 48; ((with_reducible refine (C2.out _).mono ?_); rintro e w' ⟨rfl, q⟩; replace q0 := Qw.trans q0 q; clear q)))
            go_ret2
            exact ⟨rfl, q0⟩
          · rw [if_pos (by omega), if_pos (by omega)]
            go_enter Try.func30, Try.ntmps30
            go_wp2_with (first | (go_at_call 43; ((with_reducible refine (VV.out _).mono ?_); rintro e w' ⟨rfl, rfl⟩)) | (go_at_call 48; ((with_reducible refine (C1.out _).mono ?_); rintro e w' ⟨rfl, q⟩; replace q0 := Qw.trans q0 q; clear q)) | (go_at_call 48; ((with_reducible refine (C2.out _).mono ?_); rintro e w' ⟨rfl, q⟩; replace q0 := Qw.trans q0 q; clear q)))
            go_ret2
            exact ⟨rfl, q0⟩
    · have e : Md.ree n u = 1 := if_neg (fun h => hu h.2)
      rw [show Md.rev n u = 0 from if_neg (by omega), e]
      have z3 : (u != 20) = true := by rw [bne_iff_ne]; exact fun h => hu (.inl h)
      have z4 : (u != 21) = true := by rw [bne_iff_ne]; exact fun h => hu (.inr h)
      clear e hu vv h
      go_enter Try.func30, Try.ntmps30
      go_wp2_with (go_at_call 43; ((with_reducible refine (VV.out _).mono ?_); rintro e w' ⟨rfl, rfl⟩))
      go_ret2
      exact ⟨rfl, q0⟩
theorem fv_no {l : Vs.Ar} {c : Int} (h : Md.fo l c = false) : Md.fv l c = 0 := by
  unfold Md.fo at h
  unfold Md.fv
  cases hf : Md.fnd l c with
  | none => rfl
  | some x => rw [hf] at h; cases h
theorem whole_0 : wholev 0 = 0 := by decide
theorem ret_ibb {a : Int} {b c d : Bool} (h : c = d) : Ending.returned (.tuple #[.int .i64 a, .bool b, .bool c]) = .returned (.tuple #[.int .i64 a, .bool b, .bool d]) := by rw [h]
theorem mrCount {C : Nat} {w : World} {v : Value} {l : Vs.Ar} (h : ValsB C w v l) (hC : C ≤ w.heap.size) (c m : Int) :
    Calls Try.prog 76 #[v, .int .i64 c, .int .i64 m] w fun e w' => e = .returned (.tuple #[.int .i64 (wholev (Md.fv l c)), .bool (Md.fo l c), .bool (Md.nok l c m)]) ∧ w = w' := by
  have FF := Lib.hid (mrFind h hC c)
  clear h
  cases hf : Md.fo l c
  · rw [(nok_no hf).1, fv_no hf, whole_0]
    rw [hf] at FF
    clear hf
    generalize Md.fv l c = n at *
    go_enter Try.func76, Try.ntmps76
    go_wp2_with (go_at_call 24; ((with_reducible refine (FF.out).mono ?_); rintro e w' ⟨rfl, rfl⟩))
    go_ret3
    exact ⟨rfl, rfl⟩
  · rw [(nok_yes hf).1]
    rw [hf] at FF
    clear hf
    generalize Md.fv l c = n at *
    have WW := Lib.hid (rxWhole n)
    cases hw : whole n
    · rw [Bool.false_and, Bool.false_and]
      rw [hw] at WW
      clear hw
      generalize wholev n = x at *
      go_enter Try.func76, Try.ntmps76
      go_wp2_with (first | (go_at_call 24; ((with_reducible refine (FF.out).mono ?_); rintro e w' ⟨rfl, rfl⟩)) | (go_at_call 41; ((with_reducible refine (WW.out _).mono ?_); rintro e w' ⟨rfl, rfl⟩)))
      go_ret3
      exact ⟨rfl, rfl⟩
    · rw [Bool.true_and]
      rw [hw] at WW
      clear hw
      generalize wholev n = x at *
      by_cases h0 : 0 ≤ x
      · rw [decide_eq_true h0, Bool.true_and]
        by_cases h1 : x ≤ m
        · rw [decide_eq_true h1]
          go_enter Try.func76, Try.ntmps76
          go_wp2_with (first | (go_at_call 24; ((with_reducible refine (FF.out).mono ?_); rintro e w' ⟨rfl, rfl⟩)) | (go_at_call 41; ((with_reducible refine (WW.out _).mono ?_); rintro e w' ⟨rfl, rfl⟩)))
          go_ret3
          first | exact ⟨rfl, rfl⟩ | exact ⟨ret_ibb (decide_eq_true h1), rfl⟩ | exact ⟨ret_ibb (decide_eq_false (by omega)), rfl⟩
        · rw [decide_eq_false h1]
          go_enter Try.func76, Try.ntmps76
          go_wp2_with (first | (go_at_call 24; ((with_reducible refine (FF.out).mono ?_); rintro e w' ⟨rfl, rfl⟩)) | (go_at_call 41; ((with_reducible refine (WW.out _).mono ?_); rintro e w' ⟨rfl, rfl⟩)))
          go_ret3
          first | exact ⟨rfl, rfl⟩ | exact ⟨ret_ibb (decide_eq_true h1), rfl⟩ | exact ⟨ret_ibb (decide_eq_false (by omega)), rfl⟩
      · rw [decide_eq_false h0, Bool.false_and]
        go_enter Try.func76, Try.ntmps76
        go_wp2_with (first | (go_at_call 24; ((with_reducible refine (FF.out).mono ?_); rintro e w' ⟨rfl, rfl⟩)) | (go_at_call 41; ((with_reducible refine (WW.out _).mono ?_); rintro e w' ⟨rfl, rfl⟩)))
        go_ret3
        exact ⟨rfl, rfl⟩
end Go.Proofs.Ytijakijjeoaikaa
