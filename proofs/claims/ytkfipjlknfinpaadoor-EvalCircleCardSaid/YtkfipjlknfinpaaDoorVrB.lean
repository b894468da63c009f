
/- The walks of Get, Set and Host of the specification. -/
import Derived.Test.YtkfipjlknfinpaaDoorVAX
set_option linter.unusedVariables false
set_option linter.unusedSimpArgs false
namespace Go.Proofs.YtkfipjlknfinpaaDoor
open Go.RowKit


set_option maxRecDepth 100000 in
set_option maxHeartbeats 4000000 in
theorem vrGet {w : World} {B L cap : Nat} {s : Vs.St} (h : Rst w B L cap s) (n : Int) : Calls Tryd.prog 16 #[.pointer (some ⟨B, 0, none⟩), .int .i64 n] w fun e w' => e = .returned (.tuple #[.int .i64 (s.get n), .int .i64 (Vs.gerr n)]) ∧ Qw w w' := by
  obtain ⟨d1, d2, d3⟩ := disjoint n
  have hl := vrLocal n
  have hc := vrCommon n
  have hs := vrSystem n
  by_cases hL : Vs.isL n
  · rw [decide_eq_true hL] at hl
    have lt := at_lt h.ok hL
    have cl := h.cellL lt
    have e1 : s.get n = s.ls.getD (s.at n) 0 := by unfold Vs.St.get; rw [if_pos hL]
    have e2 : Vs.gerr n = 0 := by unfold Vs.gerr; rw [if_pos (.inl hL)]
    rw [e1, e2]
    have c0 := h.cell0
    have h1 := h.ok.n1
    have h2 := h.ok.n2
    have h3 := h.c1
    have hcap := h.c2
    unfold maxLen at hcap
    obtain ⟨k1, k2⟩ := hL
    obtain ⟨m, hm⟩ : ∃ m : Nat, s.n = m + 1 := ⟨s.n - 1, by omega⟩
    obtain ⟨j, rfl⟩ : ∃ j : Nat, n = 1 + (j : Int) := ⟨(n - 1).toNat, by omega⟩
    have eat : s.at (1 + (j : Int)) = m * 33 + j := by unfold Vs.St.at; omega
    rw [eat] at cl ⊢
    generalize s.ls.getD (m * 33 + j) 0 = x at *
    have f1 : IntKind.i64.wrap (1 + (j : Int) - 1) = j := (IntWalk.i64_in _ (by omega)).trans (by omega)
    generalize s.n = N at *
    subst hm
    have f2 : IntKind.i64.wrap (((m + 1 : Nat) : Int) - 1) = m := (IntWalk.i64_in _ (by omega)).trans (by omega)
    have b1 : (m : Int) < ((m + 1 : Nat) : Int) := by omega
    have b2 : 0 ≤ (m : Int) := by omega
    have b3 : (j : Int) < 33 := by omega
    have HL := Lib.hid hl
    clear hl hc hs e1 e2 eat d1 d2 d3 h lt
    go_enter Tryd.func16, Tryd.ntmps16
    go_wp2_with (go_at_call 35; ((with_reducible refine (HL.out _).mono ?_); rintro e w' ⟨rfl, rfl⟩))
    go_quiet (fail)
    go_wp2
    go_ret2
    exact ⟨rfl, Qw.dn (Qw.refl _) _⟩
  · rw [decide_eq_false hL] at hl
    have HL := Lib.hid hl
    by_cases hC : Vs.isC n
    · rw [decide_eq_true hC] at hc
      have HC := Lib.hid hc
      have e1 : s.get n = s.cm.getD (n - 100).toNat 0 := by unfold Vs.St.get; rw [if_neg hL, if_pos hC]
      have e2 : Vs.gerr n = 0 := by unfold Vs.gerr; rw [if_pos (.inr (.inl hC))]
      rw [e1, e2]
      obtain ⟨k1, k2⟩ := hC
      have cl := h.cellC (k := (n - 100).toNat) (by omega)
      obtain ⟨j, rfl⟩ : ∃ j : Nat, n = 100 + (j : Int) := ⟨(n - 100).toNat, by omega⟩
      have e3 : (100 + (j : Int) - 100).toNat = j := by omega
      rw [e3] at cl ⊢
      generalize s.cm.getD j 0 = x at *
      have f1 : IntKind.i64.wrap (100 + (j : Int) - 100) = j := (IntWalk.i64_in _ (by omega)).trans (by omega)
      have b3 : (j : Int) < 100 := by omega
      clear hl hc hs e1 e2 e3 d1 d2 d3 h hL
      go_enter Tryd.func16, Tryd.ntmps16
      go_wp2_with (first | (go_at_call 35; ((with_reducible refine (HL.out _).mono ?_); rintro e w' ⟨rfl, rfl⟩)) | (go_at_call 36; ((with_reducible refine (HC.out _).mono ?_); rintro e w' ⟨rfl, rfl⟩)))
      go_ret2
      exact ⟨rfl, Qw.refl _⟩
    · rw [decide_eq_false hC] at hc
      have HC := Lib.hid hc
      by_cases hS : Vs.isS n
      · rw [decide_eq_true hS] at hs
        have HS := Lib.hid hs
        have e1 : s.get n = s.sy.getD (n - 5000).toNat 0 := by unfold Vs.St.get; rw [if_neg hL, if_neg hC, if_pos hS]
        have e2 : Vs.gerr n = 0 := by unfold Vs.gerr; rw [if_pos (.inr (.inr hS))]
        rw [e1, e2]
        obtain ⟨k1, k2⟩ := hS
        have cl := h.cellS (k := (n - 5000).toNat) (by omega)
        obtain ⟨j, rfl⟩ : ∃ j : Nat, n = 5000 + (j : Int) := ⟨(n - 5000).toNat, by omega⟩
        have e3 : (5000 + (j : Int) - 5000).toNat = j := by omega
        rw [e3] at cl ⊢
        generalize s.sy.getD j 0 = x at *
        have f1 : IntKind.i64.wrap (5000 + (j : Int) - 5000) = j := (IntWalk.i64_in _ (by omega)).trans (by omega)
        have b3 : (j : Int) < 1000 := by omega
        clear hl hc hs e1 e2 e3 d1 d2 d3 h hL hC
        go_enter Tryd.func16, Tryd.ntmps16
        go_wp2_with (first | (go_at_call 35; ((with_reducible refine (HL.out _).mono ?_); rintro e w' ⟨rfl, rfl⟩)) | (go_at_call 36; ((with_reducible refine (HC.out _).mono ?_); rintro e w' ⟨rfl, rfl⟩)) | (go_at_call 37; ((with_reducible refine (HS.out _).mono ?_); rintro e w' ⟨rfl, rfl⟩)))
        go_ret2
        exact ⟨rfl, Qw.refl _⟩
      · rw [decide_eq_false hS] at hs
        have HS := Lib.hid hs
        have e1 : s.get n = 0 := by unfold Vs.St.get; rw [if_neg hL, if_neg hC, if_neg hS]
        have e2 : Vs.gerr n = 6 := by unfold Vs.gerr; rw [if_neg (by intro k; rcases k with k | k | k; exact hL k; exact hC k; exact hS k)]
        rw [e1, e2]
        clear hl hc hs e1 e2 d1 d2 d3 h hL hC hS
        go_enter Tryd.func16, Tryd.ntmps16
        go_wp2_with (first | (go_at_call 35; ((with_reducible refine (HL.out _).mono ?_); rintro e w' ⟨rfl, rfl⟩)) | (go_at_call 36; ((with_reducible refine (HC.out _).mono ?_); rintro e w' ⟨rfl, rfl⟩)) | (go_at_call 37; ((with_reducible refine (HS.out _).mono ?_); rintro e w' ⟨rfl, rfl⟩)))
        go_ret2
        exact ⟨rfl, Qw.refl _⟩

set_option maxRecDepth 100000 in
set_option maxHeartbeats 4000000 in
theorem vrSet {w : World} {B L cap : Nat} {s : Vs.St} (h : Rst w B L cap s) (n v : Int) : Calls Tryd.prog 31 #[.pointer (some ⟨B, 0, none⟩), .int .i64 n, .int .i64 v] w fun e w' => e = .returned (.int .i64 (Vs.serr n v)) ∧ Rst w' B L cap (s.set n v) ∧ Ty B L w w' := by
  have hl := vrLocal n
  have hc := vrCommon n
  have hs := vrSystem n
  have hv := vrValid v
  have H := Lib.hid h
  by_cases hS : Vs.isS n
  · have e2 : Vs.serr n v = 13 := by unfold Vs.serr; rw [if_pos hS]
    have e1 : s.set n v = s := by unfold Vs.St.set; rw [if_pos (by rw [e2]; decide)]
    rw [e1, e2]
    rw [decide_eq_true hS] at hs
    have HS := Lib.hid hs
    clear e1 e2 h hl hc hs hv hS
    go_enter Tryd.func31, Tryd.ntmps31
    go_wp2_with (go_at_call 37; ((with_reducible refine (HS.out _).mono ?_); rintro e w' ⟨rfl, rfl⟩))
    go_ret
    exact ⟨rfl, H.out, Ty.refl _ _ _⟩
  · rw [decide_eq_false hS] at hs
    have HS := Lib.hid hs
    by_cases hN : ¬ Vs.isL n ∧ ¬ Vs.isC n
    · have e2 : Vs.serr n v = 6 := by unfold Vs.serr; rw [if_neg hS, if_pos hN]
      have e1 : s.set n v = s := by unfold Vs.St.set; rw [if_pos (by rw [e2]; decide)]
      rw [e1, e2]
      rw [decide_eq_false hN.1] at hl
      rw [decide_eq_false hN.2] at hc
      have HL := Lib.hid hl
      have HC := Lib.hid hc
      clear e1 e2 h hl hc hs hv hS hN
      go_enter Tryd.func31, Tryd.ntmps31
      go_wp2_with (first | (go_at_call 35; ((with_reducible refine (HL.out _).mono ?_); rintro e w' ⟨rfl, rfl⟩)) | (go_at_call 36; ((with_reducible refine (HC.out _).mono ?_); rintro e w' ⟨rfl, rfl⟩)) | (go_at_call 37; ((with_reducible refine (HS.out _).mono ?_); rintro e w' ⟨rfl, rfl⟩)))
      go_ret
      exact ⟨rfl, H.out, Ty.refl _ _ _⟩
    · have HL := Lib.hid hl
      have HC := Lib.hid hc
      by_cases hV : Vs.vld v
      · rw [decide_eq_true hV] at hv
        have HV := Lib.hid hv
        have e2 : Vs.serr n v = 0 := by unfold Vs.serr; rw [if_neg hS, if_neg hN, if_pos hV]
        rw [e2]
        by_cases hL : Vs.isL n
        · rw [decide_eq_true hL] at hl
          replace HL := Lib.hid hl
          have lt := at_lt h.ok hL
          have e1 : s.set n v = { s with ls := s.ls.set (s.at n) v } := by unfold Vs.St.set; rw [if_neg (fun k => k e2), if_pos hL]
          rw [e1]
          have HP : Hid (∀ k, s.at n = k → ∀ w', Qw w w' → Rst (w'.setCell ⟨L, k, none⟩ (.int .i64 v)) B L cap { s with ls := s.ls.set k v }) := Lib.hid fun k ek w' q => by
            subst ek
            exact (h.kept q).setL lt v
          have cl := h.cellL lt
          have cz := h.freeL (s.at n)
          have c0 := h.cell0
          have h1 := h.ok.n1
          have h2 := h.ok.n2
          have h3 := h.c1
          have hcap := h.c2
          unfold maxLen at hcap
          obtain ⟨k1, k2⟩ := hL
          obtain ⟨m, hm⟩ : ∃ m : Nat, s.n = m + 1 := ⟨s.n - 1, by omega⟩
          obtain ⟨j, rfl⟩ : ∃ j : Nat, n = 1 + (j : Int) := ⟨(n - 1).toNat, by omega⟩
          have eat : s.at (1 + (j : Int)) = m * 33 + j := by unfold Vs.St.at; omega
          rw [eat] at cl cz ⊢
          replace eat := Lib.hid eat
          generalize s.ls.getD (m * 33 + j) 0 = x at *
          have f1 : IntKind.i64.wrap (1 + (j : Int) - 1) = j := (IntWalk.i64_in _ (by omega)).trans (by omega)
          rw [hm] at c0 h1 h2 h3
          have f2 : IntKind.i64.wrap (((m + 1 : Nat) : Int) - 1) = m := (IntWalk.i64_in _ (by omega)).trans (by omega)
          have f4 : IntKind.i64.wrap (m : Int) = m := IntWalk.i64_in _ (by omega)
          have b4 : m < m + 1 := by omega
          have b5 : (m : Int) < (m : Int) + 1 := by omega
          have b1 : (m : Int) < ((m + 1 : Nat) : Int) := by omega
          have b2 : 0 ≤ (m : Int) := by omega
          have b3 : (j : Int) < 33 := by omega
          replace hm := Lib.hid hm
          clear hl hc hs e1 e2 h lt hv hN hV hS
          go_enter Tryd.func31, Tryd.ntmps31
          go_wp2_with (first | (go_at_call 35; ((with_reducible refine (HL.out _).mono ?_); rintro e w' ⟨rfl, rfl⟩)) | (go_at_call 37; ((with_reducible refine (HS.out _).mono ?_); rintro e w' ⟨rfl, rfl⟩)) | (go_at_call 41; ((with_reducible refine (HV.out _).mono ?_); rintro e w' ⟨rfl, rfl⟩)))
          refine wp_region_still_tail 16 (by kernel_rfl) (by kernel_rfl) ?_
          change wpStill _ _ (World.drew _) _ _ _
          simp only [List.take_succ_cons, List.take_zero, List.drop_succ_cons, List.drop_zero]
          repeat still_step
          refine wpStill_nil ?_
          change wpList _ _ _ _ _ (World.drew _)
          go_wp2
          go_ret
          exact ⟨rfl, HP.out _ eat.out _ (Qw.dr (Qw.refl _)), Ty.one (Qw.dr (Qw.refl _)) (.inr rfl) _ _⟩
        · rw [decide_eq_false hL] at hl
          replace HL := Lib.hid hl
          have hC : Vs.isC n := by
            by_cases k : Vs.isC n
            · exact k
            · exact absurd ⟨hL, k⟩ hN
          rw [decide_eq_true hC] at hc
          replace HC := Lib.hid hc
          have e1 : s.set n v = { s with cm := s.cm.set (n - 100).toNat v } := by unfold Vs.St.set; rw [if_neg (fun k => k e2), if_neg hL]
          rw [e1]
          obtain ⟨k1, k2⟩ := hC
          have cl := h.cellC (k := (n - 100).toNat) (by omega)
          have cz := h.freeB (1 + (n - 100).toNat)
          have st := h.setC (k := (n - 100).toNat) (by omega) v
          obtain ⟨j, rfl⟩ : ∃ j : Nat, n = 100 + (j : Int) := ⟨(n - 100).toNat, by omega⟩
          have e3 : (100 + (j : Int) - 100).toNat = j := by omega
          rw [e3] at cl cz st ⊢
          generalize s.cm.getD j 0 = x at *
          have ST := Lib.hid st
          have f1 : IntKind.i64.wrap (100 + (j : Int) - 100) = j := (IntWalk.i64_in _ (by omega)).trans (by omega)
          have b3 : (j : Int) < 100 := by omega
          clear hl hc hs e1 e2 e3 h hL st hv hN hV hS
          go_enter Tryd.func31, Tryd.ntmps31
          go_wp2_with (first | (go_at_call 35; ((with_reducible refine (HL.out _).mono ?_); rintro e w' ⟨rfl, rfl⟩)) | (go_at_call 36; ((with_reducible refine (HC.out _).mono ?_); rintro e w' ⟨rfl, rfl⟩)) | (go_at_call 37; ((with_reducible refine (HS.out _).mono ?_); rintro e w' ⟨rfl, rfl⟩)) | (go_at_call 41; ((with_reducible refine (HV.out _).mono ?_); rintro e w' ⟨rfl, rfl⟩)))
          go_ret
          exact ⟨rfl, ST.out, Ty.setB _ _ _ _ _⟩
      · rw [decide_eq_false hV] at hv
        have HV := Lib.hid hv
        have e2 : Vs.serr n v = 3 := by unfold Vs.serr; rw [if_neg hS, if_neg hN, if_neg hV]
        have e1 : s.set n v = s := by unfold Vs.St.set; rw [if_pos (by rw [e2]; decide)]
        rw [e1, e2]
        by_cases hL : Vs.isL n
        · rw [decide_eq_true hL] at hl
          replace HL := Lib.hid hl
          clear e1 e2 h hl hc hs hv hS hN hL hV
          go_enter Tryd.func31, Tryd.ntmps31
          go_wp2_with (first | (go_at_call 35; ((with_reducible refine (HL.out _).mono ?_); rintro e w' ⟨rfl, rfl⟩)) | (go_at_call 36; ((with_reducible refine (HC.out _).mono ?_); rintro e w' ⟨rfl, rfl⟩)) | (go_at_call 37; ((with_reducible refine (HS.out _).mono ?_); rintro e w' ⟨rfl, rfl⟩)) | (go_at_call 41; ((with_reducible refine (HV.out _).mono ?_); rintro e w' ⟨rfl, rfl⟩)))
          go_ret
          exact ⟨rfl, H.out, Ty.refl _ _ _⟩
        · have hC : Vs.isC n := by
            by_cases k : Vs.isC n
            · exact k
            · exact absurd ⟨hL, k⟩ hN
          rw [decide_eq_false hL] at hl
          rw [decide_eq_true hC] at hc
          replace HL := Lib.hid hl
          replace HC := Lib.hid hc
          clear e1 e2 h hl hc hs hv hS hN hL hV hC
          go_enter Tryd.func31, Tryd.ntmps31
          go_wp2_with (first | (go_at_call 35; ((with_reducible refine (HL.out _).mono ?_); rintro e w' ⟨rfl, rfl⟩)) | (go_at_call 36; ((with_reducible refine (HC.out _).mono ?_); rintro e w' ⟨rfl, rfl⟩)) | (go_at_call 37; ((with_reducible refine (HS.out _).mono ?_); rintro e w' ⟨rfl, rfl⟩)) | (go_at_call 41; ((with_reducible refine (HV.out _).mono ?_); rintro e w' ⟨rfl, rfl⟩)))
          go_ret
          exact ⟨rfl, H.out, Ty.refl _ _ _⟩

end Go.Proofs.YtkfipjlknfinpaaDoor
