
/- The walks of Get, Set and Host. -/
import Derived.Test.YtkfipjlknfinpaaDoorVaA
set_option linter.unusedVariables false
set_option linter.unusedSimpArgs false
namespace Go.Proofs.YtkfipjlknfinpaaDoor
open Go.RowKit


/-- Where a variable lies. -/
def place (B L : Nat) (s : Vs.St) (n : Int) : Option Addr :=
  if Vs.isL n then some ⟨L, s.at n, none⟩ else if Vs.isC n then some ⟨B, 1 + (n - 100).toNat, none⟩ else if Vs.isS n then some ⟨B, 101 + (n - 5000).toNat, none⟩ else none

theorem at_lt {s : Vs.St} (h : s.ok) {n : Int} (hn : Vs.isL n) : s.at n < s.n * 33 := by
  have h1 := h.n1
  unfold Vs.isL at hn
  unfold Vs.St.at
  omega

theorem addr_eq {b x y : Nat} (h : x = y) : (⟨b, x, none⟩ : Addr) = ⟨b, y, none⟩ := by rw [h]
theorem ret_ptr {b x y : Nat} (h : x = y) : Ending.returned (.pointer (some ⟨b, x, none⟩)) = .returned (.pointer (some ⟨b, y, none⟩)) := by rw [h]

set_option maxRecDepth 100000 in
set_option maxHeartbeats 4000000 in
theorem vaFind {w : World} {B L cap : Nat} {s : Vs.St} (h : Pst w B L cap s) (n : Int) : Calls Tryd.prog 34 #[.pointer (some ⟨B, 0, none⟩), .int .i64 n] w fun e w' => e = .returned (.pointer (place B L s n)) ∧ Qw w w' := by
  unfold place
  by_cases hL : Vs.isL n
  · rw [if_pos hL]
    have c0 := h.cell0
    have h1 := h.ok.n1
    have h2 := h.ok.n2
    have h3 := h.c1
    have hcap := h.c2
    unfold maxLen at hcap
    obtain ⟨k1, k2⟩ := hL
    have hlv : ∀ w', Qw w w' → Calls Tryd.prog 17 #[.pointer (some ⟨B, 0, none⟩)] w' fun e w'' => e = .returned (.int .i64 ((s.n : Int) - 1)) ∧ w' = w'' := fun w' q => vaLevel (h.kept q)
    obtain ⟨m, hm⟩ : ∃ m : Nat, s.n = m + 1 := ⟨s.n - 1, by omega⟩
    obtain ⟨j, rfl⟩ : ∃ j : Nat, n = 1 + (j : Int) := ⟨(n - 1).toNat, by omega⟩
    have eat : s.at (1 + (j : Int)) = m * 33 + j := by unfold Vs.St.at; omega
    rw [eat]
    have en : ((s.n : Int) - 1) = (m : Int) := by omega
    rw [en] at hlv
    have HL := Lib.hid hlv
    have e1 : IntKind.i64.wrap (1 + (j : Int) - 1) = j := (IntWalk.i64_in _ (by omega)).trans (by omega)
    generalize s.n = N at *
    subst hm
    have b1 : (m : Int) < ((m + 1 : Nat) : Int) := by omega
    have b2 : 0 ≤ (m : Int) := by omega
    have b3 : (j : Int) < 33 := by omega
    clear hlv en eat h
    go_enter Tryd.func34, Tryd.ntmps34
    go_wp2
    go_quiet ((go_at_call 17; exact Calls.quiet_of_same ((HL.out _ (Qw.dn (Qw.refl _) _)).mono fun _ _ ⟨h1, h2⟩ => ⟨h1, h2.symm⟩)))
    go_wp2
    go_ret
    exact ⟨ret_ptr (by omega), Qw.dn (Qw.refl _) _⟩
  · rw [if_neg hL]
    by_cases hC : Vs.isC n
    · rw [if_pos hC]
      obtain ⟨k1, k2⟩ := hC
      clear hL h
      obtain ⟨j, rfl⟩ : ∃ j : Nat, n = 100 + (j : Int) := ⟨(n - 100).toNat, by omega⟩
      have e1 : IntKind.i64.wrap (100 + (j : Int) - 100) = j := (IntWalk.i64_in _ (by omega)).trans (by omega)
      have b3 : (j : Int) < 100 := by omega
      have e2 : (100 + (j : Int) - 100).toNat = j := by omega
      rw [e2]
      clear e2
      go_enter Tryd.func34, Tryd.ntmps34
      go_wp2
      go_ret
      exact ⟨ret_ptr (by omega), Qw.refl _⟩
    · rw [if_neg hC]
      by_cases hS : Vs.isS n
      · rw [if_pos hS]
        have hs := vaSystem n
        rw [decide_eq_true hS] at hs
        obtain ⟨k1, k2⟩ := hS
        have hs := Lib.hid hs
        clear hL hC h
        obtain ⟨j, rfl⟩ : ∃ j : Nat, n = 5000 + (j : Int) := ⟨(n - 5000).toNat, by omega⟩
        have e1 : IntKind.i64.wrap (5000 + (j : Int) - 5000) = j := (IntWalk.i64_in _ (by omega)).trans (by omega)
        have b3 : (j : Int) < 1000 := by omega
        have e2 : (5000 + (j : Int) - 5000).toNat = j := by omega
        rw [e2]
        clear e2
        go_enter Tryd.func34, Tryd.ntmps34
        go_wp2_with (go_at_call 38; ((with_reducible refine (hs.out _).mono ?_); rintro e w' ⟨rfl, rfl⟩))
        go_ret
        exact ⟨ret_ptr (by omega), Qw.refl _⟩
      · rw [if_neg hS]
        have hs := vaSystem n
        rw [decide_eq_false hS] at hs
        have hs := Lib.hid hs
        unfold Vs.isL at hL
        unfold Vs.isC at hC
        clear h hS
        rcases (show n < 1 ∨ (33 < n ∧ n < 100) ∨ 199 < n by omega) with k | k | k
        · clear hL hC
          go_enter Tryd.func34, Tryd.ntmps34
          go_wp2_with (go_at_call 38; ((with_reducible refine (hs.out _).mono ?_); rintro e w' ⟨rfl, rfl⟩))
          go_ret
          exact ⟨rfl, Qw.refl _⟩
        · clear hL hC
          obtain ⟨k1, k2⟩ := k
          go_enter Tryd.func34, Tryd.ntmps34
          go_wp2_with (go_at_call 38; ((with_reducible refine (hs.out _).mono ?_); rintro e w' ⟨rfl, rfl⟩))
          go_ret
          exact ⟨rfl, Qw.refl _⟩
        · clear hL hC
          go_enter Tryd.func34, Tryd.ntmps34
          go_wp2_with (go_at_call 38; ((with_reducible refine (hs.out _).mono ?_); rintro e w' ⟨rfl, rfl⟩))
          go_ret
          exact ⟨rfl, Qw.refl _⟩

/-! ### what lies there -/

theorem place_none {B L : Nat} {s : Vs.St} {n : Int} (h : place B L s n = none) : ¬ Vs.isL n ∧ ¬ Vs.isC n ∧ ¬ Vs.isS n := by
  unfold place at h
  by_cases h1 : Vs.isL n
  · rw [if_pos h1] at h; cases h
  · rw [if_neg h1] at h
    by_cases h2 : Vs.isC n
    · rw [if_pos h2] at h; cases h
    · rw [if_neg h2] at h
      by_cases h3 : Vs.isS n
      · rw [if_pos h3] at h; cases h
      · exact ⟨h1, h2, h3⟩

theorem disjoint (n : Int) : (Vs.isL n → ¬ Vs.isC n ∧ ¬ Vs.isS n) ∧ (Vs.isC n → ¬ Vs.isL n ∧ ¬ Vs.isS n) ∧ (Vs.isS n → ¬ Vs.isL n ∧ ¬ Vs.isC n) := by
  unfold Vs.isL Vs.isC Vs.isS; omega

/-- The place of a variable: its block, its number within, what it holds, and what a store of v there leaves. -/
theorem place_some {T E : TypeId} {w : World} {B L cap : Nat} {s : Vs.St} (h : Stb T E w B L cap s) {n : Int} {a : Addr} (e : place B L s n = some a) :
    ∃ b o, a = ⟨b, o, none⟩ ∧ (b = B ∨ b = L) ∧ w.cell? ⟨b, o, none⟩ = some (.int .i64 (s.get n)) ∧ w.frozen? ⟨b, o, none⟩ = false ∧ b < w.heap.size ∧ Vs.gerr n = 0 ∧
      (∀ v, ¬ Vs.isS n → Vs.vld v → Stb T E (w.setCell ⟨b, o, none⟩ (.int .i64 v)) B L cap (s.set n v) ∧ Vs.serr n v = 0) ∧
      (∀ v, Vs.isS n → Vs.vld v → Stb T E (w.setCell ⟨b, o, none⟩ (.int .i64 v)) B L cap (s.host n v) ∧ Vs.herr n v = 0) := by
  obtain ⟨d1, d2, d3⟩ := disjoint n
  unfold place at e
  by_cases h1 : Vs.isL n
  · rw [if_pos h1] at e
    injection e with e
    subst e
    have lt := at_lt h.ok h1
    have sl := h.setL lt
    refine ⟨L, s.at n, rfl, .inr rfl, ?_, h.freeL _, h.ltL, ?_, ?_, ?_⟩
    · unfold Vs.St.get; rw [if_pos h1]; exact h.cellL lt
    · unfold Vs.gerr; rw [if_pos (.inl h1)]
    · intro v hs hv
      have e0 : Vs.serr n v = 0 := by unfold Vs.serr; rw [if_neg hs, if_neg (fun k => k.1 h1), if_pos hv]
      refine ⟨?_, e0⟩
      unfold Vs.St.set
      rw [if_neg (fun k => k e0), if_pos h1]
      exact sl v
    · intro v hs; exact absurd hs (d1 h1).2
  · rw [if_neg h1] at e
    by_cases h2 : Vs.isC n
    · rw [if_pos h2] at e
      injection e with e
      subst e
      have lt : (n - 100).toNat < 100 := by unfold Vs.isC at h2; omega
      refine ⟨B, 1 + (n - 100).toNat, rfl, .inl rfl, ?_, h.freeB _, h.ltB, ?_, ?_, ?_⟩
      · unfold Vs.St.get; rw [if_neg h1, if_pos h2]; exact h.cellC lt
      · unfold Vs.gerr; rw [if_pos (.inr (.inl h2))]
      · intro v hs hv
        have e0 : Vs.serr n v = 0 := by unfold Vs.serr; rw [if_neg hs, if_neg (fun k => k.2 h2), if_pos hv]
        refine ⟨?_, e0⟩
        unfold Vs.St.set
        rw [if_neg (fun k => k e0), if_neg h1]
        exact h.setC lt v
      · intro v hs; exact absurd hs (d2 h2).2
    · rw [if_neg h2] at e
      by_cases h3 : Vs.isS n
      · rw [if_pos h3] at e
        injection e with e
        subst e
        have lt : (n - 5000).toNat < 1000 := by unfold Vs.isS at h3; omega
        refine ⟨B, 101 + (n - 5000).toNat, rfl, .inl rfl, ?_, h.freeB _, h.ltB, ?_, ?_, ?_⟩
        · unfold Vs.St.get; rw [if_neg h1, if_neg h2, if_pos h3]; exact h.cellS lt
        · unfold Vs.gerr; rw [if_pos (.inr (.inr h3))]
        · intro v hs; exact absurd h3 hs
        · intro v hs hv
          have e0 : Vs.herr n v = 0 := by unfold Vs.herr; rw [if_neg (fun k => k h3), if_pos hv]
          refine ⟨?_, e0⟩
          unfold Vs.St.host
          rw [if_neg (fun k => k e0)]
          exact h.setS lt v
      · rw [if_neg h3] at e; cases e

theorem Ty.drewN {B L : Nat} {a w : World} (h : Ty B L a w) (n : Nat) : Ty B L a (w.drewN n) := h.trans ⟨rfl, rfl, rfl, Nat.le_refl _, fun _ _ _ _ => rfl⟩
theorem Ty.one {B L b : Nat} {w w1 : World} (q : Qw w w1) (hb : b = B ∨ b = L) (o : Nat) (u : Value) : Ty B L w (w1.setCell ⟨b, o, none⟩ u) := by
  refine Ty.trans (Ty.of q) ?_
  rcases hb with rfl | rfl
  · exact Ty.setB _ _ _ _ _
  · exact Ty.setL _ _ _ _ _

set_option maxRecDepth 100000 in
set_option maxHeartbeats 4000000 in
theorem vaGet {w : World} {B L cap : Nat} {s : Vs.St} (h : Pst w B L cap s) (n : Int) : Calls Tryd.prog 15 #[.pointer (some ⟨B, 0, none⟩), .int .i64 n] w fun e w' => e = .returned (.tuple #[.int .i64 (s.get n), .int .i64 (Vs.gerr n)]) ∧ Qw w w' := by
  have hf := vaFind h n
  cases e : place B L s n with
  | none =>
    obtain ⟨h1, h2, h3⟩ := place_none e
    have e1 : s.get n = 0 := by unfold Vs.St.get; rw [if_neg h1, if_neg h2, if_neg h3]
    have e2 : Vs.gerr n = 6 := by unfold Vs.gerr; rw [if_neg (by intro k; rcases k with k | k | k; exact h1 k; exact h2 k; exact h3 k)]
    rw [e1, e2]
    rw [e] at hf
    have HF := Lib.hid hf
    clear hf e e1 e2 h1 h2 h3 h
    go_enter Tryd.func15, Tryd.ntmps15
    go_wp2_with (go_at_call 34; ((with_reducible refine HF.out.mono ?_); rintro e w' ⟨rfl, q⟩; have q0 := Lib.hid q; clear q))
    go_ret2
    exact ⟨rfl, q0.out⟩
  | some a =>
    obtain ⟨b, o, rfl, _, hc, hz, hb, hg, _⟩ := place_some h e
    rw [e] at hf
    rw [hg]
    have HF := Lib.hid hf
    generalize s.get n = x at *
    clear hf e hg h
    go_enter Tryd.func15, Tryd.ntmps15
    go_wp2_with (go_at_call 34; ((with_reducible refine HF.out.mono ?_); rintro e w' ⟨rfl, q⟩; have hc' : w'.cell? ⟨b, o, none⟩ = some (.int .i64 x) := (q.cell (p := ⟨b, o, none⟩) hb).trans hc; have q0 := Lib.hid q; clear q))
    go_ret2
    exact ⟨rfl, q0.out⟩

set_option maxRecDepth 100000 in
set_option maxHeartbeats 4000000 in
theorem vaSet {w : World} {B L cap : Nat} {s : Vs.St} (h : Pst w B L cap s) (n v : Int) : Calls Tryd.prog 24 #[.pointer (some ⟨B, 0, none⟩), .int .i64 n, .int .i64 v] w fun e w' => e = .returned (.int .i64 (Vs.serr n v)) ∧ Pst w' B L cap (s.set n v) ∧ Ty B L w w' := by
  have hf := vaFind h n
  have hs := vaSystem n
  have hv := vaValid v
  cases e : place B L s n with
  | none =>
    obtain ⟨h1, h2, h3⟩ := place_none e
    have e2 : Vs.serr n v = 6 := by unfold Vs.serr; rw [if_neg h3, if_pos ⟨h1, h2⟩]
    have e1 : s.set n v = s := by unfold Vs.St.set; rw [if_pos (by rw [e2]; decide)]
    rw [e1, e2]
    rw [e] at hf
    have HF := Lib.hid hf
    have H := Lib.hid h
    clear hf e e1 e2 h1 h2 h3 h hs hv
    go_enter Tryd.func24, Tryd.ntmps24
    go_wp2_with (go_at_call 34; ((with_reducible refine HF.out.mono ?_); rintro e w' ⟨rfl, q⟩; have q0 := Lib.hid q; clear q))
    go_ret
    exact ⟨rfl, H.out.kept q0.out, Ty.of q0.out⟩
  | some a =>
    have H := Lib.hid h
    obtain ⟨b, o, rfl, hbb, hc, hz, hb, hg, hset, _⟩ := place_some h e
    rw [e] at hf
    by_cases h3 : Vs.isS n
    · have e2 : Vs.serr n v = 13 := by unfold Vs.serr; rw [if_pos h3]
      have e1 : s.set n v = s := by unfold Vs.St.set; rw [if_pos (by rw [e2]; decide)]
      rw [e1, e2]
      rw [decide_eq_true h3] at hs
      have HF := Lib.hid hf
      have HS := Lib.hid hs
      clear hf e e1 e2 h3 h hs hv hset hg hc
      go_enter Tryd.func24, Tryd.ntmps24
      go_wp2_with (first | (go_at_call 34; ((with_reducible refine HF.out.mono ?_); rintro e w' ⟨rfl, q⟩; have q0 := Lib.hid q; clear q)) | (go_at_call 38; ((with_reducible refine (HS.out _).mono ?_); rintro e w' ⟨rfl, rfl⟩)))
      go_ret
      exact ⟨rfl, H.out.kept q0.out, Ty.of q0.out⟩
    · rw [decide_eq_false h3] at hs
      by_cases h4 : Vs.vld v
      · rw [decide_eq_true h4] at hv
        have e2 := (hset v h3 h4).2
        rw [e2]
        have HF := Lib.hid hf
        have HS := Lib.hid hs
        have HV := Lib.hid hv
        have HB := Lib.hid hbb
        have HP : Hid (∀ w', Qw w w' → Pst (w'.setCell ⟨b, o, none⟩ (.int .i64 v)) B L cap (s.set n v)) := Lib.hid fun w' q => by
          obtain ⟨b', o', e', _, _, _, _, _, k, _⟩ := place_some (h.kept q) e
          injection e' with x1 x2
          subst x1 x2
          exact (k v h3 h4).1
        generalize s.get n = x at *
        clear hf e e2 h3 h4 h hs hv hset hg hbb
        go_enter Tryd.func24, Tryd.ntmps24
        go_wp2_with (first | (go_at_call 34; ((with_reducible refine HF.out.mono ?_); rintro e w' ⟨rfl, q⟩; have hc' : w'.cell? ⟨b, o, none⟩ = some (.int .i64 x) := (q.cell (p := ⟨b, o, none⟩) hb).trans hc; have hz' : w'.frozen? ⟨b, o, none⟩ = false := (q.frozen (p := ⟨b, o, none⟩) hb).trans hz; have q0 := Lib.hid q; clear q)) | (go_at_call 38; ((with_reducible refine (HS.out _).mono ?_); rintro e w' ⟨rfl, rfl⟩)) | (go_at_call 39; ((with_reducible refine (HV.out _).mono ?_); rintro e w' ⟨rfl, rfl⟩)))
        go_ret
        exact ⟨rfl, HP.out _ q0.out, Ty.one q0.out HB.out _ _⟩
      · rw [decide_eq_false h4] at hv
        have e2 : Vs.serr n v = 3 := by
          have k : ¬ (¬ Vs.isL n ∧ ¬ Vs.isC n) := fun k => by
            unfold place at e
            rw [if_neg k.1, if_neg k.2, if_neg h3] at e
            cases e
          unfold Vs.serr; rw [if_neg h3, if_neg k, if_neg h4]
        have e1 : s.set n v = s := by unfold Vs.St.set; rw [if_pos (by rw [e2]; decide)]
        rw [e1, e2]
        have HF := Lib.hid hf
        have HS := Lib.hid hs
        have HV := Lib.hid hv
        clear hf e e1 e2 h3 h4 h hs hv hset hg hc
        go_enter Tryd.func24, Tryd.ntmps24
        go_wp2_with (first | (go_at_call 34; ((with_reducible refine HF.out.mono ?_); rintro e w' ⟨rfl, q⟩; have q0 := Lib.hid q; clear q)) | (go_at_call 38; ((with_reducible refine (HS.out _).mono ?_); rintro e w' ⟨rfl, rfl⟩)) | (go_at_call 39; ((with_reducible refine (HV.out _).mono ?_); rintro e w' ⟨rfl, rfl⟩)))
        go_ret
        exact ⟨rfl, H.out.kept q0.out, Ty.of q0.out⟩

end Go.Proofs.YtkfipjlknfinpaaDoor
