
/- The walks of Get, Set and Host. -/
import Derived.Test.YtijakijjeoaikaaVaA
set_option linter.unusedVariables false
set_option linter.unusedSimpArgs false
namespace Go.Proofs.Ytijakijjeoaikaa
open Go.RowKit


/-- Where a variable lies. -/
def place (B L : Nat) (s : Vs.St) (n : Int) : Option Addr :=
  if Vs.isL n then some ⟨L, s.at n, none⟩ else if Vs.isC n then some ⟨B, 1 + (n - 100).toNat, none⟩ else if Vs.isS n then some ⟨B, 101 + (n - 5000).toNat, none⟩ else none

theorem at_lt {s : Vs.St} (h : s.ok) {n : Int} (hn : Vs.isL n) : s.at n < s.n * 33 := by
  have h1 := h.n1
  unfold Vs.isL at hn
  unfold Vs.St.at
  omega

theorem addr_eq {b x y : Nat} (h : x = y) : (⟨b, x, none⟩ : Addr) = ⟨b, y, none⟩ := by rw [h]
theorem ret_ptr {b x y : Nat} (h : x = y) : Ending.returned (.pointer (some ⟨b, x, none⟩)) = .returned (.pointer (some ⟨b, y, none⟩)) := by rw [h]

/-! ### what lies there -/

theorem place_none {B L : Nat} {s : Vs.St} {n : Int} (h : place B L s n = none) : ¬ Vs.isL n ∧ ¬ Vs.isC n ∧ ¬ Vs.isS n := by
  unfold place at h
  by_cases h1 : Vs.isL n
  · rw [if_pos h1] at h; cases h
  · rw [if_neg h1] at h
    by_cases h2 : Vs.isC n
    · rw [if_pos h2] at h; cases h
    · rw [if_neg h2] at h
      by_cases h3 : Vs.isS n
      · rw [if_pos h3] at h; cases h
      · exact ⟨h1, h2, h3⟩

theorem disjoint (n : Int) : (Vs.isL n → ¬ Vs.isC n ∧ ¬ Vs.isS n) ∧ (Vs.isC n → ¬ Vs.isL n ∧ ¬ Vs.isS n) ∧ (Vs.isS n → ¬ Vs.isL n ∧ ¬ Vs.isC n) := by
  unfold Vs.isL Vs.isC Vs.isS; omega

/-- The place of a variable: its block, its number within, what it holds, and what a store of v there leaves. -/
theorem place_some {T E : TypeId} {w : World} {B L cap : Nat} {s : Vs.St} (h : Stb T E w B L cap s) {n : Int} {a : Addr} (e : place B L s n = some a) :
    ∃ b o, a = ⟨b, o, none⟩ ∧ (b = B ∨ b = L) ∧ w.cell? ⟨b, o, none⟩ = some (.int .i64 (s.get n)) ∧ w.frozen? ⟨b, o, none⟩ = false ∧ b < w.heap.size ∧ Vs.gerr n = 0 ∧
      (∀ v, ¬ Vs.isS n → Vs.vld v → Stb T E (w.setCell ⟨b, o, none⟩ (.int .i64 v)) B L cap (s.set n v) ∧ Vs.serr n v = 0) ∧
      (∀ v, Vs.isS n → Vs.vld v → Stb T E (w.setCell ⟨b, o, none⟩ (.int .i64 v)) B L cap (s.host n v) ∧ Vs.herr n v = 0) := by
  obtain ⟨d1, d2, d3⟩ := disjoint n
  unfold place at e
  by_cases h1 : Vs.isL n
  · rw [if_pos h1] at e
    injection e with e
    subst e
    have lt := at_lt h.ok h1
    have sl := h.setL lt
    refine ⟨L, s.at n, rfl, .inr rfl, ?_, h.freeL _, h.ltL, ?_, ?_, ?_⟩
    · unfold Vs.St.get; rw [if_pos h1]; exact h.cellL lt
    · unfold Vs.gerr; rw [if_pos (.inl h1)]
    · intro v hs hv
      have e0 : Vs.serr n v = 0 := by unfold Vs.serr; rw [if_neg hs, if_neg (fun k => k.1 h1), if_pos hv]
      refine ⟨?_, e0⟩
      unfold Vs.St.set
      rw [if_neg (fun k => k e0), if_pos h1]
      exact sl v
    · intro v hs; exact absurd hs (d1 h1).2
  · rw [if_neg h1] at e
    by_cases h2 : Vs.isC n
    · rw [if_pos h2] at e
      injection e with e
      subst e
      have lt : (n - 100).toNat < 100 := by unfold Vs.isC at h2; omega
      refine ⟨B, 1 + (n - 100).toNat, rfl, .inl rfl, ?_, h.freeB _, h.ltB, ?_, ?_, ?_⟩
      · unfold Vs.St.get; rw [if_neg h1, if_pos h2]; exact h.cellC lt
      · unfold Vs.gerr; rw [if_pos (.inr (.inl h2))]
      · intro v hs hv
        have e0 : Vs.serr n v = 0 := by unfold Vs.serr; rw [if_neg hs, if_neg (fun k => k.2 h2), if_pos hv]
        refine ⟨?_, e0⟩
        unfold Vs.St.set
        rw [if_neg (fun k => k e0), if_neg h1]
        exact h.setC lt v
      · intro v hs; exact absurd hs (d2 h2).2
    · rw [if_neg h2] at e
      by_cases h3 : Vs.isS n
      · rw [if_pos h3] at e
        injection e with e
        subst e
        have lt : (n - 5000).toNat < 1000 := by unfold Vs.isS at h3; omega
        refine ⟨B, 101 + (n - 5000).toNat, rfl, .inl rfl, ?_, h.freeB _, h.ltB, ?_, ?_, ?_⟩
        · unfold Vs.St.get; rw [if_neg h1, if_neg h2, if_pos h3]; exact h.cellS lt
        · unfold Vs.gerr; rw [if_pos (.inr (.inr h3))]
        · intro v hs; exact absurd h3 hs
        · intro v hs hv
          have e0 : Vs.herr n v = 0 := by unfold Vs.herr; rw [if_neg (fun k => k h3), if_pos hv]
          refine ⟨?_, e0⟩
          unfold Vs.St.host
          rw [if_neg (fun k => k e0)]
          exact h.setS lt v
      · rw [if_neg h3] at e; cases e

theorem Ty.drewN {B L : Nat} {a w : World} (h : Ty B L a w) (n : Nat) : Ty B L a (w.drewN n) := h.trans ⟨rfl, rfl, rfl, Nat.le_refl _, fun _ _ _ _ => rfl⟩
theorem Ty.one {B L b : Nat} {w w1 : World} (q : Qw w w1) (hb : b = B ∨ b = L) (o : Nat) (u : Value) : Ty B L w (w1.setCell ⟨b, o, none⟩ u) := by
  refine Ty.trans (Ty.of q) ?_
  rcases hb with rfl | rfl
  · exact Ty.setB _ _ _ _ _
  · exact Ty.setL _ _ _ _ _

end Go.Proofs.Ytijakijjeoaikaa
