
/- Plain facts for the laws of layer 7: the levels below are kept. -/
import Derived.Test.YtmfhiabajkdikaaDoorVlD
set_option linter.unusedVariables false
set_option linter.unusedSimpArgs false
namespace Go.Proofs.YtmfhiabajkdikaaDoor
open Go.RowKit

namespace Vs

theorem step_ok {s : St} (h : s.ok) (a : A) : (s.step a).ok := by
  unfold St.step
  split
  · exact set_ok h _ _
  · split
    · exact host_ok h _ _
    · split
      · exact push_ok h _
      · split
        · exact pop_ok h
        · exact h

/-- x stands one level above s, whose local variables lie below. -/
structure Low (s x : St) : Prop where
  n : x.n = s.n + 1
  ls : x.ls.take (s.n * 33) = s.ls
  ok : x.ok

theorem low_push {s : St} (ok : s.ok) (h : s.n ≠ 9) : perr s [] = 0 ∧ Low s (s.push []) := by
  have e : perr s [] = 0 := by unfold perr; rw [if_neg h]; rfl
  have e2 : s.push [] = { s with n := s.n + 1, ls := s.ls ++ zer 33 } := by unfold St.push; rw [if_pos e]; rfl
  have ok2 := push_ok ok []
  refine ⟨e, ?_, ?_, ok2⟩
  · rw [e2]
  · rw [e2]
    show (s.ls ++ zer 33).take (s.n * 33) = s.ls
    rw [← ok.hl, List.take_left']
    rfl
theorem low_set {s x : St} (h : Low s x) (n v : Int) : Low s (x.set n v) := by
  have ok := set_ok h.ok n v
  have hn := h.n
  unfold St.set at ok ⊢
  split
  · exact h
  · rename_i e
    rw [if_neg e] at ok
    split
    · rename_i hL
      rw [if_pos hL] at ok
      refine ⟨h.n, ?_, ok⟩
      show (x.ls.set (x.at n) v).take (s.n * 33) = s.ls
      rw [List.take_set_of_le (by unfold St.at; omega)]
      exact h.ls
    · rename_i hL
      rw [if_neg hL] at ok
      exact ⟨h.n, h.ls, ok⟩
theorem low_host {s x : St} (h : Low s x) (n v : Int) : Low s (x.host n v) := by
  have ok := host_ok h.ok n v
  unfold St.host at ok ⊢
  split
  · exact h
  · rename_i e
    rw [if_neg e] at ok
    exact ⟨h.n, h.ls, ok⟩
theorem low_step {s x : St} (h : Low s x) {a : A} (ha : a.what = 1 ∨ a.what = 2) : Low s (x.step a) := by
  unfold St.step
  rcases ha with ha | ha
  · rw [if_pos ha]; exact low_set h _ _
  · rw [if_neg (by omega), if_pos ha]; exact low_host h _ _
/-- Behind a Set of a common variable and a Pop: the level is the one below, its local variables are as they were, and the common variable holds what it was given. -/
theorem low_pop {s x : St} (h : Low s x) (ok : s.ok) {k v : Int} (hk : isC k) (hv : vld v) :
    serr k v = 0 ∧ St.poperr (x.set k v) = 0 ∧ (x.set k v).pop.n = s.n ∧ (∀ j, isL j → (x.set k v).pop.get j = s.get j) ∧ (x.set k v).pop.get k = v ∧ gerr k = 0 := by
  have hk2 := hk
  unfold isC at hk2
  have e0 : serr k v = 0 := by
    unfold serr
    rw [if_neg (by unfold isS; omega), if_neg (fun q => q.2 hk), if_pos hv]
  have hnL : ¬ isL k := by unfold isL; omega
  have e1 : x.set k v = { x with cm := x.cm.set (k - 100).toNat v } := by
    unfold St.set
    rw [if_neg (fun q => q e0), if_neg hnL]
  have hn := h.n
  have n1 := ok.n1
  have hc := h.ok.hc
  have e2 : (x.set k v).n = s.n + 1 := by rw [e1]; exact hn
  have e3 : (x.set k v).pop = { x with cm := x.cm.set (k - 100).toNat v, n := x.n - 1, ls := x.ls.take ((x.n - 1) * 33) } := by
    unfold St.pop
    rw [if_neg (by rw [e2]; omega), e1]
  have hl : x.ls.take ((x.n - 1) * 33) = s.ls := by rw [hn]; exact h.ls
  refine ⟨e0, by unfold St.poperr; rw [if_neg (by rw [e2]; omega)], ?_, fun j hj => ?_, ?_, ?_⟩
  · rw [e3]; show x.n - 1 = s.n; omega
  · rw [e3]
    unfold St.get
    rw [if_pos hj, if_pos hj]
    show (x.ls.take ((x.n - 1) * 33)).getD ((x.n - 1 - 1) * 33 + (j - 1).toNat) 0 = s.ls.getD ((s.n - 1) * 33 + (j - 1).toNat) 0
    rw [hl, hn, Nat.add_sub_cancel]
  · rw [e3]
    unfold St.get
    rw [if_neg hnL, if_pos hk]
    show (x.cm.set (k - 100).toNat v).getD (k - 100).toNat 0 = v
    rw [List.getD_eq_getElem?_getD, List.getElem?_set_self (by omega)]
    rfl
  · unfold gerr
    rw [if_pos (.inr (.inl hk))]
theorem gerr_l {j : Int} (h : isL j) : gerr j = 0 := by unfold gerr; rw [if_pos (.inl h)]
/-- What the walk writes into its array. -/
def wasTo (s : St) : Nat → List Int
  | 0 => zer 33
  | m + 1 => (wasTo s m).set m (s.get ((m : Int) + 1))
theorem wasTo_length (s : St) (m : Nat) : (wasTo s m).length = 33 := by
  induction m with
  | zero => exact zer_length 33
  | succ m ih => simpa [wasTo] using ih
theorem wasTo_at (s : St) (m : Nat) (hm : m ≤ 33) : ∀ j, j < m → (wasTo s m).getD j 0 = s.get ((j : Int) + 1) := by
  induction m with
  | zero => intro j hj; omega
  | succ m ih =>
    intro j hj
    show ((wasTo s m).set m _).getD j 0 = _
    rw [List.getD_eq_getElem?_getD, List.getElem?_set, wasTo_length]
    by_cases e : m = j
    · subst e
      rw [if_pos rfl, if_pos (by omega)]
      rfl
    · rw [if_neg e, ← List.getD_eq_getElem?_getD]
      exact ih (by omega) j (by omega)

end Vs
end Go.Proofs.YtmfhiabajkdikaaDoor
