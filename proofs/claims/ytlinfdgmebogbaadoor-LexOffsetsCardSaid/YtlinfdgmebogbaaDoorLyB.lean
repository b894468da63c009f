
/- What the laws of layer 5 share: facts that go from world to world. -/
import Derived.Test.YtlinfdgmebogbaaDoorLyA
import Derived.Test.YtlinfdgmebogbaaDoorLmA
set_option linter.unusedVariables false
set_option linter.unusedSimpArgs false
namespace Go.Proofs.YtlinfdgmebogbaaDoor
open Go.RowKit

theorem ToksB.next {w w' : World} {v : Value} {ts : List Lx.Tok} (h : ToksB w.heap.size w v ts) (q : Qw w w') : ToksB w'.heap.size w' v ts := (h.kept q (Nat.le_refl _)).mono q.size
theorem IntsB.now {w w' : World} {v : Value} {zs : List Int} (h : IntsB w.heap.size w v zs) (q : Qw w w') : IntsB w'.heap.size w' v zs := (h.kept q (Nat.le_refl _)).mono q.size
theorem new_line {w w1 w2 : World} (q : Qw w w1) (h : Below w.heap.size w1 w2) : Qw w w2 := Below.trans q h
theorem btwN (v l h : Int) (lh : l ≤ h) : l ≤ l + v % (h - l + 1) ∧ l + v % (h - l + 1) ≤ h := by
  have a := Int.emod_nonneg v (show h - l + 1 ≠ 0 by omega)
  have b := Int.emod_lt_of_pos v (show 0 < h - l + 1 by omega)
  omega
theorem cat_list (a b : ByteArray) : (a ++ b).data.toList = a.data.toList ++ b.data.toList := by rw [ByteArray.data_append, Array.toList_append]
theorem res_ok {l : List UInt8} {ts : List Lx.Tok} (h : Lx.lx l 0 = .ok ts) : Lx.tks l = ts ∧ Lx.tat l = l.length ∧ Lx.ter l = 0 := by
  unfold Lx.tks Lx.tat Lx.ter; rw [h]; exact ⟨rfl, rfl, rfl⟩
theorem res_bad {l : List UInt8} {a : Nat} (h : Lx.lx l 0 = .bad a) : Lx.tks l = [] ∧ Lx.tat l = a ∧ Lx.ter l = 2 := by
  unfold Lx.tks Lx.tat Lx.ter; rw [h]; exact ⟨rfl, rfl, rfl⟩
theorem lx_cases (l : List UInt8) : (∃ ts, Lx.lx l 0 = .ok ts) ∨ ∃ a, Lx.lx l 0 = .bad a := by
  cases h : Lx.lx l 0 with
  | ok ts => exact .inl ⟨ts, rfl⟩
  | bad a => exact .inr ⟨a, rfl⟩
theorem no59 {S : ByteArray} (h : ∀ j (h : j < S.size), S[j] ≠ 59) : ∀ c ∈ S.data.toList, c ≠ 59 := by
  intro c hc
  obtain ⟨j, hj, e⟩ := List.mem_iff_getElem.1 hc
  have := h j (by rw [← size_len]; exact hj)
  exact fun k => this (by rw [← k, ← e]; rfl)
theorem no59_more {S : ByteArray} {k : Nat} (h : ∀ j (_ : j < k) (h : j < S.size), S[j] ≠ 59) (hk : k < S.size) (n : S[k] ≠ 59) : ∀ j (_ : j < k + 1) (h : j < S.size), S[j] ≠ 59 := by
  intro j hj hs
  rcases Nat.lt_or_ge j k with g | g
  · exact h j g hs
  · obtain rfl : j = k := by omega
    exact n
theorem toks_form {B : Nat} {w : World} {v : Value} {ts : List Lx.Tok} (h : ToksB B w v ts) : ∃ a cap, v = .slice a ts.length cap ∧ ts.length ≤ cap ∧ cap ≤ 9223372036854775807 ∧ ToksB B w (.slice a ts.length cap) ts := by
  have k := h
  obtain ⟨a, cap, rfl, l1, l2, h3⟩ := h
  exact ⟨a, cap, rfl, l1, l2, k⟩
theorem mv_alike (us : List Lx.Tok) (d : Nat) : Lx.Alike (us.map (Lx.Tok.mv d)) us := by
  refine ⟨List.length_map _, fun i h h' => ?_⟩
  rw [List.getElem_map]; exact ⟨rfl, rfl, rfl⟩
theorem toks_pre {B : Nat} {w : World} {a : Option Addr} {n cap : Nat} {ts us : List Lx.Tok} (h : ToksB B w (.slice a n cap) (ts ++ us)) : ToksB B w (.slice a ts.length cap) ts := by
  obtain ⟨a', cap', e, l1, l2, h3⟩ := h
  injection e with e1 e2 e3
  subst e1 e3
  rw [List.length_append] at l1
  refine ⟨_, _, rfl, by omega, l2, ?_⟩
  rcases h3 with h3 | ⟨b, off, rfl, hb, hc⟩
  · exact .inl (List.append_eq_nil_iff.1 h3).1
  · refine .inr ⟨b, off, rfl, hb, fun i hi => ?_⟩
    have k := hc i (by rw [List.length_append]; omega)
    rw [List.getElem_append_left hi] at k
    exact k
theorem toks_suf {B : Nat} {w : World} {a : Option Addr} {n cap m : Nat} {ts us : List Lx.Tok} (h : ToksB B w (.slice a n cap) (ts ++ us)) (hm : us.length = m) :
    ToksB B w (.slice (if cap = ts.length then a else Option.map (fun x => x.add (ts.length * 4)) a) m (cap - ts.length)) us := by
  subst hm
  obtain ⟨a', cap', e, l1, l2, h3⟩ := h
  injection e with e1 e2 e3
  subst e1 e3
  rw [List.length_append] at l1
  refine ⟨_, _, rfl, by omega, by omega, ?_⟩
  by_cases hu : us = []
  · exact .inl hu
  · have u1 : us.length ≠ 0 := fun h => hu (List.eq_nil_of_length_eq_zero h)
    rcases h3 with h3 | ⟨b, off, rfl, hb, hc⟩
    · exact .inl (List.append_eq_nil_iff.1 h3).2
    · refine .inr ⟨b, off + ts.length * 4, by rw [if_neg (by omega), Option.map_some, Addr.add_mid], hb, fun i hi => ?_⟩
      have k := hc (ts.length + i) (by rw [List.length_append]; omega)
      have g : (ts ++ us)[ts.length + i]'(by rw [List.length_append]; omega) = us[i] := by rw [List.getElem_append_right (by omega)]; simp
      rw [g, show off + (ts.length + i) * 4 = off + ts.length * 4 + i * 4 by omega] at k
      exact k
end Go.Proofs.YtlinfdgmebogbaaDoor
