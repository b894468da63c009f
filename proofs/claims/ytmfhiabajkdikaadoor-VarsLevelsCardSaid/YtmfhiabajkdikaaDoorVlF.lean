
/- What the laws over scripts share. -/
import Derived.Test.YtmfhiabajkdikaaDoorVlE
import Derived.Test.YtmfhiabajkdikaaDoorVlP
set_option linter.unusedVariables false
set_option linter.unusedSimpArgs false
namespace Go.Proofs.YtmfhiabajkdikaaDoor
open Go.RowKit


/-- An act read out of a script. -/
theorem acts_at {C : Nat} {w wr : World} {a : Option Addr} {len cap : Nat} {l : List Vs.A} (h : ActsB C w (.slice a len cap) l) (hC : C ≤ w.heap.size) (q : Qw w wr) {i : Nat} (hi : i < l.length) :
    ∃ b off sv, a = some ⟨b, off, none⟩ ∧ (wr.cell? ⟨b, off + i * 5, none⟩ = some (.int .i64 l[i].what) ∧ wr.cell? ⟨b, off + i * 5 + 1, none⟩ = some (.int .i64 l[i].n) ∧ wr.cell? ⟨b, off + i * 5 + 2, none⟩ = some (.int .i64 l[i].v) ∧
      wr.cell? ⟨b, off + i * 5 + 3, none⟩ = some (.bool l[i].near) ∧ wr.cell? ⟨b, off + i * 5 + 4, none⟩ = some sv) ∧ ActV C w (.agg #[.int .i64 l[i].what, .int .i64 l[i].n, .int .i64 l[i].v, .bool l[i].near, sv]) l[i] := by
  obtain ⟨a', cap', e, _, _, hA⟩ := h
  injection e with e1 e2 e3
  subst e1
  rcases hA with hA | ⟨b, off, e, hb, hc⟩
  · rw [hA] at hi; simp at hi
  · obtain ⟨sv, ⟨c0, c1, c2, c3, c4⟩, hv, n1, n2, v1, v2⟩ := hc i hi
    have k : ∀ o, wr.cell? ⟨b, o, none⟩ = w.cell? ⟨b, o, none⟩ := fun o => q.cell (p := ⟨b, o, none⟩) (by show b < w.heap.size; omega)
    exact ⟨b, off, sv, e, ⟨by rw [k]; exact c0, by rw [k]; exact c1, by rw [k]; exact c2, by rw [k]; exact c3, by rw [k]; exact c4⟩, sv, rfl, hv, n1, n2, v1, v2⟩
theorem acts_what {C : Nat} {w wr : World} {a : Option Addr} {len cap : Nat} {l : List Vs.A} (h : ActsB C w (.slice a len cap) l) (hC : C ≤ w.heap.size) (q : Qw w wr) {i : Nat} (hi : i < l.length) :
    ∃ b off, a = some ⟨b, off, none⟩ ∧ wr.cell? ⟨b, off + i * 5, none⟩ = some (.int .i64 l[i].what) := by
  obtain ⟨b, off, sv, e, ⟨c0, _⟩, _⟩ := acts_at h hC q hi
  exact ⟨b, off, e, c0⟩
theorem acts_shape {C : Nat} {w : World} {v : Value} {l : List Vs.A} (h : ActsB C w v l) : ∃ a cap, v = .slice a l.length cap ∧ (l.length : Int) ≤ 9223372036854775807 := by
  obtain ⟨a, cap, e, h1, h2, _⟩ := h
  exact ⟨a, cap, e, by omega⟩

theorem Pr.start {w0 w1 w2 : World} {B L c B' L' c' : Nat} {s t : Vs.St} (p : Pst w1 B L c s) (hB : w0.heap.size ≤ B) (hL : w0.heap.size ≤ L) (q : Qw w0 w1) (r : Rst w2 B' L' c' t) (hB' : w1.heap.size ≤ B') (hL' : w1.heap.size ≤ L') (q2 : Qw w1 w2) :
    Pr w0 w2 B L c B' L' c' s t := by
  have l1 := p.ltB
  have l2 := p.ltL
  have z := q.size
  exact ⟨p.kept q2, r, ⟨by omega, by omega, by omega, by omega⟩, ⟨hB, hL, by omega, by omega⟩, q.trans q2⟩
/-- Pairs of stores that share no block. -/
def Apart (B L B' L' C K C' K' : Nat) : Prop := ∀ k, Fb B L B' L' k → ¬ Fb C K C' K' k
theorem Apart.symm {B L B' L' C K C' K' : Nat} (h : Apart B L B' L' C K C' K') : Apart C K C' K' B L B' L' := fun k h1 h2 => h k h2 h1
theorem apart_new {w0 w : World} {B L c B' L' c' C K C' K' : Nat} {s t : Vs.St} (h : Pr w0 w B L c B' L' c' s t) (h1 : w.heap.size ≤ C) (h2 : w.heap.size ≤ K) (h3 : w.heap.size ≤ C') (h4 : w.heap.size ≤ K') : Apart B L B' L' C K C' K' := fun k k1 k2 => by
  have l1 := h.p.ltB
  have l2 := h.p.ltL
  have l3 := h.r.ltB
  have l4 := h.r.ltL
  rcases k1 with e | e | e | e <;> rcases k2 with f | f | f | f <;> omega
/-- One pair has turned: the other one is as it was, and they are apart still. -/
theorem Pr.other {w0 w w' : World} {B L B' L' L1 L2 C K c C' K' c' : Nat} {s t : Vs.St} (h : Pr w0 w C K c C' K' c' s t) (T : Tf (Fb B L B' L') w w') (d : Apart B L B' L' C K C' K') (n1 : L1 = L ∨ w.heap.size ≤ L1) (n2 : L2 = L' ∨ w.heap.size ≤ L2)
    (hb : ∀ k, Fb B L B' L' k → w0.heap.size ≤ k) : Pr w0 w' C K c C' K' c' s t ∧ Apart B L1 B' L2 C K C' K' := by
  refine ⟨h.tf T d hb, fun k hk hk2 => ?_⟩
  have l1 := h.p.ltB
  have l2 := h.p.ltL
  have l3 := h.r.ltB
  have l4 := h.r.ltL
  have hlt : k < w.heap.size := by rcases hk2 with e | e | e | e <;> omega
  have hk3 : Fb B L B' L' k := by
    rcases hk with e | e | e | e
    · exact .inl e
    · rcases n1 with n | n
      · exact .inr (.inl (by omega))
      · omega
    · exact .inr (.inr (.inl e))
    · rcases n2 with n | n
      · exact .inr (.inr (.inr (by omega)))
      · omega
  exact d k hk3 hk2
theorem fb_new {B L B' L' L1 L2 D n : Nat} (h : ¬ Fb B L B' L' D) (h1 : L1 = L ∨ n ≤ L1) (h2 : L2 = L' ∨ n ≤ L2) (hD : D < n) : ¬ Fb B L1 B' L2 D := fun k => by
  rcases k with e | e | e | e
  · exact h (.inl e)
  · rcases h1 with f | f
    · exact h (.inr (.inl (by omega)))
    · omega
  · exact h (.inr (.inr (.inl e)))
  · rcases h2 with f | f
    · exact h (.inr (.inr (.inr (by omega))))
    · omega
theorem Pr.mine {w0 w : World} {B L c B' L' c' : Nat} {s t : Vs.St} (h : Pr w0 w B L c B' L' c' s t) : ∀ k, Fb B L B' L' k → w0.heap.size ≤ k := fun k hk => by
  obtain ⟨b1, b2, b3, b4⟩ := h.b
  rcases hk with e | e | e | e <;> omega

end Go.Proofs.YtmfhiabajkdikaaDoor
