
/- Appending one list of values to another; the drawn lists of the laws. -/
import Derived.Test.YtijakijjeoaikaaMvB
set_option linter.unusedVariables false
set_option linter.unusedSimpArgs false
namespace Go.Proofs.Ytijakijjeoaikaa
open Go.RowKit

theorem app_none (w : World) (B : Nat) (ty : TypeId) (c : Nat) (v : Value) (l : Vs.Ar) (hown : OwnM B w v l) : (Builtin.append_ #[22, 22] ty #[v, .slice none 0 c]).run Try.prog w = .ok v w := by
  obtain ⟨i0, hi, hz0, hz1, hz2⟩ := info_parts info_valM
  have ht := Try.underlying22
  rcases hown.2 with ⟨rfl, h⟩ | ⟨g, cap, cur, rfl, _, _, hnc, _⟩
  · simp [Builtin.append_, run_underlying ht, sizeOf, typeInfo, hi, Builtin.lenOf, Builtin.firstCells]
  · simp [Builtin.append_, run_underlying ht, sizeOf, typeInfo, hi, Builtin.lenOf, Builtin.firstCells, hnc, storeCells]
theorem app_vals {B C : Nat} {w : World} {v u : Value} {l r : Vs.Ar} (ty : TypeId) (hown : OwnM B w v l) (hu : ValsB C w u r) (hl : l.length + r.length ≤ 1000) (hB : B ≤ w.heap.size) :
    ∃ v' w', (Builtin.append_ #[22, 22] ty #[v, u]).run Try.prog w = .ok v' w' ∧ OwnM B w' v' (l ++ r) ∧ w.grownBy w' v.ownBlock ∧ (∀ g, v'.ownBlock = some g → v.ownBlock = some g ∨ w.heap.size ≤ g) := by
  obtain ⟨a, cap, rfl, l1, l2, hA⟩ := hu
  cases a with
  | none =>
    have e : r = [] := by
      rcases hA with h | ⟨b, off, h, _⟩
      · exact h
      · cases h
    subst e
    exact ⟨v, w, app_none w B ty cap v l hown, by rw [List.append_nil]; exact hown, ⟨rfl, rfl, rfl, Nat.le_refl _, fun _ _ _ => rfl⟩, fun g h => .inl h⟩
  | some ad =>
    obtain ⟨i0, hi, hz0, hz1, hz2⟩ := info_parts info_valM
    obtain ⟨v', w', hr, h2, h3, h4⟩ := run_append_nearM (P := Try.prog) w B 22 ty 50 i0 _ 2 16 Try.underlying22 hi hz0 hz1 hz2 rfl (by decide) v l.length (mvc l) hown ad r.length cap (mvc r) (mvc_length r) (by
      intro j x hj
      have hjl : j < r.length * 2 := by
        rw [← mvc_length]
        exact (List.getElem?_eq_some_iff.1 hj).1
      rcases hA with rfl | ⟨b, off, e, hb, hc⟩
      · simp at hjl
      · obtain rfl : ad = ⟨b, off, none⟩ := by simpa using e
        rw [Addr.add_mid]
        have hi2 : j / 2 < r.length := by omega
        obtain ⟨c0, c1, _, _⟩ := hc (j / 2) hi2
        have k := mvc_at r (j / 2) hi2
        by_cases ev : j % 2 = 0
        · have ej : j = j / 2 * 2 := by omega
          rw [ej] at hj ⊢
          rw [k.1] at hj
          rw [← hj, ← ej, show off + j = off + j / 2 * 2 by omega]
          exact c0
        · have ej : j = j / 2 * 2 + 1 := by omega
          rw [ej] at hj
          rw [k.2] at hj
          rw [← hj, show off + j = off + j / 2 * 2 + 1 by omega]
          exact c1) (by
      intro x hx
      unfold mvc at hx
      rw [List.mem_flatMap] at hx
      obtain ⟨p, _, hp⟩ := hx
      simp at hp
      rcases hp with rfl | rfl <;> rfl) (by unfold maxLen; omega) (by omega) hB
    refine ⟨v', w', hr, ?_, h3, h4⟩
    unfold OwnM
    rw [List.length_append, show mvc (l ++ r) = mvc l ++ mvc r by simp [mvc]]
    exact h2
/-- The list that was appended to remains as it was. -/
theorem app_keep {B C : Nat} {w w' : World} {v u v' : Value} {l r : Vs.Ar} (ty : TypeId) (hown : OwnM B w v l) (hu : ValsB C w u r) (hl : l.length + r.length ≤ 1000) (hr : (Builtin.append_ #[22, 22] ty #[v, u]).run Try.prog w = .ok v' w') (h2 : OwnM B w' v' (l ++ r)) : OwnM B w' v l := by
  obtain ⟨a, cap, rfl, l1, l2, hA⟩ := hu
  rcases hown.2 with ⟨rfl, h⟩ | ⟨g, gc, cur, rfl, hb, hg, hn, hm, hc, htk⟩
  · exact ⟨hown.1, .inl ⟨rfl, h⟩⟩
  · cases a with
    | none =>
      have e : r = [] := by
        rcases hA with h | ⟨b, off, h, _⟩
        · exact h
        · cases h
      subst e
      have k := app_none w B ty cap _ l hown
      rw [show ([] : Vs.Ar).length = 0 from rfl, k] at hr
      injection hr with e1 e2
      rw [← e2]; exact hown
    | some ad =>
      obtain ⟨i0, hi, hz0, hz1, hz2⟩ := info_parts info_valM
      have news : ∀ j x, (mvc r)[j]? = some x → w.cell? (ad.add j) = some x := by
        intro j x hj
        have hjl : j < r.length * 2 := by
          rw [← mvc_length]
          exact (List.getElem?_eq_some_iff.1 hj).1
        rcases hA with rfl | ⟨b, off, e, hb, hc⟩
        · simp at hjl
        · obtain rfl : ad = ⟨b, off, none⟩ := by simpa using e
          rw [Addr.add_mid]
          have hi2 : j / 2 < r.length := by omega
          obtain ⟨c0, c1, _, _⟩ := hc (j / 2) hi2
          have k := mvc_at r (j / 2) hi2
          by_cases ev : j % 2 = 0
          · have ej : j = j / 2 * 2 := by omega
            rw [ej] at hj ⊢
            rw [k.1] at hj
            rw [← hj, ← ej, show off + j = off + j / 2 * 2 by omega]
            exact c0
          · have ej : j = j / 2 * 2 + 1 := by omega
            rw [ej] at hj
            rw [k.2] at hj
            rw [← hj, show off + j = off + j / 2 * 2 + 1 by omega]
            exact c1
      have one : ∀ x ∈ mvc r, x.oneCell' = true := by
        intro x hx
        unfold mvc at hx
        rw [List.mem_flatMap] at hx
        obtain ⟨p, _, hp⟩ := hx
        simp at hp
        rcases hp with rfl | rfl <;> rfl
      by_cases room : l.length + r.length ≤ gc
      · obtain ⟨w2, k1, k2, k3⟩ := run_append_fits (P := Try.prog) w B 22 ty 50 i0 2 Try.underlying22 hi hz1 g l.length gc (mvc l) hown ad r.length cap (mvc r) (mvc_length r) news one room
        rw [k1] at hr
        injection hr with e1 e2
        subst e1 e2
        rcases k2.2 with ⟨h', _⟩ | ⟨g', gc', cur', h', hb', hg', hn', hm', hc', htk'⟩
        · simp at h'
        · simp only [Value.slice.injEq, Option.some.injEq, Addr.mk.injEq, and_true, true_and] at h'
          obtain ⟨rfl, rfl⟩ := h'
          refine ⟨hown.1, .inr ⟨g, gc, cur', rfl, hb', hg', hn, hm', hc', ?_⟩⟩
          have t := congrArg (List.take (l.length * 2)) htk'
          rw [List.take_take, Nat.min_eq_left (Nat.mul_le_mul_right 2 (by omega)), List.take_append_of_le_length (by rw [mvc_length]; exact Nat.le_refl _), List.take_of_length_le (l := mvc l) (by rw [mvc_length]; exact Nat.le_refl _)] at t
          exact t
      · have k := run_append_grow (P := Try.prog) w 22 ty 50 i0 _ Try.underlying22 hi hz0 ⟨g, 0, none⟩ l.length gc (mvc l) (by rw [mvc_length, hz1]) (World.ownsRow.cells hown (g := g) rfl) ad r.length cap (mvc r) (by rw [mvc_length, hz1]) news (by omega) (by omega) (by rw [hz2]; exact growslice_fits (by omega) (by omega))
        rw [k] at hr
        injection hr with e1 e2
        rw [← e2]
        exact hown.go fun b _ hb => (Below.heap_alloc w.drew _ b hb)
section
variable {ops : Array Oper} {rest : List Oper} {dst : Option Tmp} {ty : TypeId} {pos : String} {after : Array Edge} {gd : Option (Nat × Bool)} {a : Act} {w w' : World} {Q : Exit → Act → World → Prop} {v u v' : Value}
/-- An append behind a guard that holds. -/
theorem gd_append (s x : Tmp) (hw : Region.wanted ⟨dst, .call { callee := .builtin .append, args := #[.tmp s, .tmp x], argTypes := #[22, 22] }, ty, pos, after, gd⟩ (yielded ops a.tmps) = true) (hs : a.eval (.tmp s) = v) (hx : a.eval (.tmp x) = u)
    (hr : (Builtin.append_ #[22, 22] ty #[v, u]).run Try.prog w = .ok v' w') (h : wpList Try.prog ops Q rest (a.put dst v') w') :
    wpList Try.prog ops Q (⟨dst, .call { callee := .builtin .append, args := #[.tmp s, .tmp x], argTypes := #[22, 22] }, ty, pos, after, gd⟩ :: rest) a w :=
  wpList_step fun K hK => by
    rw [if_pos hw]
    exact Lib.wp_append_run w (.tmp s) (.tmp x) 22 22 rfl v u hs hx v' w' hr (hK _ _ h)
end
theorem fewM {C : Nat} {w : World} {v : Value} {l : Vs.Ar} (h : ValsB C w v l) : Calls Try.prog 13 #[v] w fun e w' => e = .returned (.bool (decide (l.length ≤ 40))) ∧ w = w' := by
  obtain ⟨a, cap, rfl, l1, l2, _⟩ := h
  go_enter Try.func13, Try.ntmps13
  go_wp2
  go_ret
  exact ⟨ret_bl (decide_eq_decide.2 (by omega)), rfl⟩
/-- The numbers of a list lie within the range of int. -/
def Wdd (l : Vs.Ar) : Prop := ∀ p ∈ l, -9223372036854775808 ≤ p.2 ∧ p.2 ≤ 9223372036854775807
theorem wdd_num {l : Vs.Ar} (h : Wdd l) (i : Nat) (hi : i < l.length) : -9223372036854775808 ≤ Vs.num l i ∧ Vs.num l i ≤ 9223372036854775807 := by
  unfold Vs.num
  rw [List.getD_eq_getElem?_getD, List.getElem?_eq_getElem hi]
  exact h _ (List.getElem_mem hi)
theorem Bdd.wdd {l : Vs.Ar} (h : Bdd l) : Wdd l := fun p hp => by have := h p hp; omega
theorem ValsB.wdd {C : Nat} {w : World} {v : Value} {l : Vs.Ar} (h : ValsB C w v l) : Wdd l := by
  obtain ⟨a, cap, _, _, _, h4⟩ := h
  rcases h4 with rfl | ⟨b, off, _, _, hc⟩
  · intro p hp; cases hp
  · intro p hp
    obtain ⟨i, hi, rfl⟩ := List.getElem_of_mem hp
    have k := (hc i hi).2.2
    unfold Vs.num at k
    rw [List.getD_eq_getElem?_getD, List.getElem?_eq_getElem hi] at k
    exact k
theorem Wdd.app {l r : Vs.Ar} (h : Wdd l) (k : Wdd r) : Wdd (l ++ r) := fun p hp => by
  rcases List.mem_append.1 hp with q | q
  · exact h p q
  · exact k p q
theorem OwnM.valsW {B : Nat} {w : World} {v : Value} {l : Vs.Ar} (own : OwnM B w v l) (hb : Wdd l) : ValsB w.heap.size w v l := by
  rcases own.2 with ⟨rfl, h⟩ | ⟨g, cap, cur, rfl, hbg, hg, h1, h2, h3, h4⟩
  · have : l = [] := List.eq_nil_of_length_eq_zero h
    subst this
    exact ⟨none, 0, rfl, Nat.le_refl _, by decide, .inl rfl⟩
  · refine ⟨_, cap, rfl, h1, by unfold maxLen at h2; omega, .inr ⟨g, 0, rfl, (Array.getElem?_eq_some_iff.1 hg).1, fun i hi => ?_⟩⟩
    have k := mvc_at l i hi
    have c := World.ownsRow.cells own (g := g) rfl
    have c0 := c _ _ k.1
    have c1 := c _ _ k.2
    rw [Addr.add_mid] at c0 c1
    rw [← Nat.add_assoc] at c1
    exact ⟨c0, c1, wdd_num hb i hi⟩
theorem tape_lt {w : World} {B : Nat} {v : Value} {zs : List Int} {k : Nat} (h : TapeAt w B v zs k) : B < w.heap.size := lt_of_block h.1
/-- A list that a tape of the call's own gives. -/
theorem valsX {w0 w1 w : World} {v : Value} {zs : List Int} (h : TapeAt w1 w0.heap.size v zs 0) (q : Qw w0 w1) (q2 : Qw w1 w) (hs : w0.heap.size < w1.heap.size) : Calls Try.prog 16 #[.pointer (some ⟨w0.heap.size, 0, none⟩)] w fun e w' => (∃ (B : Nat) (sv : Value) (l : Vs.Ar), e = .returned sv ∧ OwnM B w' sv l ∧ w0.heap.size < B ∧ B ≤ w'.heap.size ∧ Bdd l ∧ l.length ≤ 20) ∧ Qw w0 w' := by
  refine (valuesM (h.kept q2)).mono fun e w' ⟨E, k, sv, l, he, V, hl⟩ => ⟨⟨w.heap.size, sv, l, he, V.o, by have := q2.size; omega, V.g.size, V.n, hl⟩, ?_⟩
  have q3 := Qw.trans q q2
  exact ⟨V.g.os.trans q3.os, V.g.tape.trans q3.tape, V.g.output.trans q3.output, Nat.le_trans q3.size V.g.size, fun k hk => (V.g.block k (by have := q3.size; omega) (by simp; omega)).trans (q3.block k hk)⟩
end Go.Proofs.Ytijakijjeoaikaa
