
/- Drawing the values of a block from a tape: cncstage.Values. -/
import Derived.Test.YtijakijjeoaikaaMaA
import Derived.Test.YtijakijjeoaikaaTape
import Derived.Lib.AppendZeros
import Derived.Laws.OwnMore
import Derived.Maps.AppendAt
import Derived.Deep.MidRow
import Derived.Deep.DeepCutAuto
import Derived.Deep.Cut
set_option linter.unusedVariables false
set_option linter.unusedSimpArgs false
namespace Go.Proofs.Ytijakijjeoaikaa
open Go.RowKit

/-- append onto a row of the call's own: the row behind it is the old one, or a new block. -/
theorem run_append_nearM {P : Program} (w : World) (base : Nat) (t ty e : TypeId) (i : TypeInfo) (z : Value) (size bytes : Nat) (ht : P.underlying t = some (.slice e)) (hi : P.info? e = some i) (hz : i.zero = some z)
    (hsize : i.size = size) (hby : i.bytes = bytes) (hzs : z.cells.size = size) (hsz : 0 < size) (v : Value) (n : Nat) (xs : List Value) (hown : w.ownsRow base e size v n xs)
    (a : Addr) (m c : Nat) (news : List Value) (hl : news.length = m * size) (hnews : ∀ j u, news[j]? = some u → w.cell? (a.add j) = some u) (h1 : ∀ u ∈ news, u.oneCell' = true)
    (h63 : n + m ≤ maxLen) (hbytes : (n + m) * bytes ≤ 140737488355328) (hbase : base ≤ w.heap.size) :
    ∃ v' w', (Builtin.append_ #[t, t] ty #[v, .slice (some a) m c]).run P w = .ok v' w' ∧ w'.ownsRow base e size v' (n + m) (xs ++ news) ∧ w.grownBy w' v.ownBlock ∧
      (∀ g, v'.ownBlock = some g → v.ownBlock = some g ∨ w.heap.size ≤ g) := by
  rcases hown.2 with ⟨hv, hn⟩ | ⟨g, cap, cur, hv, hb, hg, hn, hm, hc, htk⟩
  · have hown' : w.ownsRow w.heap.size e size v n xs := ⟨hown.1, .inl ⟨hv, hn⟩⟩
    obtain ⟨v', w', h2, h3, h4, h5⟩ := run_append_own (P := P) w w.heap.size t ty e i z size bytes ht hi hz hsize hby hzs hsz v n xs hown' a m c news hl hnews h1 h63 hbytes (Nat.le_refl _)
    refine ⟨v', w', h2, ⟨h3.1, ?_⟩, h4, fun g hg => ?_⟩
    · rcases h3.2 with h | ⟨g, cap, cur, k1, k2, k3⟩
      · exact .inl h
      · exact .inr ⟨g, cap, cur, k1, Nat.le_trans hbase k2, k3⟩
    · rcases h3.2 with ⟨h, _⟩ | ⟨g', cap, cur, k1, k2, k3⟩
      · rw [h] at hg; cases hg
      · rw [k1] at hg
        have : g' = g := by simpa [Value.ownBlock] using hg
        exact .inr (this ▸ k2)
  · subst hv
    by_cases hroom : n + m ≤ cap
    · obtain ⟨w', h2, h3, h4⟩ := run_append_fits (P := P) w base t ty e i size ht hi hsize g n cap xs hown a m c news hl hnews h1 hroom
      exact ⟨_, w', h2, h3, h4, fun g' hg' => .inl hg'⟩
    · obtain ⟨v', w', h2, h3, h4, h5⟩ := run_append_own (P := P) w base t ty e i z size bytes ht hi hz hsize hby hzs hsz _ n xs hown a m c news hl hnews h1 h63 hbytes hbase
      refine ⟨v', w', h2, h3, h4, fun g' hg' => .inr ?_⟩
      subst hsize hby
      have hr := run_append_grow (P := P) w t ty e i z ht hi hz ⟨g, 0, none⟩ n cap xs hown.1 (hown.cells (g := g) rfl) a m c news hl hnews (by omega) (by unfold maxLen at h63; omega) (growslice_fits (by omega) hbytes)
      rw [h2] at hr
      injection hr with e1 e2
      rw [e1] at hg'
      have : w.heap.size = g' := by simpa [Value.ownBlock] using hg'
      omega


/-! ### lists of values that a call has made -/
def mvc (l : Vs.Ar) : List Value := l.flatMap fun p => [.int .i64 p.1, .int .i64 p.2]
theorem mvc_length (l : Vs.Ar) : (mvc l).length = l.length * 2 := by
  induction l with
  | nil => rfl
  | cons p l ih =>
    have : mvc (p :: l) = [.int .i64 p.1, .int .i64 p.2] ++ mvc l := rfl
    rw [this, List.length_append, ih, List.length_cons]
    simp only [List.length_cons, List.length_nil]
    omega
theorem mvc_at (l : Vs.Ar) (i : Nat) (h : i < l.length) : (mvc l)[i * 2]? = some (.int .i64 (Vs.ltr l i)) ∧ (mvc l)[i * 2 + 1]? = some (.int .i64 (Vs.num l i)) := by
  induction l generalizing i with
  | nil => simp at h
  | cons p l ih =>
    have e : mvc (p :: l) = .int .i64 p.1 :: .int .i64 p.2 :: mvc l := rfl
    rw [e]
    cases i with
    | zero => exact ⟨rfl, rfl⟩
    | succ i =>
      have k := ih i (by simpa using h)
      have e2 : (i + 1) * 2 = i * 2 + 1 + 1 := by omega
      rw [e2]
      exact k
theorem info_valM : (Try.prog.info? 50).map (fun i => (i.zero, i.size, i.bytes)) = some (some (.agg #[.int .i64 0, .int .i64 0]), 2, 16) := by kernel_rfl
/-- A list of values that the call has made. -/
def OwnM (B : Nat) (w : World) (v : Value) (l : Vs.Ar) : Prop := w.ownsRow B 50 2 v l.length (mvc l)
/-- The numbers are far from the ends of the range. -/
def Bdd (l : Vs.Ar) : Prop := ∀ p ∈ l, -9000000000000000 ≤ p.2 ∧ p.2 ≤ 9000000000000000
theorem bdd_num {l : Vs.Ar} (h : Bdd l) (i : Nat) (hi : i < l.length) : -9000000000000000 ≤ Vs.num l i ∧ Vs.num l i ≤ 9000000000000000 := by
  unfold Vs.num
  rw [List.getD_eq_getElem?_getD, List.getElem?_eq_getElem hi]
  exact h _ (List.getElem_mem hi)
theorem Bdd.snoc {l : Vs.Ar} (h : Bdd l) {p : Int × Int} (h1 : -9000000000000000 ≤ p.2) (h2 : p.2 ≤ 9000000000000000) : Bdd (l ++ [p]) := fun q hq => by
  rcases List.mem_append.1 hq with k | k
  · exact h q k
  · rw [List.mem_singleton.1 k]; exact ⟨h1, h2⟩
theorem OwnM.vals {B : Nat} {w : World} {v : Value} {l : Vs.Ar} (own : OwnM B w v l) (hb : Bdd l) : ValsB w.heap.size w v l := by
  rcases own.2 with ⟨rfl, h⟩ | ⟨g, cap, cur, rfl, hbg, hg, h1, h2, h3, h4⟩
  · have : l = [] := List.eq_nil_of_length_eq_zero h
    subst this
    exact ⟨none, 0, rfl, Nat.le_refl _, by decide, .inl rfl⟩
  · refine ⟨_, cap, rfl, h1, by unfold maxLen at h2; omega, .inr ⟨g, 0, rfl, (Array.getElem?_eq_some_iff.1 hg).1, fun i hi => ?_⟩⟩
    have k := mvc_at l i hi
    have c := World.ownsRow.cells own (g := g) rfl
    have c0 := c _ _ k.1
    have c1 := c _ _ k.2
    rw [Addr.add_mid] at c0 c1
    rw [← Nat.add_assoc] at c1
    have n := bdd_num hb i hi
    exact ⟨c0, c1, by omega, by omega⟩
theorem OwnM.go {B : Nat} {w w' : World} {v : Value} {l : Vs.Ar} (h : OwnM B w v l) (hb : ∀ g, v.ownBlock = some g → g < w.heap.size → w'.heap[g]? = w.heap[g]?) : OwnM B w' v l := by
  refine ⟨h.1, ?_⟩
  rcases h.2 with k | ⟨g, cap, cur, rfl, k1, k2, k3⟩
  · exact .inl k
  · exact .inr ⟨g, cap, cur, rfl, k1, (hb g rfl (Array.getElem?_eq_some_iff.1 k2).1).trans k2, k3⟩
theorem OwnM.lt {B : Nat} {w : World} {v : Value} {l : Vs.Ar} (h : OwnM B w v l) {g : Nat} (hg : v.ownBlock = some g) : B ≤ g ∧ g < w.heap.size := World.ownsRow.lt h g hg
theorem OwnM.nil (B : Nat) (w : World) : OwnM B w (.slice none 0 0) [] := World.ownsRow_nil _ _ _ _
section
variable {ops : Array Oper} {rest : List Oper} {dst : Option Tmp} {ty : TypeId} {pos : String} {after : Array Edge} {a : Act} {w : World} {Q : Exit → Act → World → Prop}
theorem val_append (s x : Tmp) (p : Int × Int) (B : Nat) (v : Value) (l : Vs.Ar) (g : Nat) {t : TypeId}
    (hs : a.eval (.tmp s) = v) (hx : a.eval (.tmp x) = .slice (some ⟨g, 0, none⟩) 1 1) (hb : Bx w g #[.int .i64 p.1, .int .i64 p.2] t)
    (hown : OwnM B w v l) (hl : l.length ≤ 1000000) (hB : B ≤ w.heap.size)
    (h : ∀ v' w', OwnM B w' v' (l ++ [p]) → w.grownBy w' v.ownBlock → (∀ g, v'.ownBlock = some g → v.ownBlock = some g ∨ w.heap.size ≤ g) → wpList Try.prog ops Q rest (a.put dst v') w') :
    wpList Try.prog ops Q (⟨dst, .call { callee := .builtin .append, args := #[.tmp s, .tmp x], argTypes := #[22, 22] }, ty, pos, after, none⟩ :: rest) a w := by
  obtain ⟨i0, hi, hz0, hz1, hz2⟩ := info_parts info_valM
  obtain ⟨v', w', hr, h2, h3, h4⟩ := run_append_nearM (P := Try.prog) w B 22 ty 50 i0 _ 2 16 Try.underlying22 hi hz0 hz1 hz2 rfl (by decide) v l.length (mvc l) hown ⟨g, 0, none⟩ 1 1 [.int .i64 p.1, .int .i64 p.2] rfl (by
    intro j u hj
    match j, hj with
    | 0, hj => simp at hj; subst hj; simpa [Addr.add] using hb.cell' 0 _ rfl
    | 1, hj => simp at hj; subst hj; simpa [Addr.add] using hb.cell' 1 _ rfl
    | n + 2, hj => simp at hj) (by
    intro u hu
    simp at hu
    rcases hu with rfl | rfl <;> rfl) (by unfold maxLen; omega) (by omega) hB
  refine Lib.wpList_append_run w rfl (.tmp s) (.tmp x) 22 22 rfl v _ hs hx v' w' hr (h v' w' ?_ h3 h4)
  unfold OwnM
  rw [List.length_append, show mvc (l ++ [p]) = mvc l ++ [.int .i64 p.1, .int .i64 p.2] by simp [mvc]]
  exact h2
end

/-! ### the tape, the next number -/
theorem grownR {w w' : World} {row : Option Nat} : w.grownBy w row := ⟨rfl, rfl, rfl, Nat.le_refl _, fun _ _ _ => rfl⟩
theorem grownAl (w : World) (o : Obj) (row : Option Nat) : w.grownBy (w.alloc o) row := ⟨rfl, rfl, rfl, by simp, fun k hk _ => Below.heap_alloc w o k hk⟩
theorem grownDr (w : World) (n : Nat) (row : Option Nat) : w.grownBy (w.drewN n) row := ⟨rfl, rfl, rfl, Nat.le_refl _, fun _ _ _ => rfl⟩
theorem grownSet (w : World) (b i : Nat) (u : Value) : w.grownBy (w.setCell ⟨b, i, none⟩ u) (some b) :=
  ⟨rfl, rfl, rfl, by simp [World.setCell], fun k hk hne => Below.heap_setCell w ⟨b, i, none⟩ u k (fun e => hne (by rw [e]))⟩
theorem IntsB.grownM {B C : Nat} {w w' : World} {v : Value} {zs : List Int} (h : IntsB B w v zs) (q : w.grownBy w' (some C)) (hC : B ≤ C) (hw : B ≤ w.heap.size) : IntsB B w' v zs :=
  h.kept (C := B) ⟨q.os, q.tape, q.output, q.size, fun k hk => q.block k (by omega) (by simp; omega)⟩ (Nat.le_refl _)
set_option maxRecDepth 100000 in
set_option maxHeartbeats 1000000 in
theorem nextM (B : Nat) (v : Value) (zs : List Int) (k : Nat) (n : Int) (n1 : 1 ≤ n) (n2 : n ≤ 9223372036854775807) (w : World) (h : TapeAt w B v zs k) :
    Calls Try.prog 35 #[.pointer (some ⟨B, 0, none⟩), .int .i64 n] w fun e w' => e = .returned (.int .i64 (nxt zs k n)) ∧ TapeAt w' B v zs (adv zs k) ∧ w.grownBy w' (some B) := by
  have hB := lt_of_block h.1
  obtain ⟨h1, h2, h3⟩ := h
  obtain ⟨a, cap, rfl, l1, l2, h4⟩ := h2
  obtain ⟨c0, c1, f1⟩ := cells_of_two h1
  unfold nxt adv
  by_cases hk : k < zs.length
  · rw [if_pos hk, if_pos hk]
    rcases h4 with rfl | ⟨b, off, rfl, hb, hz⟩
    · simp at hk
    · obtain ⟨z0, z1, z2⟩ := hz k hk
      have hlt := lt_of_block h1
      have hk' : (k : Int) < zs.length := by omega
      have HZ := Lib.hid hz
      have H1 := Lib.hid h1
      have md := fun w => modW (zs.getD k 0) n z1 z2 n1 n2 w
      obtain ⟨z, ez⟩ : ∃ z, zs.getD k 0 = z := ⟨_, rfl⟩
      rw [ez] at z0 z1 z2 md
      rw [ez]
      have MD := Lib.hid md
      have bB : b ≠ B := by omega
      clear hz ez md h1
      go_enter Try.func35, Try.ntmps35
      go_wp2
      go_quiet (fail)
      go_wp2
      obtain ⟨w1, hw1⟩ : ∃ w1, w1 = (w.drewN nq).setCell { block := B, off := 1 } (Value.int IntKind.i64 (↑k + 1)) := ⟨_, rfl⟩
      rw [← hw1]
      have g1 : w1.heap[B]? = some (.cells #[.slice (some ⟨b, off, none⟩) zs.length cap, .int .i64 ((k + 1 : Nat) : Int)] 58 (0, 0)) := by
        rw [hw1]
        exact two_setCell (w := w.drewN nq) H1.out
      have q1 : w.grownBy w1 (some B) := by
        rw [hw1]
        exact (grownDr w nq (some B)).trans (grownSet (w.drewN nq) B 1 _)
      have p1 : w1.cell? ⟨b, off + k, none⟩ = w.cell? ⟨b, off + k, none⟩ := World.cell?_of_block (a := ⟨b, off + k, none⟩) (q1.block b (by omega) (by simp; omega))
      obtain ⟨d0, d1, _⟩ := cells_of_two g1
      have d2 : w1.cell? ⟨b, off + k, none⟩ = some (.int .i64 z) := p1.trans z0
      rw [Int.natCast_add] at d1
      have T1 : Hid (TapeAt w1 B (.slice (some ⟨b, off, none⟩) zs.length cap) zs (k + 1)) := Lib.hid ⟨g1, IntsB.grownM ⟨some ⟨b, off, none⟩, cap, rfl, l1, l2, .inr ⟨b, off, rfl, hb, HZ.out⟩⟩ q1 (Nat.le_refl _) (by omega), by omega⟩
      have e1 : IntKind.i64.wrap ((k : Int) + 1 - 1) = k := (IntWalk.i64_in ((k : Int) + 1 - 1) (by omega)).trans (by omega)
      clear g1 hw1 c0 c1 f1 z0 p1
      go_quiet ((go_at_call 18; exact Calls.quiet_of_same ((MD.out _).mono fun _ _ ⟨h1, h2⟩ => ⟨h1, h2.symm⟩)))
      go_wp2
      go_ret
      exact ⟨rfl, T1.out.kept (Qw.drewN w1 _), q1.trans (grownDr w1 _ _)⟩
  · rw [if_neg hk, if_neg hk]
    have hk' : (zs.length : Int) ≤ k := by omega
    have H1 := Lib.hid (show TapeAt w B (.slice a zs.length cap) zs k from ⟨h1, ⟨a, cap, rfl, l1, l2, h4⟩, h3⟩)
    clear h1 h4 hk
    go_enter Try.func35, Try.ntmps35
    go_wp2
    go_quiet (fail)
    go_wp2
    go_ret
    exact ⟨rfl, H1.out.kept (Qw.drewN w nq), grownDr w _ _⟩

/-- While a block is drawn: the tape lies in block B, block E is not the list's. -/
structure Vm (w0 : World) (B E : Nat) (tv : Value) (zs : List Int) (k : Nat) (sl : Value) (l : Vs.Ar) (w : World) : Prop where
  t : TapeAt w B tv zs k
  o : OwnM w0.heap.size w sl l
  g : w0.grownBy w (some B)
  b : B < w0.heap.size
  n : Bdd l
  e : sl.ownBlock ≠ some E
section
variable {w0 w w' : World} {B E : Nat} {tv : Value} {zs : List Int} {k : Nat} {sl : Value} {l : Vs.Ar}
theorem Vm.next {k' : Nat} (h : Vm w0 B E tv zs k sl l w) (t : TapeAt w' B tv zs k') (g : w.grownBy w' (some B)) : Vm w0 B E tv zs k' sl l w' :=
  ⟨t, h.o.go fun b hb hl => g.block b hl (by have := (h.o.lt hb).1; have := h.b; simp; omega), h.g.trans g, h.b, h.n, h.e⟩
theorem Vm.al (h : Vm w0 B E tv zs k sl l w) (o : Obj) : Vm w0 B E tv zs k sl l (w.alloc o) :=
  h.next ⟨(Below.heap_alloc w o B (lt_of_block h.t.1)).trans h.t.1, h.t.2.1.kept (Below.alloc (Below.refl w.heap.size w) (Nat.le_refl _) o) (Nat.le_of_lt (lt_of_block h.t.1)), h.t.2.2⟩ (grownAl w o _)
theorem Vm.start (t : TapeAt w B tv zs k) (E : Nat) : Vm w B E tv zs k (.slice none 0 0) [] w :=
  ⟨t, OwnM.nil _ _, ⟨rfl, rfl, rfl, Nat.le_refl _, fun _ _ _ => rfl⟩, lt_of_block t.1, (fun p hp => by cases hp), by simp [Value.ownBlock]⟩
theorem Vm.re (h : Vm w0 B E tv zs k sl l w) (o : Obj) : Vm w0 B w.heap.size tv zs k sl l (w.alloc o) := by
  have a := h.al o
  exact ⟨a.t, a.o, a.g, a.b, a.n, fun e => by have := (h.o.lt e).2; omega⟩
/-- One value more. -/
theorem Vm.app {p : Int × Int} {sl' : Value} (h : Vm w0 B E tv zs k sl l w) (hE : E < w.heap.size) (o : OwnM w0.heap.size w' sl' (l ++ [p])) (g : w.grownBy w' sl.ownBlock) (n : ∀ b, sl'.ownBlock = some b → sl.ownBlock = some b ∨ w.heap.size ≤ b)
    (h1 : -9000000000000000 ≤ p.2) (h2 : p.2 ≤ 9000000000000000) : Vm w0 B E tv zs k sl' (l ++ [p]) w' := by
  have hB := lt_of_block h.t.1
  have ne : ∀ b, sl.ownBlock = some b → w0.heap.size ≤ b := fun b hb => (h.o.lt hb).1
  have bl : ∀ b, b < w0.heap.size → w'.heap[b]? = w.heap[b]? := fun b hb => g.block b (by have := h.g.size; omega) (fun e => by have := ne b e.symm; omega)
  refine ⟨⟨(bl B h.b).trans h.t.1, ?_, h.t.2.2⟩, o, ⟨g.os.trans h.g.os, g.tape.trans h.g.tape, g.output.trans h.g.output, Nat.le_trans h.g.size g.size, fun b hb hn => (bl b hb).trans (h.g.block b hb hn)⟩, h.b, h.n.snoc h1 h2, fun e => ?_⟩
  · exact h.t.2.1.kept (C := B) ⟨g.os, g.tape, g.output, g.size, fun b hb => bl b (by have := h.b; omega)⟩ (Nat.le_refl _)
  · rcases n E e with k | k
    · exact h.e k
    · omega
end
end Go.Proofs.Ytijakijjeoaikaa
