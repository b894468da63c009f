import Derived.Test.YtlgdjbabbfdngaaDoorZSP3
import Derived.Test.YtlgdjbabbfdngaaDoorZSP14
import Derived.Test.YtlgdjbabbfdngaaDoorZSP18
set_option linter.unusedVariables false
set_option linter.unusedSimpArgs false
namespace Go.Proofs.YtlgdjbabbfdngaaDoor
open Go.RowKit
def icells (xs : List Int) : List Value := xs.map (fun x => .int .i64 x)
def OwnN (B : Nat) (w : World) (v : Value) (xs : List Int) : Prop := w.ownsRow B 3 1 v xs.length (icells xs)
theorem info_int64 : (Tryd.prog.info? 3).map (fun i => (i.zero, i.size, i.bytes)) = some (some (.int .i64 0), 1, 8) := by kernel_rfl
theorem OwnN.go {B : Nat} {w w' : World} {v : Value} {xs : List Int} (h : OwnN B w v xs) (hb : ∀ g, v.ownBlock = some g → g < w.heap.size → w'.heap[g]? = w.heap[g]?) : OwnN B w' v xs := by
  refine ⟨h.1, ?_⟩
  rcases h.2 with k | ⟨g, cap, cur, rfl, k1, k2, k3⟩
  · exact .inl k
  · exact .inr ⟨g, cap, cur, rfl, k1, (hb g rfl (Array.getElem?_eq_some_iff.1 k2).1).trans k2, k3⟩
theorem OwnN.lt {B : Nat} {w : World} {v : Value} {xs : List Int} (h : OwnN B w v xs) {g : Nat} (hg : v.ownBlock = some g) : B ≤ g ∧ g < w.heap.size := by
  rcases h.2 with ⟨rfl, _⟩ | ⟨g', cap, cur, rfl, k1, k2, k3⟩
  · cases hg
  · have : g' = g := by simpa [Value.ownBlock] using hg
    subst this
    exact ⟨k1, (Array.getElem?_eq_some_iff.1 k2).1⟩
theorem OwnN.nil (B : Nat) (w : World) : OwnN B w (.slice none 0 0) [] := ⟨rfl, .inl ⟨rfl, rfl⟩⟩
theorem OwnN.form {B : Nat} {w : World} {v : Value} {xs : List Int} (h : OwnN B w v xs) : ∃ (a : Option Addr) (cap : Nat), v = .slice a xs.length cap ∧ xs.length ≤ cap ∧ cap ≤ 9223372036854775807 ∧ (a = none → xs = [] ∧ cap = 0) := by
  rcases h.2 with ⟨rfl, h0⟩ | ⟨g, cap, cur, rfl, _, _, k1, k2, _⟩
  · have : xs = [] := List.eq_nil_of_length_eq_zero h0
    subst this
    exact ⟨none, 0, rfl, Nat.le_refl _, by decide, fun _ => ⟨rfl, rfl⟩⟩
  · exact ⟨_, cap, rfl, k1, by unfold maxLen at k2; omega, by simp⟩
theorem OwnN.last {B : Nat} {w : World} {v : Value} {xs : List Int} {x : Int} (h : OwnN B w v (xs ++ [x])) : ∃ (g cap : Nat), v = .slice (some ⟨g, 0, none⟩) (xs.length + 1) cap ∧ xs.length + 1 ≤ cap ∧ cap ≤ 9223372036854775807 ∧ B ≤ g ∧ g < w.heap.size ∧
    (∀ w' : World, w'.heap[g]? = w.heap[g]? → w'.cell? ⟨g, xs.length, none⟩ = some (.int .i64 x)) ∧ OwnN B w (.slice (some ⟨g, 0, none⟩) xs.length cap) xs := by
  have hl : (xs ++ [x]).length = xs.length + 1 := by simp
  rcases h.2 with ⟨_, h0⟩ | ⟨g, cap, cur, rfl, k0, k2, k1, k3, k4, k5⟩
  · rw [hl] at h0; omega
  · rw [hl] at k1 k5 ⊢
    have c := World.ownsRow.cells h (g := g) rfl xs.length (.int .i64 x) (by unfold icells; simp)
    refine ⟨g, cap, rfl, k1, by unfold maxLen at k3; omega, k0, (Array.getElem?_eq_some_iff.1 k2).1, fun w' hw => ?_, ⟨by unfold icells; simp, .inr ⟨g, cap, cur, rfl, k0, k2, by omega, k3, k4, ?_⟩⟩⟩
    · rw [World.cell?_of_block (w := w) hw]
      rw [Addr.add_mid, Nat.zero_add] at c
      exact c
    · have := congrArg (List.take (xs.length * 1)) k5
      rw [List.take_take] at this
      rw [show min (xs.length * 1) ((xs.length + 1) * 1) = xs.length * 1 by omega] at this
      rw [this]
      unfold icells
      rw [List.map_append, List.take_append_of_le_length (by simp), List.take_of_length_le (by simp)]
section
variable {ops : Array Oper} {rest : List Oper} {dst : Option Tmp} {ty : TypeId} {pos : String} {after : Array Edge} {a : Act} {w : World} {Q : Exit → Act → World → Prop}
theorem int_append (s x : Tmp) (d : Int) (B : Nat) (v : Value) (ds : List Int) (g : Nat) {t : TypeId}
    (hs : a.eval (.tmp s) = v) (hx : a.eval (.tmp x) = .slice (some ⟨g, 0, none⟩) 1 1) (hb : Bx w g #[.int .i64 d] t)
    (hown : OwnN B w v ds) (hl : ds.length ≤ 1000000) (hB : B ≤ w.heap.size)
    (h : ∀ v' w', OwnN B w' v' (ds ++ [d]) → w.grownBy w' v.ownBlock → (∀ g, v'.ownBlock = some g → v.ownBlock = some g ∨ w.heap.size ≤ g) → wpList Tryd.prog ops Q rest (a.put dst v') w') :
    wpList Tryd.prog ops Q (⟨dst, .call { callee := .builtin .append, args := #[.tmp s, .tmp x], argTypes := #[23, 23] }, ty, pos, after, none⟩ :: rest) a w := by
  obtain ⟨i0, hi, hz0, hz1, hz2⟩ := info_parts info_int64
  obtain ⟨v', w', hr, h2, h3, h4⟩ := run_append_near (P := Tryd.prog) w B 23 ty 3 i0 _ 1 8 Tryd.underlying23 hi hz0 hz1 hz2 rfl (by decide) v ds.length (icells ds) hown ⟨g, 0, none⟩ 1 1 [.int .i64 d] rfl (by
    intro j u hj
    have := hb.cell' j u (by simpa using hj)
    rcases j with _ | j <;> simpa [Addr.add] using this) (by
    intro u hu
    simp at hu
    subst hu; rfl) (by unfold maxLen; omega) (by omega) hB
  refine Lib.wpList_append_run w rfl (.tmp s) (.tmp x) 23 23 rfl v _ hs hx v' w' hr (h v' w' ?_ h3 h4)
  unfold OwnN
  rw [List.length_append, show icells (ds ++ [d]) = icells ds ++ [.int .i64 d] by unfold icells; simp]
  exact h2
end
def ups (k : Nat) : List Int := (List.range k).map (fun i : Nat => (i : Int) + 1)
theorem ups_succ (k : Nat) : ups (k + 1) = ups k ++ [(k : Int) + 1] := by unfold ups; rw [List.range_succ, List.map_append]; rfl
theorem ups_len (k : Nat) : (ups k).length = k := by unfold ups; simp
structure Fi (B : Nat) (v : Value) (zs : List Int) (w : World) (lv ov : Value) (k : Nat) (ds : List Bi) (wr : World) : Prop where
  T : TpB wr B v zs
  q : Px B w wr
  hB : B < w.heap.size
  O : OwnK w.heap.size wr lv ds
  D : ∀ d ∈ ds, BiB wr (fun b => w.heap.size ≤ b ∧ lv.ownBlock ≠ some b ∧ ov.ownBlock ≠ some b) d
  N : OwnN w.heap.size wr ov (ups k)
  ne : ∀ g, lv.ownBlock = some g → ov.ownBlock ≠ some g
def Fx (p : Nat) (lab : Int) (k : Nat) (ds : List Bi) : Prop := (∃ s, Lb.Fl p lab k (bis ds) s) ∧ ∀ d ∈ ds, Sy.Fwn d.b
theorem Fx.app {p p' : Nat} {lab lab' : Int} {k k' : Nat} {ds : List Bi} {d : Bi} (h : Fx p lab k ds) (hd : Sy.Fwn d.b) (hf : ∀ s, Lb.Fl p lab k (bis ds) s → ∃ s', Lb.Fl p' lab' k' (bis ds ++ [d.b]) s') : Fx p' lab' k' (ds ++ [d]) := by
  obtain ⟨⟨s, h1⟩, h2⟩ := h
  refine ⟨?_, fun x hx => ?_⟩
  · rw [show bis (ds ++ [d]) = bis ds ++ [d.b] by unfold bis; simp]; exact hf s h1
  · rcases List.mem_append.1 hx with hx | hx
    · exact h2 x hx
    · obtain rfl := List.mem_singleton.1 hx; exact hd
theorem Fx.skip {p : Nat} {lab lab' : Int} {k : Nat} {ds : List Bi} (h : Fx p lab k ds) (hl : lab ≤ lab') : Fx p lab' k ds := ⟨by obtain ⟨⟨s, f⟩, _⟩ := h; exact ⟨s, f.skip hl⟩, h.2⟩
theorem Fx.start : Fx 0 0 0 [] := ⟨⟨_, Lb.Fl.start⟩, by simp⟩
section
variable {B : Nat} {v : Value} {zs : List Int} {w wr w' : World} {lv ov : Value} {k : Nat} {ds : List Bi}
theorem Fi.go (h : Fi B v zs w lv ov k ds wr) (t : TpB w' B v zs) (q : Px B w w') (hb : ∀ b, w.heap.size ≤ b → b < wr.heap.size → w'.heap[b]? = wr.heap[b]?) : Fi B v zs w lv ov k ds w' :=
  ⟨t, q, h.hB, h.O.go fun g hg hl => hb g (h.O.lt hg).1 hl, fun d hd => (h.D d hd).go fun b hS hl => ⟨hb b hS.1 hl, hS⟩, h.N.go fun g hg hl => hb g (h.N.lt hg).1 hl, h.ne⟩
theorem Fi.px (h : Fi B v zs w lv ov k ds wr) (t : TpB w' B v zs) (q : Px B wr w') : Fi B v zs w lv ov k ds w' :=
  h.go t (h.q.trans q) fun b hb hl => q.block b hl (by have := h.hB; omega)
theorem Fi.kept (h : Fi B v zs w lv ov k ds wr) (q : Qw wr w') : Fi B v zs w lv ov k ds w' := h.px (h.T.kept q) (Px.of q)
theorem Fi.start (hT : TpB w B v zs) : Fi B v zs w (.slice none 0 0) (.slice none 0 0) 0 [] w :=
  ⟨hT, Px.refl B w, hT.lt, OwnK.nil _ _, by simp, OwnN.nil _ _, by intro g hg; cases hg⟩
theorem Fi.open_ (h : Fi B v zs w lv ov k ds wr) : Fi B v zs w lv (.slice none 0 0) 0 ds wr :=
  ⟨h.T, h.q, h.hB, h.O, fun d hd => (h.D d hd).go fun b hS _ => ⟨rfl, hS.1, hS.2.1, by intro e; cases e⟩, OwnN.nil _ _, by intro g _ e; cases e⟩
theorem Fi.cut (h : Fi B v zs w lv ov (k + 1) ds wr) : ∃ (g cap : Nat), ov = .slice (some ⟨g, 0, none⟩) (k + 1) cap ∧ k + 1 ≤ cap ∧ cap ≤ 9223372036854775807 ∧ g < wr.heap.size ∧ w.heap.size ≤ g ∧ lv.ownBlock ≠ some g ∧
    (∀ w' : World, w'.heap[g]? = wr.heap[g]? → w'.cell? ⟨g, k, none⟩ = some (.int .i64 ((k : Int) + 1))) ∧ Fi B v zs w lv (.slice (some ⟨g, 0, none⟩) k cap) k ds wr := by
  have h0 := h.N
  rw [ups_succ] at h0
  obtain ⟨g, cap, rfl, h1, h2, h3, h4, h5, h6⟩ := h0.last
  rw [ups_len] at *
  exact ⟨g, cap, rfl, h1, h2, h4, h3, fun e => h.ne g e rfl, h5, ⟨h.T, h.q, h.hB, h.O, h.D, h6, h.ne⟩⟩
theorem Fi.grow {row : Option Nat} (h : Fi B v zs w lv ov k ds wr) (hg : wr.grownBy w' row) (hr : ∀ g, row = some g → w.heap.size ≤ g) : TpB w' B v zs ∧ Px B w w' := by
  have hB := h.hB
  have hz := h.q.size
  have keep : ∀ b, b < wr.heap.size → b < w.heap.size → w'.heap[b]? = wr.heap[b]? := fun b hb hl => hg.block b hb (fun e => by have := hr b e.symm; omega)
  exact ⟨h.T.below (C := w.heap.size) ⟨hg.os, hg.tape, hg.output, hg.size, fun b hb => keep b (by omega) hb⟩ hB, ⟨hg.os.trans h.q.os, hg.tape.trans h.q.tape, hg.output.trans h.q.output, Nat.le_trans h.q.size hg.size, fun b hb' hP => (keep b (by omega) (by omega)).trans (h.q.block b hb' hP)⟩⟩
theorem Fi.app (h : Fi B v zs w lv ov k ds wr) {d : Bi} {v' : Value} (hd : BiB wr (fun b => w.heap.size ≤ b ∧ lv.ownBlock ≠ some b ∧ ov.ownBlock ≠ some b) d) (ho : OwnK w.heap.size w' v' (ds ++ [d])) (hg : wr.grownBy w' lv.ownBlock)
    (hn : ∀ g, v'.ownBlock = some g → lv.ownBlock = some g ∨ wr.heap.size ≤ g) : Fi B v zs w v' ov k (ds ++ [d]) w' := by
  obtain ⟨t, q⟩ := h.grow hg (fun g e => (h.O.lt e).1)
  have keep : ∀ b, b < wr.heap.size → lv.ownBlock ≠ some b → w'.heap[b]? = wr.heap[b]? := fun b hb hne => hg.block b hb (fun e => hne e.symm)
  have kid : ∀ d : Bi, BiB wr (fun b => w.heap.size ≤ b ∧ lv.ownBlock ≠ some b ∧ ov.ownBlock ≠ some b) d → BiB w' (fun b => w.heap.size ≤ b ∧ v'.ownBlock ≠ some b ∧ ov.ownBlock ≠ some b) d := fun d hd => hd.go fun b hS hb => ⟨keep b hb hS.2.1, hS.1, fun e => by
    rcases hn b e with k | k
    · exact hS.2.1 k
    · omega, hS.2.2⟩
  refine ⟨t, q, h.hB, ho, fun x hx => ?_, h.N.go fun g hg' hl => keep g hl (fun e => h.ne g e hg'), fun g hg' e => ?_⟩
  · rcases List.mem_append.1 hx with hx | hx
    · exact kid x (h.D x hx)
    · obtain rfl := List.mem_singleton.1 hx
      exact kid _ hd
  · rcases hn g hg' with k | k
    · exact h.ne g k e
    · have := (h.N.lt e).2; omega
end
structure Fk (B : Nat) (v : Value) (zs : List Int) (w : World) (lv ov : Value) (k : Nat) (ds : List Bi) (b0 : Nat) (d : Bi) (wr : World) : Prop where
  F : Fi B v zs w lv ov k ds wr
  X : Bx wr b0 (bicell d).toArray 37
  H : BiB wr (fun b => (w.heap.size ≤ b ∧ lv.ownBlock ≠ some b ∧ ov.ownBlock ≠ some b) ∧ b ≠ b0) d
  D : ∀ x ∈ ds, BiB wr (fun b => (w.heap.size ≤ b ∧ lv.ownBlock ≠ some b ∧ ov.ownBlock ≠ some b) ∧ b ≠ b0) x
  hb : w.heap.size ≤ b0 ∧ lv.ownBlock ≠ some b0 ∧ ov.ownBlock ≠ some b0
section
variable {B : Nat} {v : Value} {zs : List Int} {w wr w1 w' : World} {lv ov : Value} {k : Nat} {ds : List Bi} {b0 : Nat} {d : Bi}
theorem Fk.px (h : Fk B v zs w lv ov k ds b0 d wr) (t : TpB w' B v zs) (q : Px B wr w') : Fk B v zs w lv ov k ds b0 d w' :=
  have hB := h.F.hB
  ⟨h.F.px t q, h.X.px q (by have := h.hb.1; omega), h.H.go fun b hS hl => ⟨q.block b hl (by omega), hS⟩, fun x hx => (h.D x hx).go fun b hS hl => ⟨q.block b hl (by omega), hS⟩, h.hb⟩
theorem Fk.kept (h : Fk B v zs w lv ov k ds b0 d wr) (q : Qw wr w') : Fk B v zs w lv ov k ds b0 d w' := h.px (h.F.T.kept q) (Px.of q)
theorem Fk.set (h : Fk B v zs w lv ov k ds b0 d wr) (i : Nat) (u : Value) (d' : Bi) (he : (bicell d').toArray = (bicell d).toArray.setIfInBounds i u) (hk : ∀ S, BiB wr S d → BiB wr S d') : Fk B v zs w lv ov k ds b0 d' (wr.setCell ⟨b0, i, none⟩ u) := by
  have hB := h.F.hB
  have hb := h.hb
  have keep : ∀ b, b ≠ b0 → (wr.setCell ⟨b0, i, none⟩ u).heap[b]? = wr.heap[b]? := fun b hne => Below.heap_setCell _ _ _ _ hne
  refine ⟨⟨h.F.T.other (by omega) _ _, h.F.q.setNew hb.1 _, hB, h.F.O.go fun g hg _ => keep g (fun e => hb.2.1 (e ▸ hg)), fun x hx => (h.D x hx).go fun b hS _ => ⟨keep b hS.2, hS.1⟩, h.F.N.go fun g hg _ => keep g (fun e => hb.2.2 (e ▸ hg)), h.F.ne⟩, ?_, (hk _ h.H).go fun b hS _ => ⟨keep b hS.2, hS⟩, fun x hx => (h.D x hx).go fun b hS _ => ⟨keep b hS.2, hS⟩, hb⟩
  rw [he]; exact h.X.set i u
theorem Fk.iapp (h : Fk B v zs w lv ov k ds b0 d wr) {v' : Value} (ho : OwnN w.heap.size w' v' (ups k ++ [(k : Int) + 1])) (hg : wr.grownBy w' ov.ownBlock)
    (hn : ∀ g, v'.ownBlock = some g → ov.ownBlock = some g ∨ wr.heap.size ≤ g) : Fk B v zs w lv v' (k + 1) ds b0 d w' := by
  obtain ⟨t, q⟩ := h.F.grow hg (fun g e => (h.F.N.lt e).1)
  have keep : ∀ b, b < wr.heap.size → ov.ownBlock ≠ some b → w'.heap[b]? = wr.heap[b]? := fun b hb hne => hg.block b hb (fun e => hne e.symm)
  have new : ∀ b, b < wr.heap.size → ov.ownBlock ≠ some b → v'.ownBlock ≠ some b := fun b hb hne e => by
    rcases hn b e with k | k
    · exact hne k
    · omega
  have xl := h.X.lt
  refine ⟨⟨t, q, h.F.hB, h.F.O.go fun g hg' hl => keep g hl (h.F.ne g hg'), fun x hx => (h.F.D x hx).go fun b hS hl => ⟨keep b hl hS.2.2, hS.1, hS.2.1, new b hl hS.2.2⟩, by rw [ups_succ]; exact ho, fun g hg' => new g (h.F.O.lt hg').2.1 (h.F.ne g hg')⟩, (keep b0 xl h.hb.2.2).trans h.X, h.H.go fun b hS hl => ⟨keep b hl hS.1.2.2, ⟨hS.1.1, hS.1.2.1, new b hl hS.1.2.2⟩, hS.2⟩, fun x hx => (h.D x hx).go fun b hS hl => ⟨keep b hl hS.1.2.2, ⟨hS.1.1, hS.1.2.1, new b hl hS.1.2.2⟩, hS.2⟩, h.hb.1, h.hb.2.1, new b0 xl h.hb.2.2⟩
theorem Fk.cut (h : Fk B v zs w lv ov (k + 1) ds b0 d wr) : ∃ (g cap : Nat), ov = .slice (some ⟨g, 0, none⟩) (k + 1) cap ∧ k + 1 ≤ cap ∧ cap ≤ 9223372036854775807 ∧ g < wr.heap.size ∧ g ≠ b0 ∧
    (∀ w' : World, w'.heap[g]? = wr.heap[g]? → w'.cell? ⟨g, k, none⟩ = some (.int .i64 ((k : Int) + 1))) ∧ Fk B v zs w lv (.slice (some ⟨g, 0, none⟩) k cap) k ds b0 d wr := by
  obtain ⟨g, cap, rfl, h1, h2, h3, h4, h5, h6, h7⟩ := h.F.cut
  exact ⟨g, cap, rfl, h1, h2, h3, fun e => h.hb.2.2 (by rw [← e]; rfl), h6, ⟨h7, h.X, h.H, h.D, h.hb⟩⟩
theorem Fk.app (h : Fk B v zs w lv ov k ds b0 d wr) {v' : Value} (ho : OwnK w.heap.size w' v' (ds ++ [d])) (hg : wr.grownBy w' lv.ownBlock)
    (hn : ∀ g, v'.ownBlock = some g → lv.ownBlock = some g ∨ wr.heap.size ≤ g) : Fi B v zs w v' ov k (ds ++ [d]) w' :=
  h.F.app (h.H.go fun b hS _ => ⟨rfl, hS.1⟩) ho hg hn
end
end Go.Proofs.YtlgdjbabbfdngaaDoor
set_option linter.unusedVariables false
set_option linter.unusedSimpArgs false
namespace Go.Proofs.YtlgdjbabbfdngaaDoor
open Go.RowKit
def nw (c n : Int) : Wd := ⟨c, Sy.num n, none, 0⟩
set_option maxRecDepth 100000 in
set_option maxHeartbeats 4000000 in
theorem wordA (c n : Int) (n0 : 0 ≤ n) (n1 : n < 1000000000000000) (w : World) : Calls Tryd.prog 47 #[.int .i64 c, .int .i64 n] w fun e w' => e = .returned (.agg #[.int .i64 c, .int .i64 0, .int .i64 n, .slice none 0 0]) ∧ Qw w w' := by
  have hm : max n (-n) = n := by omega
  have q0 : Hid (Qw w w) := Lib.hid (Qw.refl w)
  go_enter Tryd.func47, Tryd.ntmps47
  go_wp2_with fail
  exact bodyPost_ret (v := .agg #[.int .i64 c, .int .i64 0, .int .i64 n, .slice none 0 0]) (by simp [results, Tryd.results47, go_sem]) rfl ⟨rfl, Qz⟩
def ClA (B : Nat) (v : Value) (zs : List Int) (S : Nat → Prop) (b : Sy.Bl) (w : World) (e : Ending) (w' : World) : Prop :=
  ∃ (b' : Sy.Bl) (cs : Array Value), e = .returned (.agg cs) ∧ (Sy.Fwn b' ∧ b'.kind = 0 ∧ b'.label = b.label) ∧ BlkB w' (fun k => S k ∨ w.heap.size ≤ k) b' cs ∧ TpB w' B v zs ∧ Px B w w'
structure Cb (B : Nat) (v : Value) (zs : List Int) (w : World) (cs : Array Value) (wr : World) : Prop where
  X : Bx wr w.heap.size cs 37
  R : Bx wr (w.heap.size + 1) blZ 37
  T : TpB wr B v zs
  q : Px B w wr
  hB : B < w.heap.size
section
variable {B : Nat} {v : Value} {zs : List Int} {w wr w' : World} {cs : Array Value}
theorem Cb.px (h : Cb B v zs w cs wr) (t : TpB w' B v zs) (q : Px B wr w') : Cb B v zs w cs w' :=
  ⟨h.X.px q (by have := h.hB; omega), h.R.px q (by have := h.hB; omega), t, h.q.trans q, h.hB⟩
theorem Cb.kept (h : Cb B v zs w cs wr) (q : Qw wr w') : Cb B v zs w cs w' := h.px (h.T.kept q) (Px.of q)
theorem Cb.set (h : Cb B v zs w cs wr) (i : Nat) (u : Value) : Cb B v zs w (cs.setIfInBounds i u) (wr.setCell ⟨w.heap.size, i, none⟩ u) :=
  ⟨h.X.set i u, h.R.other (by show w.heap.size + 1 ≠ w.heap.size; omega) _, h.T.other (by have := h.hB; omega) _ _, h.q.setNew (Nat.le_refl _) _, h.hB⟩
theorem Cb.grow {row : Option Nat} (h : Cb B v zs w cs wr) (hg : wr.grownBy w' row) (hr : ∀ g, row = some g → w.heap.size + 2 ≤ g) : Cb B v zs w cs w' := by
  have keep : ∀ b, b < wr.heap.size → b < w.heap.size + 2 → w'.heap[b]? = wr.heap[b]? := fun b hb hl => hg.block b hb (fun e => by have := hr b e.symm; omega)
  have hX := h.X.lt
  have hR := h.R.lt
  have hB := h.hB
  have hz := h.q.size
  refine ⟨(keep _ hX (by omega)).trans h.X, (keep _ hR (by omega)).trans h.R, h.T.below (C := w.heap.size) ⟨hg.os, hg.tape, hg.output, hg.size, fun k hk => keep k (by omega) (by omega)⟩ hB, ?_, hB⟩
  exact ⟨hg.os.trans h.q.os, hg.tape.trans h.q.tape, hg.output.trans h.q.output, Nat.le_trans h.q.size hg.size, fun b hb' hP => (keep b (by omega) (by omega)).trans (h.q.block b hb' hP)⟩
end
structure Cw (B : Nat) (v : Value) (zs : List Int) (w : World) (cs : Array Value) (sv : Value) (ds : List Wd) (wr : World) : Prop where
  M : Cb B v zs w cs wr
  O : OwnW (w.heap.size + 2) wr sv ds
section
variable {B : Nat} {v : Value} {zs : List Int} {w wr w' : World} {cs : Array Value} {sv : Value} {ds : List Wd}
theorem Cw.px (h : Cw B v zs w cs sv ds wr) (t : TpB w' B v zs) (q : Px B wr w') : Cw B v zs w cs sv ds w' := ⟨h.M.px t q, h.O.px (by have := h.M.hB; omega) q⟩
theorem Cw.kept (h : Cw B v zs w cs sv ds wr) (q : Qw wr w') : Cw B v zs w cs sv ds w' := h.px (h.M.T.kept q) (Px.of q)
theorem Cw.lit (h : Cb B v zs w cs wr) (ds : List Wd) (hd : ds.length ≤ 100) : Cw B v zs w (cs.setIfInBounds 3 (.slice (some ⟨wr.heap.size, 0, none⟩) ds.length ds.length)) (.slice (some ⟨wr.heap.size, 0, none⟩) ds.length ds.length) ds ((wr.setCell ⟨w.heap.size, 3, none⟩ (.slice (some ⟨wr.heap.size, 0, none⟩) ds.length ds.length)).alloc (.cells (wcells ds).toArray 56)) := by
  have hR := h.R.lt
  have hl : (wcells ds).length = ds.length * 4 := by
    clear hd
    induction ds with
    | nil => rfl
    | cons d ds ih => show (wcell d ++ wcells ds).length = _; rw [List.length_append, ih]; show 4 + _ = (ds.length + 1) * 4; omega
  have X := Bx.new (wr.setCell ⟨w.heap.size, 3, none⟩ (.slice (some ⟨wr.heap.size, 0, none⟩) ds.length ds.length)) (wcells ds).toArray 56
  rw [show (wr.setCell ⟨w.heap.size, 3, none⟩ (.slice (some ⟨wr.heap.size, 0, none⟩) ds.length ds.length)).heap.size = wr.heap.size by simp] at X
  refine ⟨(h.set 3 _).kept ((Qw.refl _).al _), hl, .inr ⟨wr.heap.size, ds.length, _, rfl, by omega, X, Nat.le_refl _, by unfold maxLen; omega, by simp [hl], ?_⟩⟩
  rw [List.take_of_length_le (by simp [hl])]
theorem Cw.app (h : Cw B v zs w cs sv ds wr) {d : Wd} {v' : Value} (ho : OwnW (w.heap.size + 2) w' v' (ds ++ [d])) (hg : wr.grownBy w' sv.ownBlock) : Cw B v zs w (cs.setIfInBounds 3 v') v' (ds ++ [d]) (w'.setCell ⟨w.heap.size, 3, none⟩ v') :=
  ⟨(h.M.grow hg (fun g e => (h.O.lt e).1)).set 3 v', ho.go (fun g hg _ => Below.heap_setCell _ _ _ _ (by show g ≠ w.heap.size; have := (ho.lt hg).1; omega))⟩
end
theorem cbEnd {B : Nat} {v : Value} {zs : List Int} {S : Nat → Prop} {w wr wf : World} {fn : Func} {s : Nat} {act : Act} {b b' : Sy.Bl} {v0 v1 v2 v3 v4 v5 v6 v7 v8 v9 v10 : Value} (hr : fn.results = #[.cell s 37]) (hs : act.tmps[s]?.getD undef = .pointer (some ⟨w.heap.size + 1, 0, none⟩)) (hd : act.defers = [])
    (h : Cb B v zs w #[v0, v1, v2, v3, v4, v5, v6, v7, v8, v9, v10] wr) (hb : BlkB wr (fun k => (S k ∨ w.heap.size ≤ k) ∧ k ≠ w.heap.size + 1) b' #[v0, v1, v2, v3, v4, v5, v6, v7, v8, v9, v10]) (hv : Sy.Fwn b' ∧ b'.kind = 0 ∧ b'.label = b.label)
    (hw : wf = putB wr (w.heap.size + 1) v0 v1 v2 v3 v4 v5 v6 v7 v8 v9 v10) : bodyPost Tryd.prog fn (ClA B v zs S b w) .ret act wf := by
  subst hw
  refine bodyPost_ret (ret_blk hr hs (putB_bx v0 v1 v2 v3 v4 v5 v6 v7 v8 v9 v10 h.R)) hd ⟨b', _, rfl, hv, ?_, ?_, putB_px h.q (Nat.le_succ _) ..⟩
  · exact hb.go fun k hk _ => ⟨putB_heap _ _ _ _ _ _ _ _ _ _ _ _ _ _ hk.2, hk.1⟩
  · unfold putB
    have k : B < w.heap.size + 1 := Nat.lt_succ_of_lt h.hB
    exact (((((((((((h.T.other k _ _).other k _ _).other k _ _).other k _ _).other k _ _).other k _ _).other k _ _).other k _ _).other k _ _).other k _ _).other k _ _)
theorem nw_ok {c n : Int} (hc : Sy.isw c = true) (n0 : 0 ≤ n) (n1 : n < 1000000000000000) : Sy.isw c = true ∧ Sy.okx (Sy.num n) = true ∧ Sy.dpt (Sy.num n) ≤ 2 := ⟨hc, Sy.okx_num' n0 n1, by rw [Sy.dpt_num]; decide⟩
theorem cw_blk {B : Nat} {v : Value} {zs : List Int} {S : Nat → Prop} {w wr : World} {b : Sy.Bl} {sv : Value} {ds : List Wd} {cs : Array Value} {wa la xa : Option Addr} {wc lc xc : Nat} (h : Cw B v zs w cs sv ds wr) (hB : BlkB w S b #[.int .i64 b.kind, .int .i64 b.label, .bool b.skip, .slice wa b.words.length wc, .int .i64 b.left.op, .int .i64 b.left.n, .slice la b.left.ks.length lc, .int .i64 b.x.op, .int .i64 b.x.n, .slice xa b.x.ks.length xc, .int .i64 b.n])
    (hS : ∀ k, S k → k ≠ B) (hd : ∀ d ∈ ds, ∃ c n, d = nw c n) : ∃ a cap, sv = .slice a ds.length cap ∧ BlkB wr (fun k => (S k ∨ w.heap.size ≤ k) ∧ k ≠ w.heap.size + 1) { b with words := wds ds } #[.int .i64 b.kind, .int .i64 b.label, .bool b.skip, .slice a ds.length cap, .int .i64 b.left.op, .int .i64 b.left.n, .slice la b.left.ks.length lc, .int .i64 b.x.op, .int .i64 b.x.n, .slice xa b.x.ks.length xc, .int .i64 b.n] := by
  obtain ⟨a, cap, e, hW⟩ := h.O.words (S := fun k => w.heap.size + 2 ≤ k) (fun g hg => (h.O.lt hg).1) (fun d hm => by obtain ⟨c, n, rfl⟩ := hd d hm; exact KidsB.nl none 0 (by decide))
  have hl : (wds ds).length = ds.length := List.length_map _
  have go : ∀ k, S k → k < w.heap.size → wr.heap[k]? = w.heap[k]? ∧ ((S k ∨ w.heap.size ≤ k) ∧ k ≠ w.heap.size + 1) := fun k hk hl => ⟨h.M.q.block k hl (hS k hk), .inl hk, by omega⟩
  obtain ⟨wa', wc', la', lc', xa', xc', ec, _, hL, hX⟩ := hB
  have e6 := congrArg (fun a : Array Value => a[6]?) ec
  have e9 := congrArg (fun a : Array Value => a[9]?) ec
  simp at e6 e9
  obtain ⟨rfl, rfl⟩ := e6
  obtain ⟨rfl, rfl⟩ := e9
  refine ⟨a, cap, e, a, cap, la, lc, xa, xc, by simp [hl], hW.go fun k hk _ => ⟨rfl, .inr (by omega), by omega⟩, hL.go go, hX.go go⟩
theorem cb_blk {B : Nat} {v : Value} {zs : List Int} {S : Nat → Prop} {w wr : World} {b : Sy.Bl} {cs cs' : Array Value} (h : Cb B v zs w cs wr) (hB : BlkB w S b cs') (hS : ∀ k, S k → k ≠ B) : BlkB wr (fun k => (S k ∨ w.heap.size ≤ k) ∧ k ≠ w.heap.size + 1) b cs' :=
  hB.go fun k hk hl => ⟨h.q.block k hl (hS k hk), .inl hk, by omega⟩
set_option maxRecDepth 100000 in
set_option maxHeartbeats 4000000 in
theorem calledW {B : Nat} {v : Value} {zs : List Int} {S : Nat → Prop} {b : Sy.Bl} {kind label lo ln xo xn n : Int} {sk : Bool} {wa la xa : Option Addr} {wl wc ll lc xl0 xc : Nat} (w : World) (hT : TpB w B v zs) (hf : Sy.Fwn b) (hk : b.kind = 0) (hS : ∀ k, S k → k ≠ B) (hB : BlkB w S b #[.int .i64 kind, .int .i64 label, .bool sk, .slice wa wl wc, .int .i64 lo, .int .i64 ln, .slice la ll lc, .int .i64 xo, .int .i64 xn, .slice xa xl0 xc, .int .i64 n])
    (hD : ∀ cs sv ds wr, Cw B v zs w cs sv ds wr → (∀ d ∈ ds, ∃ c n, d = nw c n) → ∃ a cap, sv = .slice a ds.length cap ∧ BlkB wr (fun k => (S k ∨ w.heap.size ≤ k) ∧ k ≠ w.heap.size + 1) { b with words := wds ds } #[.int .i64 kind, .int .i64 label, .bool sk, .slice a ds.length cap, .int .i64 lo, .int .i64 ln, .slice la ll lc, .int .i64 xo, .int .i64 xn, .slice xa xl0 xc, .int .i64 n]) :
    Calls Tryd.prog 34 #[.pointer (some ⟨B, 0, none⟩), .agg #[.int .i64 kind, .int .i64 label, .bool sk, .slice wa wl wc, .int .i64 lo, .int .i64 ln, .slice la ll lc, .int .i64 xo, .int .i64 xn, .slice xa xl0 xc, .int .i64 n]] w (ClA B v zs S b w) := by
  have hBl := hT.lt
  have c1 := fun n n1 n2 w h => nextA (B := B) (v := v) (zs := zs) n n1 n2 w h
  have c2 := fun lo hi l0 l1 l2 w h => rangeA (B := B) (v := v) (zs := zs) lo hi l0 l1 l2 w h
  have c3 := fun w h => numberA (B := B) (v := v) (zs := zs) w h
  have c4 := fun c n n0 n1 w => wordA c n n0 n1 w
  have C := Lib.hid c1
  have RG := Lib.hid c2
  have CN := Lib.hid c3
  have WD := Lib.hid c4
  have HD := Lib.hid hD
  have HF := Lib.hid hf
  have BK := Lib.hid hB
  have HS := Lib.hid hS
  have M0 : Hid (Cb B v zs w #[.int .i64 kind, .int .i64 label, .bool sk, .slice wa wl wc, .int .i64 lo, .int .i64 ln, .slice la ll lc, .int .i64 xo, .int .i64 xn, .slice xa xl0 xc, .int .i64 n] ((w.alloc (.cells #[.int .i64 kind, .int .i64 label, .bool sk, .slice wa wl wc, .int .i64 lo, .int .i64 ln, .slice la ll lc, .int .i64 xo, .int .i64 xn, .slice xa xl0 xc, .int .i64 n] 37)).alloc (.cells blZ 37))) := Lib.hid ⟨(Bx.new w _ _).alloc _, by have := Bx.new (w.alloc (.cells #[.int .i64 kind, .int .i64 label, .bool sk, .slice wa wl wc, .int .i64 lo, .int .i64 ln, .slice la ll lc, .int .i64 xo, .int .i64 xn, .slice xa xl0 xc, .int .i64 n] 37)) blZ 37; rwa [show (w.alloc (.cells #[.int .i64 kind, .int .i64 label, .bool sk, .slice wa wl wc, .int .i64 lo, .int .i64 ln, .slice la ll lc, .int .i64 xo, .int .i64 xn, .slice xa xl0 xc, .int .i64 n] 37)).heap.size = w.heap.size + 1 by simp] at this, hT.kept (((Qw.refl w).al _).al _), ((Px.refl B w).alloc _).alloc _, hBl⟩
  clear c1 c2 c3 c4 hD hf hB hS hT
  go_enter Tryd.func34, Tryd.ntmps34
  go_upto_region 1 with fail
  refine code_of (fun w2 => Hid (Cb B v zs w #[.int .i64 kind, .int .i64 label, .bool sk, .slice wa wl wc, .int .i64 lo, .int .i64 ln, .slice la ll lc, .int .i64 xo, .int .i64 xn, .slice xa xl0 xc, .int .i64 n] w2)) M0 ?_
  clear M0
  intro w2 M
  replace M : Hid (Cb B v zs w #[.int .i64 kind, .int .i64 label, .bool sk, .slice wa wl wc, .int .i64 lo, .int .i64 ln, .slice la ll lc, .int .i64 xo, .int .i64 xn, .slice xa xl0 xc, .int .i64 n] w2) := M
  replace xl := M.out.X.lt
  replace rl := M.out.R.lt
  replace x0 := M.out.X.cell' 0 _ rfl
  replace f0 := M.out.X.free 0
  replace x1 := M.out.X.cell' 1 _ rfl
  replace f1 := M.out.X.free 1
  replace x2 := M.out.X.cell' 2 _ rfl
  replace f2 := M.out.X.free 2
  replace x3 := M.out.X.cell' 3 _ rfl
  replace f3 := M.out.X.free 3
  replace x4 := M.out.X.cell' 4 _ rfl
  replace f4 := M.out.X.free 4
  replace x5 := M.out.X.cell' 5 _ rfl
  replace f5 := M.out.X.free 5
  replace x6 := M.out.X.cell' 6 _ rfl
  replace f6 := M.out.X.free 6
  replace x7 := M.out.X.cell' 7 _ rfl
  replace f7 := M.out.X.free 7
  replace x8 := M.out.X.cell' 8 _ rfl
  replace f8 := M.out.X.free 8
  replace x9 := M.out.X.cell' 9 _ rfl
  replace f9 := M.out.X.free 9
  replace x10 := M.out.X.cell' 10 _ rfl
  replace f10 := M.out.X.free 10
  go_upto_region 2 with (go_at_call 29; (with_reducible refine (C.out _ (by decide) (by decide) _ (M.out.kept (show Qw _ _ by repeat (first | exact Qw.refl _ | refine Qw.al ?_ _ | refine Qw.dr ?_ | refine Qw.dn ?_ _))).T).mono ?_; rintro e w' ⟨r, rfl, r0, r1, tp, q⟩; replace M := Lib.hid ((M.out.kept (show Qw _ _ by repeat (first | exact Qw.refl _ | refine Qw.al ?_ _ | refine Qw.dr ?_ | refine Qw.dn ?_ _))).px tp q); replace xl := M.out.X.lt; replace rl := M.out.R.lt; replace x0 := M.out.X.cell' 0 _ rfl; replace f0 := M.out.X.free 0; replace x1 := M.out.X.cell' 1 _ rfl; replace f1 := M.out.X.free 1; replace x2 := M.out.X.cell' 2 _ rfl; replace f2 := M.out.X.free 2; replace x3 := M.out.X.cell' 3 _ rfl; replace f3 := M.out.X.free 3; replace x4 := M.out.X.cell' 4 _ rfl; replace f4 := M.out.X.free 4; replace x5 := M.out.X.cell' 5 _ rfl; replace f5 := M.out.X.free 5; replace x6 := M.out.X.cell' 6 _ rfl; replace f6 := M.out.X.free 6; replace x7 := M.out.X.cell' 7 _ rfl; replace f7 := M.out.X.free 7; replace x8 := M.out.X.cell' 8 _ rfl; replace f8 := M.out.X.free 8; replace x9 := M.out.X.cell' 9 _ rfl; replace f9 := M.out.X.free 9; replace x10 := M.out.X.cell' 10 _ rfl; replace f10 := M.out.X.free 10; clear tp q))
  by_cases h0 : r = 0
  · subst h0
    go_upto_region 4 with (first
        | (go_at_call 33; (with_reducible refine (RG.out _ _ (by decide) (by decide) (by decide) _ (M.out.kept (show Qw _ _ by repeat (first | exact Qw.refl _ | refine Qw.al ?_ _ | refine Qw.dr ?_ | refine Qw.dn ?_ _))).T).mono ?_; rintro e w' ⟨m, rfl, m0, m1, tp, q⟩; replace M := Lib.hid ((M.out.kept (show Qw _ _ by repeat (first | exact Qw.refl _ | refine Qw.al ?_ _ | refine Qw.dr ?_ | refine Qw.dn ?_ _))).px tp q); replace xl := M.out.X.lt; replace rl := M.out.R.lt; replace x0 := M.out.X.cell' 0 _ rfl; replace f0 := M.out.X.free 0; replace x1 := M.out.X.cell' 1 _ rfl; replace f1 := M.out.X.free 1; replace x2 := M.out.X.cell' 2 _ rfl; replace f2 := M.out.X.free 2; replace x3 := M.out.X.cell' 3 _ rfl; replace f3 := M.out.X.free 3; replace x4 := M.out.X.cell' 4 _ rfl; replace f4 := M.out.X.free 4; replace x5 := M.out.X.cell' 5 _ rfl; replace f5 := M.out.X.free 5; replace x6 := M.out.X.cell' 6 _ rfl; replace f6 := M.out.X.free 6; replace x7 := M.out.X.cell' 7 _ rfl; replace f7 := M.out.X.free 7; replace x8 := M.out.X.cell' 8 _ rfl; replace f8 := M.out.X.free 8; replace x9 := M.out.X.cell' 9 _ rfl; replace f9 := M.out.X.free 9; replace x10 := M.out.X.cell' 10 _ rfl; replace f10 := M.out.X.free 10; clear tp q))
        | (go_at_call 47; (with_reducible refine (WD.out _ _ ?_ ?_ _).mono ?_; omega; omega; rintro e w' ⟨rfl, q⟩; replace M := Lib.hid ((M.out.kept (show Qw _ _ by repeat (first | exact Qw.refl _ | refine Qw.al ?_ _ | refine Qw.dr ?_ | refine Qw.dn ?_ _))).kept q); replace xl := M.out.X.lt; replace rl := M.out.R.lt; replace x0 := M.out.X.cell' 0 _ rfl; replace f0 := M.out.X.free 0; replace x1 := M.out.X.cell' 1 _ rfl; replace f1 := M.out.X.free 1; replace x2 := M.out.X.cell' 2 _ rfl; replace f2 := M.out.X.free 2; replace x3 := M.out.X.cell' 3 _ rfl; replace f3 := M.out.X.free 3; replace x4 := M.out.X.cell' 4 _ rfl; replace f4 := M.out.X.free 4; replace x5 := M.out.X.cell' 5 _ rfl; replace f5 := M.out.X.free 5; replace x6 := M.out.X.cell' 6 _ rfl; replace f6 := M.out.X.free 6; replace x7 := M.out.X.cell' 7 _ rfl; replace f7 := M.out.X.free 7; replace x8 := M.out.X.cell' 8 _ rfl; replace f8 := M.out.X.free 8; replace x9 := M.out.X.cell' 9 _ rfl; replace f9 := M.out.X.free 9; replace x10 := M.out.X.cell' 10 _ rfl; replace f10 := M.out.X.free 10; clear q)))
    refine code_of (fun w2 => ∃ g, w.heap.size + 1 < g ∧ Hid (Cw B v zs w #[.int .i64 kind, .int .i64 label, .bool sk, (.slice (some ⟨g, 0, none⟩) 2 2), .int .i64 lo, .int .i64 ln, .slice la ll lc, .int .i64 xo, .int .i64 xn, .slice xa xl0 xc, .int .i64 n] (.slice (some ⟨g, 0, none⟩) 2 2) [nw 77 98000000, nw 80 (m * 1000000)] w2)) ⟨_, by have := M.out.R.lt; simp; omega, Lib.hid (Cw.lit M.out [nw 77 98000000, nw 80 (m * 1000000)] (by simp))⟩ ?_
    clear M xl rl x0 f0 x1 f1 x2 f2 x3 f3 x4 f4 x5 f5 x6 f6 x7 f7 x8 f8 x9 f9 x10 f10
    rintro w2 ⟨g, hg1, CW⟩
    have M := Lib.hid CW.out.M
    replace xl := M.out.X.lt
    replace rl := M.out.R.lt
    replace x0 := M.out.X.cell' 0 _ rfl
    replace f0 := M.out.X.free 0
    replace x1 := M.out.X.cell' 1 _ rfl
    replace f1 := M.out.X.free 1
    replace x2 := M.out.X.cell' 2 _ rfl
    replace f2 := M.out.X.free 2
    replace x3 := M.out.X.cell' 3 _ rfl
    replace f3 := M.out.X.free 3
    replace x4 := M.out.X.cell' 4 _ rfl
    replace f4 := M.out.X.free 4
    replace x5 := M.out.X.cell' 5 _ rfl
    replace f5 := M.out.X.free 5
    replace x6 := M.out.X.cell' 6 _ rfl
    replace f6 := M.out.X.free 6
    replace x7 := M.out.X.cell' 7 _ rfl
    replace f7 := M.out.X.free 7
    replace x8 := M.out.X.cell' 8 _ rfl
    replace f8 := M.out.X.free 8
    replace x9 := M.out.X.cell' 9 _ rfl
    replace f9 := M.out.X.free 9
    replace x10 := M.out.X.cell' 10 _ rfl
    replace f10 := M.out.X.free 10
    go_upto_if 18 with (go_at_call 29; (with_reducible refine (C.out _ (by decide) (by decide) _ (M.out.kept (show Qw _ _ by repeat (first | exact Qw.refl _ | refine Qw.al ?_ _ | refine Qw.dr ?_ | refine Qw.dn ?_ _))).T).mono ?_; rintro e w' ⟨r2, rfl, r20, r21, tp, q⟩; replace CW := Lib.hid ((CW.out.kept (show Qw _ _ by repeat (first | exact Qw.refl _ | refine Qw.al ?_ _ | refine Qw.dr ?_ | refine Qw.dn ?_ _))).px tp q); replace M := Lib.hid CW.out.M; replace xl := M.out.X.lt; replace rl := M.out.R.lt; replace x0 := M.out.X.cell' 0 _ rfl; replace f0 := M.out.X.free 0; replace x1 := M.out.X.cell' 1 _ rfl; replace f1 := M.out.X.free 1; replace x2 := M.out.X.cell' 2 _ rfl; replace f2 := M.out.X.free 2; replace x3 := M.out.X.cell' 3 _ rfl; replace f3 := M.out.X.free 3; replace x4 := M.out.X.cell' 4 _ rfl; replace f4 := M.out.X.free 4; replace x5 := M.out.X.cell' 5 _ rfl; replace f5 := M.out.X.free 5; replace x6 := M.out.X.cell' 6 _ rfl; replace f6 := M.out.X.free 6; replace x7 := M.out.X.cell' 7 _ rfl; replace f7 := M.out.X.free 7; replace x8 := M.out.X.cell' 8 _ rfl; replace f8 := M.out.X.free 8; replace x9 := M.out.X.cell' 9 _ rfl; replace f9 := M.out.X.free 9; replace x10 := M.out.X.cell' 10 _ rfl; replace f10 := M.out.X.free 10; clear tp q))
    by_cases h2 : r2 = 0
    · subst h2
      go_upto_region 5 with fail
      go_region_law (first
          | (have BA := Lib.hid (CW.out.kept (Qw.al (Qw.refl w') (.cells #[.int .i64 76, .int .i64 0, .int .i64 (m3 * 1000000), .slice none 0 0] 56))); refine step_word (w := w'.alloc (.cells #[.int .i64 76, .int .i64 0, .int .i64 (m3 * 1000000), .slice none 0 0] 56)) rfl 20 25 rfl (nw 76 (m3 * 1000000)) (w.heap.size + 2) (.slice (some ⟨g, 0, none⟩) 2 2) [nw 77 98000000, nw 80 (m * 1000000)] w'.heap.size (by simp [Act.eval, Act.put]) (by simp [Act.eval, Act.put]) (Bx.new w' _ _) BA.out.O (by simp) (by have := BA.out.M.R.lt; simp at this ⊢; omega) ?_; intro v' w3 ho hg hn; obtain ⟨va, vn, vc, rfl⟩ := ho.shape; have C3 := Lib.hid (BA.out.app ho hg); replace M := Lib.hid (BA.out.M.grow hg (fun g e => (BA.out.O.lt e).1)); clear ho hg hn; replace xl := M.out.X.lt; replace rl := M.out.R.lt; replace x0 := M.out.X.cell' 0 _ rfl; replace f0 := M.out.X.free 0; replace x1 := M.out.X.cell' 1 _ rfl; replace f1 := M.out.X.free 1; replace x2 := M.out.X.cell' 2 _ rfl; replace f2 := M.out.X.free 2; replace x3 := M.out.X.cell' 3 _ rfl; replace f3 := M.out.X.free 3; replace x4 := M.out.X.cell' 4 _ rfl; replace f4 := M.out.X.free 4; replace x5 := M.out.X.cell' 5 _ rfl; replace f5 := M.out.X.free 5; replace x6 := M.out.X.cell' 6 _ rfl; replace f6 := M.out.X.free 6; replace x7 := M.out.X.cell' 7 _ rfl; replace f7 := M.out.X.free 7; replace x8 := M.out.X.cell' 8 _ rfl; replace f8 := M.out.X.free 8; replace x9 := M.out.X.cell' 9 _ rfl; replace f9 := M.out.X.free 9; replace x10 := M.out.X.cell' 10 _ rfl; replace f10 := M.out.X.free 10; replace y0 := M.out.R.free 0; replace y1 := M.out.R.free 1; replace y2 := M.out.R.free 2; replace y3 := M.out.R.free 3; replace y4 := M.out.R.free 4; replace y5 := M.out.R.free 5; replace y6 := M.out.R.free 6; replace y7 := M.out.R.free 7; replace y8 := M.out.R.free 8; replace y9 := M.out.R.free 9; replace y10 := M.out.R.free 10; replace z0 := M.out.R.cell' 0 _ rfl; replace z1 := M.out.R.cell' 1 _ rfl; replace z2 := M.out.R.cell' 2 _ rfl; replace z3 := M.out.R.cell' 3 _ rfl; replace z4 := M.out.R.cell' 4 _ rfl; replace z5 := M.out.R.cell' 5 _ rfl; replace z6 := M.out.R.cell' 6 _ rfl; replace z7 := M.out.R.cell' 7 _ rfl; replace z8 := M.out.R.cell' 8 _ rfl; replace z9 := M.out.R.cell' 9 _ rfl; replace z10 := M.out.R.cell' 10 _ rfl)
          | (go_simp; go_wp2_with (first
            | (go_at_call 33; (with_reducible refine (RG.out _ _ (by decide) (by decide) (by decide) _ (M.out.kept (show Qw _ _ by repeat (first | exact Qw.refl _ | refine Qw.al ?_ _ | refine Qw.dr ?_ | refine Qw.dn ?_ _))).T).mono ?_; rintro e w' ⟨m3, rfl, m30, m31, tp, q⟩; replace CW := Lib.hid ((CW.out.kept (show Qw _ _ by repeat (first | exact Qw.refl _ | refine Qw.al ?_ _ | refine Qw.dr ?_ | refine Qw.dn ?_ _))).px tp q); replace M := Lib.hid CW.out.M; have hwm : IntKind.i64.wrap (m3 * 1000000) = m3 * 1000000 := IntWalk.i64_in _ (by omega); replace xl := M.out.X.lt; replace rl := M.out.R.lt; replace x0 := M.out.X.cell' 0 _ rfl; replace f0 := M.out.X.free 0; replace x1 := M.out.X.cell' 1 _ rfl; replace f1 := M.out.X.free 1; replace x2 := M.out.X.cell' 2 _ rfl; replace f2 := M.out.X.free 2; replace x3 := M.out.X.cell' 3 _ rfl; replace f3 := M.out.X.free 3; replace x4 := M.out.X.cell' 4 _ rfl; replace f4 := M.out.X.free 4; replace x5 := M.out.X.cell' 5 _ rfl; replace f5 := M.out.X.free 5; replace x6 := M.out.X.cell' 6 _ rfl; replace f6 := M.out.X.free 6; replace x7 := M.out.X.cell' 7 _ rfl; replace f7 := M.out.X.free 7; replace x8 := M.out.X.cell' 8 _ rfl; replace f8 := M.out.X.free 8; replace x9 := M.out.X.cell' 9 _ rfl; replace f9 := M.out.X.free 9; replace x10 := M.out.X.cell' 10 _ rfl; replace f10 := M.out.X.free 10; clear tp q))
            | (go_at_call 47; (with_reducible refine (WD.out _ _ ?_ ?_ _).mono ?_; omega; omega; rintro e w' ⟨rfl, q⟩; replace CW := Lib.hid ((CW.out.kept (show Qw _ _ by repeat (first | exact Qw.refl _ | refine Qw.al ?_ _ | refine Qw.dr ?_ | refine Qw.dn ?_ _))).kept q); replace M := Lib.hid CW.out.M; replace xl := M.out.X.lt; replace rl := M.out.R.lt; replace x0 := M.out.X.cell' 0 _ rfl; replace f0 := M.out.X.free 0; replace x1 := M.out.X.cell' 1 _ rfl; replace f1 := M.out.X.free 1; replace x2 := M.out.X.cell' 2 _ rfl; replace f2 := M.out.X.free 2; replace x3 := M.out.X.cell' 3 _ rfl; replace f3 := M.out.X.free 3; replace x4 := M.out.X.cell' 4 _ rfl; replace f4 := M.out.X.free 4; replace x5 := M.out.X.cell' 5 _ rfl; replace f5 := M.out.X.free 5; replace x6 := M.out.X.cell' 6 _ rfl; replace f6 := M.out.X.free 6; replace x7 := M.out.X.cell' 7 _ rfl; replace f7 := M.out.X.free 7; replace x8 := M.out.X.cell' 8 _ rfl; replace f8 := M.out.X.free 8; replace x9 := M.out.X.cell' 9 _ rfl; replace f9 := M.out.X.free 9; replace x10 := M.out.X.cell' 10 _ rfl; replace f10 := M.out.X.free 10; clear q)))))
      all_goals go_wp2_with fail
      all_goals obtain ⟨a', cap', e', hb'⟩ := HD.out _ _ _ _ C3.out (by intro d hd; simp at hd; first | (subst hd; exact ⟨_, _, rfl⟩) | (rcases hd with rfl | rfl <;> exact ⟨_, _, rfl⟩) | (rcases hd with rfl | rfl | rfl <;> exact ⟨_, _, rfl⟩) | (rcases hd with rfl | rfl | rfl | rfl <;> exact ⟨_, _, rfl⟩))
      all_goals obtain ⟨rfl, rfl, rfl⟩ : va = a' ∧ vn = _ ∧ vc = cap' := by injection e' with e1 e2 e3; exact ⟨e1, e2, e3⟩
      all_goals exact cbEnd Tryd.results34 rfl rfl C3.out.M hb' ⟨HF.out.words_ hk (by simp [wds]) (by intro u hu; simp [wds, nw] at hu; rcases hu with rfl | rfl | rfl; exact nw_ok (show Sy.isw _ = true by rfl) (by decide) (by decide); exact nw_ok (show Sy.isw _ = true by rfl) (by omega) (by omega); exact nw_ok (show Sy.isw _ = true by rfl) (by omega) (by omega)), hk, rfl⟩ rfl
    · have e2 : (r2 == 0) = false := beq_eq_false_iff_ne.2 h2
      obtain ⟨a', cap', e', hb'⟩ := HD.out _ _ _ _ CW.out (by intro d hd; simp at hd; first | (subst hd; exact ⟨_, _, rfl⟩) | (rcases hd with rfl | rfl <;> exact ⟨_, _, rfl⟩) | (rcases hd with rfl | rfl | rfl <;> exact ⟨_, _, rfl⟩) | (rcases hd with rfl | rfl | rfl | rfl <;> exact ⟨_, _, rfl⟩))
      obtain ⟨rfl, _, rfl⟩ : a' = _ ∧ True ∧ cap' = _ := by injection e' with e1 e2 e3; exact ⟨e1.symm, trivial, e3.symm⟩
      have rl := M.out.R.lt
      replace y0 := M.out.R.free 0
      replace y1 := M.out.R.free 1
      replace y2 := M.out.R.free 2
      replace y3 := M.out.R.free 3
      replace y4 := M.out.R.free 4
      replace y5 := M.out.R.free 5
      replace y6 := M.out.R.free 6
      replace y7 := M.out.R.free 7
      replace y8 := M.out.R.free 8
      replace y9 := M.out.R.free 9
      replace y10 := M.out.R.free 10
      replace z0 := M.out.R.cell' 0 _ rfl
      replace z1 := M.out.R.cell' 1 _ rfl
      replace z2 := M.out.R.cell' 2 _ rfl
      replace z3 := M.out.R.cell' 3 _ rfl
      replace z4 := M.out.R.cell' 4 _ rfl
      replace z5 := M.out.R.cell' 5 _ rfl
      replace z6 := M.out.R.cell' 6 _ rfl
      replace z7 := M.out.R.cell' 7 _ rfl
      replace z8 := M.out.R.cell' 8 _ rfl
      replace z9 := M.out.R.cell' 9 _ rfl
      replace z10 := M.out.R.cell' 10 _ rfl
      go_wp2_with fail
      exact cbEnd Tryd.results34 rfl rfl M.out hb' ⟨HF.out.words_ hk (by simp [wds]) (by intro u hu; simp [wds, nw] at hu; rcases hu with rfl | rfl; exact nw_ok (show Sy.isw _ = true by rfl) (by decide) (by decide); exact nw_ok (show Sy.isw _ = true by rfl) (by omega) (by omega)), hk, rfl⟩ rfl
  · have e0 : (r == 0) = false := beq_eq_false_iff_ne.2 h0
    by_cases h1 : r = 1
    · subst h1
      go_upto_region 10 with (first
          | (go_at_call 33; (with_reducible refine (RG.out _ _ (by decide) (by decide) (by decide) _ (M.out.kept (show Qw _ _ by repeat (first | exact Qw.refl _ | refine Qw.al ?_ _ | refine Qw.dr ?_ | refine Qw.dn ?_ _))).T).mono ?_; rintro e w' ⟨m, rfl, m0, m1, tp, q⟩; replace M := Lib.hid ((M.out.kept (show Qw _ _ by repeat (first | exact Qw.refl _ | refine Qw.al ?_ _ | refine Qw.dr ?_ | refine Qw.dn ?_ _))).px tp q); replace xl := M.out.X.lt; replace rl := M.out.R.lt; replace x0 := M.out.X.cell' 0 _ rfl; replace f0 := M.out.X.free 0; replace x1 := M.out.X.cell' 1 _ rfl; replace f1 := M.out.X.free 1; replace x2 := M.out.X.cell' 2 _ rfl; replace f2 := M.out.X.free 2; replace x3 := M.out.X.cell' 3 _ rfl; replace f3 := M.out.X.free 3; replace x4 := M.out.X.cell' 4 _ rfl; replace f4 := M.out.X.free 4; replace x5 := M.out.X.cell' 5 _ rfl; replace f5 := M.out.X.free 5; replace x6 := M.out.X.cell' 6 _ rfl; replace f6 := M.out.X.free 6; replace x7 := M.out.X.cell' 7 _ rfl; replace f7 := M.out.X.free 7; replace x8 := M.out.X.cell' 8 _ rfl; replace f8 := M.out.X.free 8; replace x9 := M.out.X.cell' 9 _ rfl; replace f9 := M.out.X.free 9; replace x10 := M.out.X.cell' 10 _ rfl; replace f10 := M.out.X.free 10; clear tp q))
          | (go_at_call 48; (with_reducible refine (CN.out _ (M.out.kept (show Qw _ _ by repeat (first | exact Qw.refl _ | refine Qw.al ?_ _ | refine Qw.dr ?_ | refine Qw.dn ?_ _))).T).mono ?_; (first | (have hnb : na = na := rfl; clear hnb; rintro e w' ⟨nb, rfl, nb0, nb1, tp, q⟩) | rintro e w' ⟨na, rfl, na0, na1, tp, q⟩); replace M := Lib.hid ((M.out.kept (show Qw _ _ by repeat (first | exact Qw.refl _ | refine Qw.al ?_ _ | refine Qw.dr ?_ | refine Qw.dn ?_ _))).px tp q); replace xl := M.out.X.lt; replace rl := M.out.R.lt; replace x0 := M.out.X.cell' 0 _ rfl; replace f0 := M.out.X.free 0; replace x1 := M.out.X.cell' 1 _ rfl; replace f1 := M.out.X.free 1; replace x2 := M.out.X.cell' 2 _ rfl; replace f2 := M.out.X.free 2; replace x3 := M.out.X.cell' 3 _ rfl; replace f3 := M.out.X.free 3; replace x4 := M.out.X.cell' 4 _ rfl; replace f4 := M.out.X.free 4; replace x5 := M.out.X.cell' 5 _ rfl; replace f5 := M.out.X.free 5; replace x6 := M.out.X.cell' 6 _ rfl; replace f6 := M.out.X.free 6; replace x7 := M.out.X.cell' 7 _ rfl; replace f7 := M.out.X.free 7; replace x8 := M.out.X.cell' 8 _ rfl; replace f8 := M.out.X.free 8; replace x9 := M.out.X.cell' 9 _ rfl; replace f9 := M.out.X.free 9; replace x10 := M.out.X.cell' 10 _ rfl; replace f10 := M.out.X.free 10; clear tp q))
          | (go_at_call 47; (with_reducible refine (WD.out _ _ ?_ ?_ _).mono ?_; omega; omega; rintro e w' ⟨rfl, q⟩; replace M := Lib.hid ((M.out.kept (show Qw _ _ by repeat (first | exact Qw.refl _ | refine Qw.al ?_ _ | refine Qw.dr ?_ | refine Qw.dn ?_ _))).kept q); replace xl := M.out.X.lt; replace rl := M.out.R.lt; replace x0 := M.out.X.cell' 0 _ rfl; replace f0 := M.out.X.free 0; replace x1 := M.out.X.cell' 1 _ rfl; replace f1 := M.out.X.free 1; replace x2 := M.out.X.cell' 2 _ rfl; replace f2 := M.out.X.free 2; replace x3 := M.out.X.cell' 3 _ rfl; replace f3 := M.out.X.free 3; replace x4 := M.out.X.cell' 4 _ rfl; replace f4 := M.out.X.free 4; replace x5 := M.out.X.cell' 5 _ rfl; replace f5 := M.out.X.free 5; replace x6 := M.out.X.cell' 6 _ rfl; replace f6 := M.out.X.free 6; replace x7 := M.out.X.cell' 7 _ rfl; replace f7 := M.out.X.free 7; replace x8 := M.out.X.cell' 8 _ rfl; replace f8 := M.out.X.free 8; replace x9 := M.out.X.cell' 9 _ rfl; replace f9 := M.out.X.free 9; replace x10 := M.out.X.cell' 10 _ rfl; replace f10 := M.out.X.free 10; clear q)))
      refine code_of (fun w2 => ∃ g, w.heap.size + 1 < g ∧ Hid (Cw B v zs w #[.int .i64 kind, .int .i64 label, .bool sk, (.slice (some ⟨g, 0, none⟩) 4 4), .int .i64 lo, .int .i64 ln, .slice la ll lc, .int .i64 xo, .int .i64 xn, .slice xa xl0 xc, .int .i64 n] (.slice (some ⟨g, 0, none⟩) 4 4) [nw 71 65000000, nw 80 (m * 1000000), nw 65 na, nw 66 nb] w2)) ⟨_, by have := M.out.R.lt; simp; omega, Lib.hid (Cw.lit M.out [nw 71 65000000, nw 80 (m * 1000000), nw 65 na, nw 66 nb] (by simp))⟩ ?_
      clear M xl rl x0 f0 x1 f1 x2 f2 x3 f3 x4 f4 x5 f5 x6 f6 x7 f7 x8 f8 x9 f9 x10 f10
      rintro w2 ⟨g, hg1, CW⟩
      have M := Lib.hid CW.out.M
      replace xl := M.out.X.lt
      replace rl := M.out.R.lt
      replace x0 := M.out.X.cell' 0 _ rfl
      replace f0 := M.out.X.free 0
      replace x1 := M.out.X.cell' 1 _ rfl
      replace f1 := M.out.X.free 1
      replace x2 := M.out.X.cell' 2 _ rfl
      replace f2 := M.out.X.free 2
      replace x3 := M.out.X.cell' 3 _ rfl
      replace f3 := M.out.X.free 3
      replace x4 := M.out.X.cell' 4 _ rfl
      replace f4 := M.out.X.free 4
      replace x5 := M.out.X.cell' 5 _ rfl
      replace f5 := M.out.X.free 5
      replace x6 := M.out.X.cell' 6 _ rfl
      replace f6 := M.out.X.free 6
      replace x7 := M.out.X.cell' 7 _ rfl
      replace f7 := M.out.X.free 7
      replace x8 := M.out.X.cell' 8 _ rfl
      replace f8 := M.out.X.free 8
      replace x9 := M.out.X.cell' 9 _ rfl
      replace f9 := M.out.X.free 9
      replace x10 := M.out.X.cell' 10 _ rfl
      replace f10 := M.out.X.free 10
      obtain ⟨a', cap', e', hb'⟩ := HD.out _ _ _ _ CW.out (by intro d hd; simp at hd; first | (subst hd; exact ⟨_, _, rfl⟩) | (rcases hd with rfl | rfl <;> exact ⟨_, _, rfl⟩) | (rcases hd with rfl | rfl | rfl <;> exact ⟨_, _, rfl⟩) | (rcases hd with rfl | rfl | rfl | rfl <;> exact ⟨_, _, rfl⟩))
      obtain ⟨rfl, _, rfl⟩ : a' = _ ∧ True ∧ cap' = _ := by injection e' with e1 e2 e3; exact ⟨e1.symm, trivial, e3.symm⟩
      have rl := M.out.R.lt
      replace y0 := M.out.R.free 0
      replace y1 := M.out.R.free 1
      replace y2 := M.out.R.free 2
      replace y3 := M.out.R.free 3
      replace y4 := M.out.R.free 4
      replace y5 := M.out.R.free 5
      replace y6 := M.out.R.free 6
      replace y7 := M.out.R.free 7
      replace y8 := M.out.R.free 8
      replace y9 := M.out.R.free 9
      replace y10 := M.out.R.free 10
      replace z0 := M.out.R.cell' 0 _ rfl
      replace z1 := M.out.R.cell' 1 _ rfl
      replace z2 := M.out.R.cell' 2 _ rfl
      replace z3 := M.out.R.cell' 3 _ rfl
      replace z4 := M.out.R.cell' 4 _ rfl
      replace z5 := M.out.R.cell' 5 _ rfl
      replace z6 := M.out.R.cell' 6 _ rfl
      replace z7 := M.out.R.cell' 7 _ rfl
      replace z8 := M.out.R.cell' 8 _ rfl
      replace z9 := M.out.R.cell' 9 _ rfl
      replace z10 := M.out.R.cell' 10 _ rfl
      go_wp2_with fail
      exact cbEnd Tryd.results34 rfl rfl M.out hb' ⟨HF.out.words_ hk (by simp [wds]) (by intro u hu; simp [wds, nw] at hu; rcases hu with rfl | rfl | rfl | rfl; exact nw_ok (show Sy.isw _ = true by rfl) (by decide) (by decide); exact nw_ok (show Sy.isw _ = true by rfl) (by omega) (by omega); exact nw_ok (show Sy.isw _ = true by rfl) (by omega) (by omega); exact nw_ok (show Sy.isw _ = true by rfl) (by omega) (by omega)), hk, rfl⟩ rfl
    · have e1 : (r == 1) = false := beq_eq_false_iff_ne.2 h1
      by_cases h2 : r = 2
      · subst h2
        go_upto_region 10 with (first
            | (go_at_call 47; (with_reducible refine (WD.out _ _ ?_ ?_ _).mono ?_; omega; omega; rintro e w' ⟨rfl, q⟩; replace M := Lib.hid ((M.out.kept (show Qw _ _ by repeat (first | exact Qw.refl _ | refine Qw.al ?_ _ | refine Qw.dr ?_ | refine Qw.dn ?_ _))).kept q); replace xl := M.out.X.lt; replace rl := M.out.R.lt; replace x0 := M.out.X.cell' 0 _ rfl; replace f0 := M.out.X.free 0; replace x1 := M.out.X.cell' 1 _ rfl; replace f1 := M.out.X.free 1; replace x2 := M.out.X.cell' 2 _ rfl; replace f2 := M.out.X.free 2; replace x3 := M.out.X.cell' 3 _ rfl; replace f3 := M.out.X.free 3; replace x4 := M.out.X.cell' 4 _ rfl; replace f4 := M.out.X.free 4; replace x5 := M.out.X.cell' 5 _ rfl; replace f5 := M.out.X.free 5; replace x6 := M.out.X.cell' 6 _ rfl; replace f6 := M.out.X.free 6; replace x7 := M.out.X.cell' 7 _ rfl; replace f7 := M.out.X.free 7; replace x8 := M.out.X.cell' 8 _ rfl; replace f8 := M.out.X.free 8; replace x9 := M.out.X.cell' 9 _ rfl; replace f9 := M.out.X.free 9; replace x10 := M.out.X.cell' 10 _ rfl; replace f10 := M.out.X.free 10; clear q)))
        refine code_of (fun w2 => ∃ g, w.heap.size + 1 < g ∧ Hid (Cw B v zs w #[.int .i64 kind, .int .i64 label, .bool sk, (.slice (some ⟨g, 0, none⟩) 1 1), .int .i64 lo, .int .i64 ln, .slice la ll lc, .int .i64 xo, .int .i64 xn, .slice xa xl0 xc, .int .i64 n] (.slice (some ⟨g, 0, none⟩) 1 1) [nw 77 99000000] w2)) ⟨_, by have := M.out.R.lt; simp; omega, Lib.hid (Cw.lit M.out [nw 77 99000000] (by simp))⟩ ?_
        clear M xl rl x0 f0 x1 f1 x2 f2 x3 f3 x4 f4 x5 f5 x6 f6 x7 f7 x8 f8 x9 f9 x10 f10
        rintro w2 ⟨g, hg1, CW⟩
        have M := Lib.hid CW.out.M
        replace xl := M.out.X.lt
        replace rl := M.out.R.lt
        replace x0 := M.out.X.cell' 0 _ rfl
        replace f0 := M.out.X.free 0
        replace x1 := M.out.X.cell' 1 _ rfl
        replace f1 := M.out.X.free 1
        replace x2 := M.out.X.cell' 2 _ rfl
        replace f2 := M.out.X.free 2
        replace x3 := M.out.X.cell' 3 _ rfl
        replace f3 := M.out.X.free 3
        replace x4 := M.out.X.cell' 4 _ rfl
        replace f4 := M.out.X.free 4
        replace x5 := M.out.X.cell' 5 _ rfl
        replace f5 := M.out.X.free 5
        replace x6 := M.out.X.cell' 6 _ rfl
        replace f6 := M.out.X.free 6
        replace x7 := M.out.X.cell' 7 _ rfl
        replace f7 := M.out.X.free 7
        replace x8 := M.out.X.cell' 8 _ rfl
        replace f8 := M.out.X.free 8
        replace x9 := M.out.X.cell' 9 _ rfl
        replace f9 := M.out.X.free 9
        replace x10 := M.out.X.cell' 10 _ rfl
        replace f10 := M.out.X.free 10
        obtain ⟨a', cap', e', hb'⟩ := HD.out _ _ _ _ CW.out (by intro d hd; simp at hd; first | (subst hd; exact ⟨_, _, rfl⟩) | (rcases hd with rfl | rfl <;> exact ⟨_, _, rfl⟩) | (rcases hd with rfl | rfl | rfl <;> exact ⟨_, _, rfl⟩) | (rcases hd with rfl | rfl | rfl | rfl <;> exact ⟨_, _, rfl⟩))
        obtain ⟨rfl, _, rfl⟩ : a' = _ ∧ True ∧ cap' = _ := by injection e' with e1 e2 e3; exact ⟨e1.symm, trivial, e3.symm⟩
        have rl := M.out.R.lt
        replace y0 := M.out.R.free 0
        replace y1 := M.out.R.free 1
        replace y2 := M.out.R.free 2
        replace y3 := M.out.R.free 3
        replace y4 := M.out.R.free 4
        replace y5 := M.out.R.free 5
        replace y6 := M.out.R.free 6
        replace y7 := M.out.R.free 7
        replace y8 := M.out.R.free 8
        replace y9 := M.out.R.free 9
        replace y10 := M.out.R.free 10
        replace z0 := M.out.R.cell' 0 _ rfl
        replace z1 := M.out.R.cell' 1 _ rfl
        replace z2 := M.out.R.cell' 2 _ rfl
        replace z3 := M.out.R.cell' 3 _ rfl
        replace z4 := M.out.R.cell' 4 _ rfl
        replace z5 := M.out.R.cell' 5 _ rfl
        replace z6 := M.out.R.cell' 6 _ rfl
        replace z7 := M.out.R.cell' 7 _ rfl
        replace z8 := M.out.R.cell' 8 _ rfl
        replace z9 := M.out.R.cell' 9 _ rfl
        replace z10 := M.out.R.cell' 10 _ rfl
        go_wp2_with fail
        exact cbEnd Tryd.results34 rfl rfl M.out hb' ⟨HF.out.words_ hk (by simp [wds]) (by intro u hu; simp [wds, nw] at hu; subst hu; exact nw_ok (show Sy.isw _ = true by rfl) (by decide) (by decide)), hk, rfl⟩ rfl
      · have e2 : (r == 2) = false := beq_eq_false_iff_ne.2 h2
        have rl := M.out.R.lt
        replace y0 := M.out.R.free 0
        replace y1 := M.out.R.free 1
        replace y2 := M.out.R.free 2
        replace y3 := M.out.R.free 3
        replace y4 := M.out.R.free 4
        replace y5 := M.out.R.free 5
        replace y6 := M.out.R.free 6
        replace y7 := M.out.R.free 7
        replace y8 := M.out.R.free 8
        replace y9 := M.out.R.free 9
        replace y10 := M.out.R.free 10
        replace z0 := M.out.R.cell' 0 _ rfl
        replace z1 := M.out.R.cell' 1 _ rfl
        replace z2 := M.out.R.cell' 2 _ rfl
        replace z3 := M.out.R.cell' 3 _ rfl
        replace z4 := M.out.R.cell' 4 _ rfl
        replace z5 := M.out.R.cell' 5 _ rfl
        replace z6 := M.out.R.cell' 6 _ rfl
        replace z7 := M.out.R.cell' 7 _ rfl
        replace z8 := M.out.R.cell' 8 _ rfl
        replace z9 := M.out.R.cell' 9 _ rfl
        replace z10 := M.out.R.cell' 10 _ rfl
        go_wp2_with fail
        exact cbEnd Tryd.results34 rfl rfl M.out (cb_blk M.out BK.out HS.out) ⟨HF.out, hk, rfl⟩ rfl
theorem calledA {B : Nat} {v : Value} {zs : List Int} {S : Nat → Prop} {b : Sy.Bl} {wa la xa : Option Addr} {wc lc xc : Nat} (w : World) (hT : TpB w B v zs) (hf : Sy.Fwn b) (hk : b.kind = 0) (hS : ∀ k, S k → k ≠ B) (hB : BlkB w S b #[.int .i64 b.kind, .int .i64 b.label, .bool b.skip, .slice wa b.words.length wc, .int .i64 b.left.op, .int .i64 b.left.n, .slice la b.left.ks.length lc, .int .i64 b.x.op, .int .i64 b.x.n, .slice xa b.x.ks.length xc, .int .i64 b.n]) :
    Calls Tryd.prog 34 #[.pointer (some ⟨B, 0, none⟩), .agg #[.int .i64 b.kind, .int .i64 b.label, .bool b.skip, .slice wa b.words.length wc, .int .i64 b.left.op, .int .i64 b.left.n, .slice la b.left.ks.length lc, .int .i64 b.x.op, .int .i64 b.x.n, .slice xa b.x.ks.length xc, .int .i64 b.n]] w (ClA B v zs S b w) :=
  calledW w hT hf hk hS hB (fun cs sv ds wr h hd => cw_blk h hB hS hd)
end Go.Proofs.YtlgdjbabbfdngaaDoor

