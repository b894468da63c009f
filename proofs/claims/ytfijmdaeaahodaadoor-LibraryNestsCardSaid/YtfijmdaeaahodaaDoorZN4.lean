import Derived.Test.YtfijmdaeaahodaaDoorZN1
import Derived.Test.YtfijmdaeaahodaaDoorZN2
import Derived.Test.YtfijmdaeaahodaaDoorZN3
set_option linter.unusedVariables false
set_option linter.unusedSimpArgs false
namespace Go.Proofs.YtfijmdaeaahodaaDoor
open Go.RowKit
def pcell (p : Lb.Pg) : List Value := [.int .i64 p.num, .int .i64 p.first, .int .i64 p.fin]
def lcell (q : Nat × Int) : List Value := [.int .i64 q.2, .int .i64 q.1]
def icell (n : Int) : List Value := [.int .i64 n]
def colN (w : World) (col : Nat → Nat) (c : Nat) (b : Nat) : Nat := if b < w.heap.size then col b else c
structure Bq (B P : Nat) (w : World) (pg : List Lb.Pg) (mt ns : List Int) (op : List (Nat × Int)) (pv mv lv ov : Value) (nb : Nat) (col : Nat → Nat) : Prop where
  X : Bx w P #[pv, mv, .map (some nb), lv, ov] 76
  G : OwnG B w 56 3 pv (pg.map pcell)
  M : OwnG B w 3 1 mv (mt.map icell)
  O : OwnG B w 89 2 ov (op.map lcell)
  N : SetM w nb ns
  hP : B ≤ P
  hn : B ≤ nb
  c0 : col P = 0
  c1 : ∀ g, pv.ownBlock = some g → col g = 1
  c2 : ∀ g, mv.ownBlock = some g → col g = 2
  c3 : col nb = 3
  c5 : ∀ g, ov.ownBlock = some g → col g = 5
def LbM (B : Nat) (w : World) (lv : Value) (ls : List Int) (col : Nat → Nat) : Prop := ∃ lb, lv = .map (some lb) ∧ SetM w lb ls ∧ B ≤ lb ∧ col lb = 4
section
variable {B P : Nat} {w w1 w2 : World} {pg : List Lb.Pg} {mt ns ls : List Int} {op : List (Nat × Int)} {pv mv lv ov : Value} {nb : Nat} {col : Nat → Nat}
theorem colN_old {b c : Nat} (h : b < w.heap.size) : colN w col c b = col b := by unfold colN; rw [if_pos h]
theorem colN_new {b c : Nat} (h : w.heap.size ≤ b) : colN w col c b = c := by unfold colN; rw [if_neg (by omega)]
theorem OwnG.keep {T : TypeId} {z : Nat} {v : Value} {xs : List (List Value)} (h : OwnG B w T z v xs) {k c p : Nat} (hc : ∀ g, v.ownBlock = some g → col g = k) (hp : col p = 0) (h0 : k ≠ 0) (hk : k ≠ c)
    (ht : ∀ b, b < w.heap.size → col b ≠ c → b ≠ p → w2.heap[b]? = w.heap[b]?) : OwnG B w2 T z v xs := h.go fun g hg hl => ht g hl (by rw [hc g hg]; exact hk) (fun e => by have := hc g hg; rw [e, hp] at this; exact h0 this.symm)
theorem SetM.keep {b : Nat} {L : List Int} (h : SetM w b L) {k c p : Nat} (hc : col b = k) (hp : col p = 0) (h0 : k ≠ 0) (hk : k ≠ c)
    (ht : ∀ b, b < w.heap.size → col b ≠ c → b ≠ p → w2.heap[b]? = w.heap[b]?) : SetM w2 b L := h.go (ht b h.lt (by rw [hc]; exact hk) (fun e => by rw [e, hp] at hc; exact h0 hc.symm))
theorem OwnG.colS {T : TypeId} {z : Nat} {v : Value} {xs : List (List Value)} (h : OwnG B w T z v xs) {k : Nat} (c : Nat) (hc : ∀ g, v.ownBlock = some g → col g = k) : ∀ g, v.ownBlock = some g → colN w col c g = k := fun g hg => by rw [colN_old (h.lt hg).2]; exact hc g hg
theorem near_col {v v' : Value} {c : Nat} (hlt : ∀ g, v.ownBlock = some g → g < w.heap.size) (hc : ∀ g, v.ownBlock = some g → col g = c) (hn : ∀ g, v'.ownBlock = some g → v.ownBlock = some g ∨ w.heap.size ≤ g) : ∀ g, v'.ownBlock = some g → colN w col c g = c := fun g hg => by
  rcases hn g hg with k | k
  · rw [colN_old (hlt g k)]; exact hc g k
  · exact colN_new k
theorem turn_set {c p : Nat} {v : Value} (hc : ∀ g, v.ownBlock = some g → col g = c) (hg : w.grownBy w1 v.ownBlock) (i : Nat) (u : Value) : ∀ b, b < w.heap.size → col b ≠ c → b ≠ p → (w1.setCell ⟨p, i, none⟩ u).heap[b]? = w.heap[b]? := fun b hb hne hp =>
  (Below.heap_setCell w1 ⟨p, i, none⟩ u b hp).trans (hg.block b hb (fun e => hne (hc b e.symm)))
theorem turn_own {c p : Nat} {g : Nat} (hc : col g = c) (i : Nat) (u : Value) : ∀ b, b < w.heap.size → col b ≠ c → b ≠ p → (w.setCell ⟨g, i, none⟩ u).heap[b]? = w.heap[b]? := fun b hb hne _ =>
  Below.heap_setCell w ⟨g, i, none⟩ u b (fun e => hne (by rw [e]; exact hc))
def Fc (w w' : World) (col col' : Nat → Nat) : Prop := w.heap.size ≤ w'.heap.size ∧ ∀ K, K < w.heap.size → col' K = col K ∧ (5 < col K → w'.heap[K]? = w.heap[K]?)
theorem Fc.trans {a b c : World} {k1 k2 k3 : Nat → Nat} (h : Fc a b k1 k2) (g : Fc b c k2 k3) : Fc a c k1 k3 := ⟨Nat.le_trans h.1 g.1, fun K hK => by
  obtain ⟨e1, e2⟩ := h.2 K hK
  obtain ⟨f1, f2⟩ := g.2 K (by have := h.1; omega)
  exact ⟨f1.trans e1, fun h5 => (f2 (by rw [e1]; exact h5)).trans (e2 h5)⟩⟩
theorem Fc.of {w w' : World} {col : Nat → Nat} (q : Qw w w') : Fc w w' col col := ⟨q.size, fun K hK => ⟨rfl, fun _ => q.block K hK⟩⟩
theorem Fc.turn {c p : Nat} (hs : w.heap.size ≤ w2.heap.size) (hc : c ≤ 5) (hp : col p = 0) (ht : ∀ b, b < w.heap.size → col b ≠ c → b ≠ p → w2.heap[b]? = w.heap[b]?) : Fc w w2 col (colN w col c) :=
  ⟨hs, fun K hK => ⟨colN_old hK, fun h5 => ht K hK (by omega) (fun e => by rw [e, hp] at h5; omega)⟩⟩
theorem Fc.grown {c : Nat} {v : Value} {p : Nat} (hp : col p = 0) (hc5 : c ≤ 5) (hc : ∀ g, v.ownBlock = some g → col g = c) (hg : w.grownBy w1 v.ownBlock) (i : Nat) (u : Value) : Fc w (w1.setCell ⟨p, i, none⟩ u) col (colN w col c) :=
  Fc.turn (by have := hg.size; simp; omega) hc5 hp (turn_set hc hg i u)
theorem Fc.one {c : Nat} {b : Nat} {p : Nat} (hp : col p = 0) (hc5 : c ≤ 5) (hc : col b = c) (hg : w.grownBy w1 (some b)) : Fc w w1 col (colN w col c) :=
  Fc.turn hg.size hc5 hp (fun k hk hne _ => hg.block k hk (fun e => hne (by obtain rfl := Option.some.inj e; exact hc)))
theorem Fc.own {c : Nat} {g : Nat} {p : Nat} (hp : col p = 0) (hc5 : c ≤ 5) (hc : col g = c) (i : Nat) (u : Value) : Fc w (w.setCell ⟨g, i, none⟩ u) col (colN w col c) :=
  Fc.turn (by simp) hc5 hp (turn_own hc i u)
theorem Fc.free {p : Nat} (hp : col p = 0) (u : Value) : Fc w ((w.alloc (.map #[] 0)).setCell ⟨p, 3, none⟩ u) col (colN w col 4) :=
  Fc.turn (by simp) (by decide) hp (fun b hb _ hp => (Below.heap_setCell _ ⟨p, 3, none⟩ _ b hp).trans (Below.heap_alloc w _ b hb))
theorem Bq.ltP (h : Bq B P w pg mt ns op pv mv lv ov nb col) : P < w.heap.size := h.X.lt
theorem Bq.px1 (h : Bq B P w pg mt ns op pv mv lv ov nb col) {v : Value} {c : Nat} (h0 : c ≠ 0) (hc : ∀ g, v.ownBlock = some g → col g = c) (hg : w.grownBy w1 v.ownBlock) : Bx w1 P #[pv, mv, .map (some nb), lv, ov] 76 :=
  (hg.block P h.ltP (fun e => h0 (by rw [← hc P e.symm, h.c0]))).trans h.X
theorem Bq.newG (h : Bq B P w pg mt ns op pv mv lv ov nb col) {pg' : List Lb.Pg} {pv' : Value} (ho : OwnG B w1 56 3 pv' (pg'.map pcell)) (hg : w.grownBy w1 pv.ownBlock) (hn : ∀ g, pv'.ownBlock = some g → pv.ownBlock = some g ∨ w.heap.size ≤ g) :
    Bq B P (w1.setCell ⟨P, 0, none⟩ pv') pg' mt ns op pv' mv lv ov nb (colN w col 1) := by
  have T := turn_set (p := P) h.c1 hg 0 pv'
  have cn := near_col (fun g hg => (h.G.lt hg).2) h.c1 hn
  have cP : colN w col 1 P = 0 := (colN_old h.ltP).trans h.c0
  exact ⟨(h.px1 (by decide) h.c1 hg).set 0 pv', ho.go fun g hg _ => Below.heap_setCell w1 ⟨P, 0, none⟩ pv' g (fun e => by have := cn g hg; rw [e, cP] at this; cases this), h.M.keep h.c2 h.c0 (by decide) (by decide) T, h.O.keep h.c5 h.c0 (by decide) (by decide) T, h.N.keep h.c3 h.c0 (by decide) (by decide) T, h.hP, h.hn, cP, cn, h.M.colS 1 h.c2, (colN_old h.N.lt).trans h.c3, h.O.colS 1 h.c5⟩
theorem Bq.newM (h : Bq B P w pg mt ns op pv mv lv ov nb col) {mt' : List Int} {mv' : Value} (ho : OwnG B w1 3 1 mv' (mt'.map icell)) (hg : w.grownBy w1 mv.ownBlock) (hn : ∀ g, mv'.ownBlock = some g → mv.ownBlock = some g ∨ w.heap.size ≤ g) :
    Bq B P (w1.setCell ⟨P, 1, none⟩ mv') pg mt' ns op pv mv' lv ov nb (colN w col 2) := by
  have T := turn_set (p := P) h.c2 hg 1 mv'
  have cn := near_col (fun g hg => (h.M.lt hg).2) h.c2 hn
  have cP : colN w col 2 P = 0 := (colN_old h.ltP).trans h.c0
  exact ⟨(h.px1 (by decide) h.c2 hg).set 1 mv', h.G.keep h.c1 h.c0 (by decide) (by decide) T, ho.go fun g hg _ => Below.heap_setCell w1 ⟨P, 1, none⟩ mv' g (fun e => by have := cn g hg; rw [e, cP] at this; cases this), h.O.keep h.c5 h.c0 (by decide) (by decide) T, h.N.keep h.c3 h.c0 (by decide) (by decide) T, h.hP, h.hn, cP, h.G.colS 2 h.c1, cn, (colN_old h.N.lt).trans h.c3, h.O.colS 2 h.c5⟩
theorem Bq.newO (h : Bq B P w pg mt ns op pv mv lv ov nb col) {op' : List (Nat × Int)} {ov' : Value} (ho : OwnG B w1 89 2 ov' (op'.map lcell)) (hg : w.grownBy w1 ov.ownBlock) (hn : ∀ g, ov'.ownBlock = some g → ov.ownBlock = some g ∨ w.heap.size ≤ g) :
    Bq B P (w1.setCell ⟨P, 4, none⟩ ov') pg mt ns op' pv mv lv ov' nb (colN w col 5) := by
  have T := turn_set (p := P) h.c5 hg 4 ov'
  have cn := near_col (fun g hg => (h.O.lt hg).2) h.c5 hn
  have cP : colN w col 5 P = 0 := (colN_old h.ltP).trans h.c0
  exact ⟨(h.px1 (by decide) h.c5 hg).set 4 ov', h.G.keep h.c1 h.c0 (by decide) (by decide) T, h.M.keep h.c2 h.c0 (by decide) (by decide) T, ho.go fun g hg _ => Below.heap_setCell w1 ⟨P, 4, none⟩ ov' g (fun e => by have := cn g hg; rw [e, cP] at this; cases this), h.N.keep h.c3 h.c0 (by decide) (by decide) T, h.hP, h.hn, cP, h.G.colS 5 h.c1, h.M.colS 5 h.c2, (colN_old h.N.lt).trans h.c3, cn⟩
theorem Bq.newN (h : Bq B P w pg mt ns op pv mv lv ov nb col) {ns' : List Int} (hN : SetM w1 nb ns') (hg : w.grownBy w1 (some nb)) : Bq B P w1 pg mt ns' op pv mv lv ov nb (colN w col 3) := by
  have T : ∀ b, b < w.heap.size → col b ≠ 3 → b ≠ P → w1.heap[b]? = w.heap[b]? := fun b hb hne _ => hg.block b hb (fun e => hne (by obtain rfl := Option.some.inj e; exact h.c3))
  have cP : colN w col 3 P = 0 := (colN_old h.ltP).trans h.c0
  exact ⟨(hg.block P h.ltP (fun e => by obtain rfl := Option.some.inj e; have := h.c0; rw [h.c3] at this; cases this)).trans h.X, h.G.keep h.c1 h.c0 (by decide) (by decide) T, h.M.keep h.c2 h.c0 (by decide) (by decide) T, h.O.keep h.c5 h.c0 (by decide) (by decide) T, hN, h.hP, h.hn, cP, h.G.colS 3 h.c1, h.M.colS 3 h.c2, (colN_old h.N.lt).trans h.c3, h.O.colS 3 h.c5⟩
theorem Bq.newL (h : Bq B P w pg mt ns op pv mv lv ov nb col) {lb : Nat} {ls' : List Int} (hl : lv = .map (some lb)) (hb : B ≤ lb) (hc : col lb = 4) (hlt : lb < w.heap.size) (hL : SetM w1 lb ls') (hg : w.grownBy w1 (some lb)) : Bq B P w1 pg mt ns op pv mv lv ov nb (colN w col 4) ∧ LbM B w1 lv ls' (colN w col 4) := by
  have T : ∀ b, b < w.heap.size → col b ≠ 4 → b ≠ P → w1.heap[b]? = w.heap[b]? := fun b hb hne _ => hg.block b hb (fun e => hne (by obtain rfl := Option.some.inj e; exact hc))
  have cP : colN w col 4 P = 0 := (colN_old h.ltP).trans h.c0
  exact ⟨⟨(hg.block P h.ltP (fun e => by obtain rfl := Option.some.inj e; have := h.c0; rw [hc] at this; cases this)).trans h.X, h.G.keep h.c1 h.c0 (by decide) (by decide) T, h.M.keep h.c2 h.c0 (by decide) (by decide) T, h.O.keep h.c5 h.c0 (by decide) (by decide) T, h.N.keep h.c3 h.c0 (by decide) (by decide) T, h.hP, h.hn, cP, h.G.colS 4 h.c1, h.M.colS 4 h.c2, (colN_old h.N.lt).trans h.c3, h.O.colS 4 h.c5⟩, lb, hl, hL, hb, (colN_old hlt).trans hc⟩
theorem Bq.freeL (h : Bq B P w pg mt ns op pv mv lv ov nb col) (hB : B ≤ w.heap.size) : Bq B P ((w.alloc (.map #[] 0)).setCell ⟨P, 3, none⟩ (.map (some w.heap.size))) pg mt ns op pv mv (.map (some w.heap.size)) ov nb (colN w col 4) ∧ LbM B ((w.alloc (.map #[] 0)).setCell ⟨P, 3, none⟩ (.map (some w.heap.size))) (.map (some w.heap.size)) [] (colN w col 4) := by
  have hP := h.ltP
  have T : ∀ b, b < w.heap.size → col b ≠ 4 → b ≠ P → ((w.alloc (.map #[] 0)).setCell ⟨P, 3, none⟩ (.map (some w.heap.size))).heap[b]? = w.heap[b]? := fun b hb _ hp => (Below.heap_setCell _ ⟨P, 3, none⟩ _ b hp).trans (Below.heap_alloc w _ b hb)
  have cP : colN w col 4 P = 0 := (colN_old h.ltP).trans h.c0
  exact ⟨⟨(h.X.alloc _).set 3 _, h.G.keep h.c1 h.c0 (by decide) (by decide) T, h.M.keep h.c2 h.c0 (by decide) (by decide) T, h.O.keep h.c5 h.c0 (by decide) (by decide) T, h.N.keep h.c3 h.c0 (by decide) (by decide) T, h.hP, h.hn, cP, h.G.colS 4 h.c1, h.M.colS 4 h.c2, (colN_old h.N.lt).trans h.c3, h.O.colS 4 h.c5⟩, _, rfl, (SetM.made w).go (Below.heap_setCell _ ⟨P, 3, none⟩ _ w.heap.size (by show w.heap.size ≠ P; omega)), hB, colN_new (Nat.le_refl _)⟩
theorem Bq.setM (h : Bq B P w pg mt ns op pv mv lv ov nb col) {g : Nat} (hg : mv.ownBlock = some g) {i : Nat} (hi : i < mt.length) (x : Int) : Bq B P (w.setCell ⟨g, i, none⟩ (.int .i64 x)) pg (mt.set i x) ns op pv mv lv ov nb (colN w col 2) := by
  have hc := h.c2 g hg
  have T := turn_own (w := w) (p := P) hc i (.int .i64 x)
  have cP : colN w col 2 P = 0 := (colN_old h.ltP).trans h.c0
  have hm := h.M.set hg (i := i) (by simpa using hi) (j := 0) (by decide) (.int .i64 x)
  have e : (mt.map icell).set i (((mt.map icell)[i]'(by simpa using hi)).set 0 (.int .i64 x)) = (mt.set i x).map icell := by rw [List.map_set]; congr 1; simp [icell]
  rw [e, Nat.mul_one, Nat.add_zero] at hm
  exact ⟨h.X.other (fun e => by have := h.c0; rw [e] at this; rw [show (⟨g, i, none⟩ : Addr).block = g from rfl, hc] at this; cases this) _, h.G.keep h.c1 h.c0 (by decide) (by decide) T, hm, h.O.keep h.c5 h.c0 (by decide) (by decide) T, h.N.keep h.c3 h.c0 (by decide) (by decide) T, h.hP, h.hn, cP, h.G.colS 2 h.c1, h.M.colS 2 h.c2, (colN_old h.N.lt).trans h.c3, h.O.colS 2 h.c5⟩
theorem Bq.setF {p : Lb.Pg} (h : Bq B P w (pg ++ [p]) mt ns op pv mv lv ov nb col) {g : Nat} (hg : pv.ownBlock = some g) (x : Nat) : Bq B P (w.setCell ⟨g, pg.length * 3 + 2, none⟩ (.int .i64 x)) (pg ++ [{ p with fin := x }]) mt ns op pv mv lv ov nb (colN w col 1) := by
  have hc := h.c1 g hg
  have T := turn_own (w := w) (p := P) hc (pg.length * 3 + 2) (.int .i64 x)
  have cP : colN w col 1 P = 0 := (colN_old h.ltP).trans h.c0
  have hm := h.G.set hg (i := pg.length) (by simp) (j := 2) (by decide) (.int .i64 x)
  have e : ((pg ++ [p]).map pcell).set pg.length ((((pg ++ [p]).map pcell)[pg.length]'(by simp)).set 2 (.int .i64 x)) = (pg ++ [{ p with fin := x }]).map pcell := by
    simp [pcell, List.set_append_right]
  rw [e] at hm
  exact ⟨h.X.other (fun e => by have := h.c0; rw [e] at this; rw [show (⟨g, pg.length * 3 + 2, none⟩ : Addr).block = g from rfl, hc] at this; cases this) _, hm, h.M.keep h.c2 h.c0 (by decide) (by decide) T, h.O.keep h.c5 h.c0 (by decide) (by decide) T, h.N.keep h.c3 h.c0 (by decide) (by decide) T, h.hP, h.hn, cP, h.G.colS 1 h.c1, h.M.colS 1 h.c2, (colN_old h.N.lt).trans h.c3, h.O.colS 1 h.c5⟩
theorem Bq.cutO {q : Nat × Int} (h : Bq B P w pg mt ns (op ++ [q]) pv mv lv ov nb col) : ∃ (g cap : Nat), ov = .slice (some ⟨g, 0, none⟩) (op.length + 1) cap ∧ op.length + 1 ≤ cap ∧ cap ≤ 9223372036854775807 ∧ g < w.heap.size ∧ g ≠ P ∧ B ≤ g ∧
    w.cell? ⟨g, op.length * 2, none⟩ = some (.int .i64 q.2) ∧ w.cell? ⟨g, op.length * 2 + 1, none⟩ = some (.int .i64 q.1) ∧
    Bq B P (w.setCell ⟨P, 4, none⟩ (.slice (some ⟨g, 0, none⟩) op.length cap)) pg mt ns op pv mv lv (.slice (some ⟨g, 0, none⟩) op.length cap) nb (colN w col 5) := by
  have ho := h.O
  rw [List.map_append] at ho
  obtain ⟨g, cap, rfl, k1, k2, k3, k4, k5⟩ := ho.cut
  rw [List.length_map] at *
  have hg : (Value.slice (some ⟨g, 0, none⟩) (op.length + 1) cap).ownBlock = some g := rfl
  have hgP : g ≠ P := fun e => by have := h.c5 g hg; rw [e, h.c0] at this; cases this
  refine ⟨g, cap, rfl, k1, k2, k4, hgP, k3, by have := h.O.at hg (i := op.length) (by simp) (j := 0) (u := .int .i64 q.2) (by simp [lcell]); simpa using this, h.O.at hg (i := op.length) (by simp) (by simp [lcell]), ?_⟩
  exact h.newO (w1 := w) (op' := op) k5 ⟨rfl, rfl, rfl, Nat.le_refl _, fun _ _ _ => rfl⟩ (fun g' hg' => .inl hg')
theorem Bq.kept (h : Bq B P w pg mt ns op pv mv lv ov nb col) (q : Qw w w1) : Bq B P w1 pg mt ns op pv mv lv ov nb col :=
  have k := fun {T : TypeId} {z : Nat} {v : Value} {xs : List (List Value)} (o : OwnG B w T z v xs) => o.go (w' := w1) fun g _ hl => q.block g hl
  ⟨h.X.kept q, k h.G, k h.M, k h.O, h.N.go (q.block _ h.N.lt), h.hP, h.hn, h.c0, h.c1, h.c2, h.c3, h.c5⟩
theorem LbM.kept (h : LbM B w lv ls col) (q : Qw w w1) : LbM B w1 lv ls col := by
  obtain ⟨lb, h1, h2, h3, h4⟩ := h
  exact ⟨lb, h1, h2.go (q.block _ h2.lt), h3, h4⟩
theorem LbM.keep (h : LbM B w lv ls col) {c p : Nat} (hp : col p = 0) (hk : c ≠ 4) (ht : ∀ b, b < w.heap.size → col b ≠ c → b ≠ p → w2.heap[b]? = w.heap[b]?) : LbM B w2 lv ls (colN w col c) := by
  obtain ⟨lb, h1, h2, h3, h4⟩ := h
  exact ⟨lb, h1, h2.keep h4 hp (by decide) (by omega) ht, h3, (colN_old h2.lt).trans h4⟩
end
end Go.Proofs.YtfijmdaeaahodaaDoor
set_option linter.unusedVariables false
set_option linter.unusedSimpArgs false
namespace Go.Proofs.YtfijmdaeaahodaaDoor
open Go.RowKit
def BM (B P : Nat) (w : World) (col : Nat → Nat) (pg : List Lb.Pg) (mt ns ls : List Int) (op : List (Nat × Int)) : Prop := ∃ pv mv lv ov nb, Bq B P w pg mt ns op pv mv lv ov nb col ∧ LbM B w lv ls col
theorem BM.kept {B P : Nat} {w w1 : World} {col : Nat → Nat} {pg : List Lb.Pg} {mt ns ls : List Int} {op : List (Nat × Int)} (h : BM B P w col pg mt ns ls op) (q : Qw w w1) : BM B P w1 col pg mt ns ls op := by
  obtain ⟨pv, mv, lv, ov, nb, h, hl⟩ := h
  exact ⟨pv, mv, lv, ov, nb, h.kept q, hl.kept q⟩
def BmR (B P : Nat) (w : World) (col : Nat → Nat) (pg : List Lb.Pg) (mt ns ls : List Int) (op : List (Nat × Int)) (w' : World) : Prop := ∃ col', BM B P w' col' pg mt ns ls op ∧ Fc w w' col col' ∧ Below B w w'
theorem BmR.kept {B P : Nat} {w w1 w2 : World} {col : Nat → Nat} {pg : List Lb.Pg} {mt ns ls : List Int} {op : List (Nat × Int)} (h : BmR B P w col pg mt ns ls op w1) (q : Qw w1 w2) (hB : B ≤ w.heap.size) : BmR B P w col pg mt ns ls op w2 := by
  obtain ⟨col', h, f, b⟩ := h
  exact ⟨col', h.kept q, f.trans (Fc.of q), Below.trans b (Below.mono q (Nat.le_trans hB b.size))⟩
section
variable {B P : Nat} {w : World} {pg : List Lb.Pg} {mt ns ls : List Int} {op : List (Nat × Int)} {pv mv lv ov : Value} {nb : Nat} {col : Nat → Nat}
theorem field_loop0 (a b : Int) (w : World) : (Instr.field 89 (.agg #[.int .i64 a, .int .i64 b]) 0).run Tryd.prog w = .ok (.int .i64 a) w := by kernel_rfl
theorem field_loop1 (a b : Int) (w : World) : (Instr.field 89 (.agg #[.int .i64 a, .int .i64 b]) 1).run Tryd.prog w = .ok (.int .i64 b) w := by kernel_rfl
set_option maxRecDepth 100000 in
set_option maxHeartbeats 4000000 in
theorem lc_inner {q : Nat × Int} (h : Bq B P w pg mt ns (op ++ [q]) pv mv lv ov nb col) : Calls Tryd.prog 59 #[.pointer (some ⟨P, 0, none⟩)] w fun e w' => e = .returned (.agg #[.int .i64 q.2, .int .i64 q.1]) ∧ Qw w w' := by
  have x4 := h.X.cell' 4 ov rfl
  obtain ⟨g, cap, rfl, k1, k2, k3, k4, k5, o0, o1, _⟩ := h.cutO
  have hP := h.ltP
  have hPn : P ≠ w.heap.size := by omega
  have hgn : g ≠ w.heap.size := by omega
  obtain ⟨k, hk⟩ : ∃ k, k = op.length := ⟨_, rfl⟩
  rw [← hk] at k1 o0 o1 x4
  have ek : IntKind.i64.wrap (k : Int) = k := IntWalk.i64_in _ (by omega)
  have e0 : 0 ≤ (k : Int) := by omega
  have e1 : (k : Int) < (k : Int) + 1 := by omega
  clear h hk
  have q0 : Hid (Qw w w) := Lib.hid (Qw.refl w)
  go_enter Tryd.func59, Tryd.ntmps59
  go_wp2
  refine wp_region_still_tail 12 (by kernel_rfl) (by kernel_rfl) ?_
  change wpStill _ _ (World.drew _) _ _ _
  simp only [List.take_succ_cons, List.take_zero, List.drop_succ_cons, List.drop_zero]
  repeat still_step
  refine wpStill_nil ?_
  change wpList _ _ _ _ _ (World.drew _)
  go_wp2
  exact bodyPost_ret (v := .agg #[.int .i64 q.2, .int .i64 q.1]) (by simp [results, Tryd.results59, go_sem]) rfl ⟨rfl, Qz⟩
set_option maxRecDepth 100000 in
set_option maxHeartbeats 4000000 in
theorem lc_endProgY {p : Lb.Pg} (h : BM B P w col (pg ++ [p]) mt ns ls []) (hB : B ≤ w.heap.size) : Calls Tryd.prog 41 #[.pointer (some ⟨P, 0, none⟩)] w fun e w' => e = .returned (.tuple #[.int .i64 0, .int .i64 0]) ∧ BmR B P w col (pg ++ [{ p with fin := mt.length }]) mt ns ls [] w' := by
  obtain ⟨pv, mv, lv, ov, nb, h, hl⟩ := h
  have x0 := h.X.cell' 0 pv rfl
  have x1 := h.X.cell' 1 mv rfl
  have x4 := h.X.cell' 4 ov rfl
  obtain ⟨a0, cap0, rfl, k1, k2, kg⟩ := h.G.form
  obtain ⟨g, rfl, g1, g2⟩ := kg (by simp)
  clear kg
  obtain ⟨a1, cap1, rfl, m1, m2, _⟩ := h.M.form
  obtain ⟨a2, cap2, rfl, _, _, _⟩ := h.O.form
  have hP := h.ltP
  have hf := h.setF (g := g) rfl mt.length
  have hlk := hl.keep (w2 := w.setCell ⟨g, pg.length * 3 + 2, none⟩ (.int .i64 (mt.length : Nat))) h.c0 (c := 1) (by decide) (turn_own (h.c1 g rfl) _ _)
  have of := h.G.free (g := g) rfl (pg.length * 3 + 2)
  have oc := h.G.at (g := g) rfl (i := pg.length) (by simp) (j := 2) (u := .int .i64 p.fin) (by simp [pcell])
  simp only [List.length_map, List.length_append, List.length_cons, List.length_nil, Nat.zero_add] at x0 x1 x4 k1 m1 hf hlk oc of
  have R : Hid (BmR B P w col (pg ++ [{ p with fin := mt.length }]) mt ns ls [] (w.setCell ⟨g, pg.length * 3 + 2, none⟩ (.int .i64 (mt.length : Nat)))) := Lib.hid ⟨_, ⟨_, _, _, _, _, hf, hlk⟩, Fc.own h.c0 (by decide) (h.c1 g rfl) _ _, Below.setCell (Below.refl _ _) g1 _⟩
  clear hf hlk h hl
  generalize pg.length = k at *
  generalize mt.length = m at *
  have ek : IntKind.i64.wrap (k : Int) = k := IntWalk.i64_in _ (by omega)
  have e0 : 0 ≤ (k : Int) := by omega
  have e1 : (k : Int) < (k : Int) + 1 := by omega
  go_enter Tryd.func41, Tryd.ntmps41
  go_wp2
  refine wp_region_still_tail 17 (by kernel_rfl) (by kernel_rfl) ?_
  change wpStill _ _ (World.drew _) _ _ _
  simp only [List.take_succ_cons, List.take_zero, List.drop_succ_cons, List.drop_zero]
  repeat still_step
  refine wpStill_nil ?_
  change wpList _ _ _ _ _ (World.drew _)
  go_wp2
  exact bodyPost_ret (v := .tuple #[.int .i64 0, .int .i64 0]) (by simp [results, Tryd.results41, go_sem]) rfl ⟨rfl, R.out.kept (Qw.dr (Qw.refl _)) hB⟩
set_option maxRecDepth 100000 in
set_option maxHeartbeats 4000000 in
theorem lc_endProgN {q : Nat × Int} (h : BM B P w col pg mt ns ls (op ++ [q])) : Calls Tryd.prog 41 #[.pointer (some ⟨P, 0, none⟩)] w fun e w' => e = .returned (.tuple #[.int .i64 q.1, .int .i64 11]) ∧ Qw w w' := by
  obtain ⟨pv, mv, lv, ov, nb, h, hl⟩ := h
  have hi := lc_inner h
  have HI := Lib.hid hi
  have x4 := h.X.cell' 4 ov rfl
  obtain ⟨g, cap, rfl, k1, k2, k3, k4, k5, o0, o1, _⟩ := h.cutO
  have hP := h.ltP
  have e1 : (0 : Int) < (op.length : Int) + 1 := by omega
  have fl := field_loop1 q.2 q.1
  clear h hl hi
  go_enter Tryd.func41, Tryd.ntmps41
  go_wp2_with (go_at_call 59; ((with_reducible refine HI.out.mono ?_); rintro e w' ⟨rfl, qq⟩))
  exact bodyPost_ret (v := .tuple #[.int .i64 q.1, .int .i64 11]) (by simp [results, Tryd.results41, go_sem]) rfl ⟨rfl, qq⟩
theorem info_prog : (Tryd.prog.info? 56).map (fun i => (i.zero, i.size, i.bytes)) = some (some (.agg #[.int .i64 0, .int .i64 0, .int .i64 0]), 3, 24) := by kernel_rfl
theorem info_loop : (Tryd.prog.info? 89).map (fun i => (i.zero, i.size, i.bytes)) = some (some (.agg #[.int .i64 0, .int .i64 0]), 2, 16) := by kernel_rfl
theorem info_int : (Tryd.prog.info? 3).map (fun i => (i.zero, i.size, i.bytes)) = some (some (.int .i64 0), 1, 8) := by kernel_rfl
theorem some_le {B nb : Nat} (h : B ≤ nb) : ∀ j, some nb = some j → B ≤ j := fun j e => by cases e; exact h
theorem le_al (B : Nat) (w : World) (o : Obj) (h : B ≤ w.heap.size) : B ≤ (w.alloc o).heap.size := by simp; omega
theorem bel_own {w w1 : World} {v : Value} (q : Qw w w1) (hB : B ≤ w.heap.size) (hv : ∀ g, v.ownBlock = some g → B ≤ g) {w2 : World} (hg : w1.grownBy w2 v.ownBlock) : Below B w w2 :=
  ⟨hg.os.trans q.os, hg.tape.trans q.tape, hg.output.trans q.output, Nat.le_trans q.size hg.size, fun b hb => (hg.block b (by have := q.size; omega) (fun e => by have := hv b e.symm; omega)).trans (q.block b (by omega))⟩
set_option maxRecDepth 100000 in
set_option maxHeartbeats 4000000 in
theorem lc_begin (h : Bq B P w pg mt ns op pv mv lv ov nb col) (n : Int) (n1 : -9223372036854775808 ≤ n) (n2 : n ≤ 9223372036854775807) (l1 : pg.length ≤ 5000) (l2 : ns.length ≤ 5000) (l3 : mt.length ≤ 5000) (hB : B ≤ w.heap.size) :
    Calls Tryd.prog 56 #[.pointer (some ⟨P, 0, none⟩), .int .i64 n] w fun e w' => e = .returned (.tuple #[]) ∧ BmR B P w col (pg ++ [⟨n, mt.length, 0⟩]) mt (n :: ns) [] op w' := by
  have hmm := @run_makeMap Tryd.prog
  have x0 := h.X.cell' 0 pv rfl
  have x1 := h.X.cell' 1 mv rfl
  have f0 := h.X.free 0
  have hP := h.ltP
  have hPn : P ≠ w.heap.size := by omega
  obtain ⟨a1, cap1, rfl, m1, m2, _⟩ := h.M.form
  simp only [List.length_map] at x1 m1
  have hpv : ∃ a n c, pv = .slice a n c := by obtain ⟨a, c, e, _⟩ := h.G.form; exact ⟨a, _, c, e⟩
  have HH := Lib.hid h
  clear h
  obtain ⟨S, hS⟩ : ∃ S : World → Prop, ∀ w', S w' ↔ (w'.cell? ⟨P, 0, none⟩ = some pv ∧ w'.cell? ⟨P, 1, none⟩ = some (.slice a1 mt.length cap1)) := ⟨_, fun _ => Iff.rfl⟩
  have HS := Lib.hid hS
  clear hS
  go_enter Tryd.func56, Tryd.ntmps56
  go_wp2
  refine wp_region_M S 16 (by kernel_rfl) ?_
  have hSS : S (World.drew w) := (HS.out _).2 ⟨x0, x1⟩
  refine wpAnyM_take (i := 0) (v := ?_) rfl (by kernel_rfl) (fun _ _ _ h => h) (Or.inl ⟨by rfl, ?_⟩) hSS ?_
  rotate_left 1
  · intro wS hwS
    go_simp
    try with_reducible rfl
  simp only [List.getElem_toArray, List.getElem_cons_succ, List.getElem_cons_zero, Act.put, List.setIfInBounds_toArray, List.set_cons_zero, List.set_cons_succ]
  refine wpAnyM_take (i := 1) (v := ?_) rfl (by kernel_rfl) (fun _ _ _ h => h) (Or.inl ⟨by rfl, ?_⟩) hSS ?_
  rotate_left 1
  · intro wS hwS
    go_simp
    try with_reducible rfl
  simp only [List.getElem_toArray, List.getElem_cons_succ, List.getElem_cons_zero, Act.put, List.setIfInBounds_toArray, List.set_cons_zero, List.set_cons_succ]
  refine wpAnyM_take (i := 2) (v := ?_) rfl (by kernel_rfl) (fun _ _ _ h => h) (Or.inl ⟨by rfl, ?_⟩) hSS ?_
  rotate_left 1
  · intro wS hwS
    go_simp
    try with_reducible rfl
  simp only [List.getElem_toArray, List.getElem_cons_succ, List.getElem_cons_zero, Act.put, List.setIfInBounds_toArray, List.set_cons_zero, List.set_cons_succ]
  refine wpAnyM_take (i := 3) (v := ?_) rfl (by kernel_rfl) (fun _ _ _ h => h) (Or.inl ⟨by rfl, ?_⟩) hSS ?_
  rotate_left 1
  · intro wS hwS
    go_simp
    try with_reducible rfl
  simp only [List.getElem_toArray, List.getElem_cons_succ, List.getElem_cons_zero, Act.put, List.setIfInBounds_toArray, List.set_cons_zero, List.set_cons_succ]
  refine wpAnyM_take (i := 4) (v := ?_) rfl (by kernel_rfl) (fun _ _ _ h => h) (Or.inl ⟨by rfl, ?_⟩) hSS ?_
  rotate_left 1
  · intro wS hwS
    obtain ⟨c0, c1⟩ := (HS.out wS).1 hwS; go_simp
    try with_reducible rfl
  simp only [List.getElem_toArray, List.getElem_cons_succ, List.getElem_cons_zero, Act.put, List.setIfInBounds_toArray, List.set_cons_zero, List.set_cons_succ]
  refine wpAnyM_take (i := 5) (v := ?_) rfl (by kernel_rfl) (fun _ _ _ h => h) (Or.inl ⟨by rfl, ?_⟩) hSS ?_
  rotate_left 1
  · intro wS hwS
    go_simp
    try with_reducible rfl
  simp only [List.getElem_toArray, List.getElem_cons_succ, List.getElem_cons_zero, Act.put, List.setIfInBounds_toArray, List.set_cons_zero, List.set_cons_succ]
  refine wpAnyM_take (i := 6) (v := ?_) rfl (by kernel_rfl) (fun _ _ _ h => h) (Or.inl ⟨by rfl, ?_⟩) hSS ?_
  rotate_left 1
  · intro wS hwS
    go_simp
    try with_reducible rfl
  simp only [List.getElem_toArray, List.getElem_cons_succ, List.getElem_cons_zero, Act.put, List.setIfInBounds_toArray, List.set_cons_zero, List.set_cons_succ]
  refine wpAnyM_take (i := 7) (v := ?_) rfl (by kernel_rfl) (fun _ _ _ h => h) (Or.inl ⟨by rfl, ?_⟩) hSS ?_
  rotate_left 1
  · intro wS hwS
    go_simp
    try with_reducible rfl
  simp only [List.getElem_toArray, List.getElem_cons_succ, List.getElem_cons_zero, Act.put, List.setIfInBounds_toArray, List.set_cons_zero, List.set_cons_succ]
  refine wpAnyM_take (i := 8) (v := ?_) rfl (by kernel_rfl) (fun _ _ _ h => h) (Or.inl ⟨by rfl, ?_⟩) hSS ?_
  rotate_left 1
  · intro wS hwS
    go_simp
    try with_reducible rfl
  simp only [List.getElem_toArray, List.getElem_cons_succ, List.getElem_cons_zero, Act.put, List.setIfInBounds_toArray, List.set_cons_zero, List.set_cons_succ]
  refine wpAnyM_take (i := 9) (v := ?_) rfl (by kernel_rfl) (fun _ _ _ h => h) (Or.inl ⟨by rfl, ?_⟩) hSS ?_
  rotate_left 1
  · intro wS hwS
    obtain ⟨c0, c1⟩ := (HS.out wS).1 hwS; go_simp
    try with_reducible rfl
  simp only [List.getElem_toArray, List.getElem_cons_succ, List.getElem_cons_zero, Act.put, List.setIfInBounds_toArray, List.set_cons_zero, List.set_cons_succ]
  refine wpAnyM_take (i := 10) (v := ?_) rfl (by kernel_rfl) (fun _ _ _ h => h) (Or.inl ⟨by rfl, ?_⟩) hSS ?_
  rotate_left 1
  · intro wS hwS
    go_simp
    try with_reducible rfl
  simp only [List.getElem_toArray, List.getElem_cons_succ, List.getElem_cons_zero, Act.put, List.setIfInBounds_toArray, List.set_cons_zero, List.set_cons_succ]
  refine wpAnyM_take (i := 11) (v := ?_) rfl (by kernel_rfl) (fun _ _ _ h => h) (Or.inl ⟨by rfl, ?_⟩) hSS ?_
  rotate_left 1
  · intro wS hwS
    go_simp
    try with_reducible rfl
  simp only [List.getElem_toArray, List.getElem_cons_succ, List.getElem_cons_zero, Act.put, List.setIfInBounds_toArray, List.set_cons_zero, List.set_cons_succ]
  refine wpAnyM_one (i := 12) rfl (by kernel_rfl) rfl (fun K hK => ?_)
  go_simp
  refine hK _ _ (fun _ => (HS.out _).2 ⟨?_, ?_⟩) ?_
  · go_simp
  · go_simp
  clear hK K hSS
  have q1 : Qw w (w.alloc (.cells #[.int .i64 n, .int .i64 (mt.length : Nat), .int .i64 0] 56)).drew := Qw.dr (Qw.al (Qw.refl w) _)
  have H1 := HH.out.kept q1
  have B1 : Bx (w.alloc (.cells #[.int .i64 n, .int .i64 (mt.length : Nat), .int .i64 0] 56)).drew w.heap.size (pcell ⟨n, mt.length, 0⟩).toArray 56 := Bx.new w _ _
  obtain ⟨pv', w2, hr, ho, hg, hn⟩ := g_append (ty := 39) 56 39 3 24 _ _ w.heap.size info_prog Tryd.underlying39 rfl (by decide) (by decide) B1 rfl (by intro u hu; simp [pcell] at hu; rcases hu with rfl | rfl | rfl <;> rfl) H1.G (by rw [List.length_map]; omega) (le_al B w _ hB)
  have bel2 := bel_own q1 hB (fun g hg => (HH.out.G.lt hg).1) hg
  have H2 := H1.newG (pg' := pg ++ [⟨n, mt.length, 0⟩]) (by rw [List.map_append]; exact ho) hg hn
  have X2 := H1.px1 (by decide) H1.c1 hg
  have y0 := X2.cell' 0 pv rfl
  have y1 := X2.free 0
  have e2 : S w2 := (HS.out _).2 ⟨y0, by have := X2.cell' 1 _ rfl; simpa using this⟩
  refine wpAnyM_one (i := 13) rfl (by kernel_rfl) rfl (fun K hK => ?_)
  obtain ⟨pa, pn, pc, rfl⟩ := hpv
  refine Lib.wp_append_run _ (.tmp 8) (.tmp 16) 39 39 rfl _ _ (by rfl) (by rfl) pv' w2 hr ?_
  refine hK _ _ (fun _ => e2) ?_
  clear hK K
  have hSS := e2
  refine wpAnyM_take (i := 14) (v := ?_) rfl (by kernel_rfl) (fun _ _ _ h => h) (Or.inl ⟨by rfl, ?_⟩) hSS ?_
  rotate_left 1
  · intro wS hwS
    go_simp
    try with_reducible rfl
  simp only [List.getElem_toArray, List.getElem_cons_succ, List.getElem_cons_zero, Act.put, List.setIfInBounds_toArray, List.set_cons_zero, List.set_cons_succ]
  refine wpAnyM_take (i := 15) (v := ?_) rfl (by kernel_rfl) (fun _ _ _ h => h) (Or.inl ⟨by rfl, ?_⟩) hSS ?_
  rotate_left 1
  · intro wS hwS
    go_simp
    try with_reducible rfl
  simp only [List.getElem_toArray, List.getElem_cons_succ, List.getElem_cons_zero, Act.put, List.setIfInBounds_toArray, List.set_cons_zero, List.set_cons_succ]
  refine wpAnyM_one (i := 16) rfl (by kernel_rfl) rfl (fun K hK => ?_)
  obtain ⟨pa', pc', rfl, _⟩ := ho.form
  go_simp
  refine hK _ _ (fun h => absurd h (by decide)) ?_
  clear hK K hSS e2
  refine wpAnyM_done (by kernel_rfl) ?_ _
  have F2 := (Fc.of (col := col) q1).trans (Fc.grown H1.c0 (by decide) H1.c1 hg 0 (.slice pa' (List.map pcell pg ++ [pcell ⟨n, mt.length, 0⟩]).length pc'))
  have bel3 := Below.setCell (p := ⟨P, 0, none⟩) bel2 H2.hP (.slice pa' (List.map pcell pg ++ [pcell ⟨n, mt.length, 0⟩]).length pc')
  have hlen : (List.map pcell pg ++ [pcell ⟨n, mt.length, 0⟩]).length = pg.length + 1 := by simp
  rw [hlen] at H2 bel3 F2
  generalize w2.setCell ⟨P, 0, none⟩ (.slice pa' (pg.length + 1) pc') = w3 at *
  clear y0 y1 X2 H1 B1 q1 hg hn ho hr HS x0 x1 f0 HH
  clear bel2
  have z2 := H2.X.cell' 2 (.map (some nb)) rfl
  have hb3 : B ≤ w3.heap.size := Nat.le_trans hB bel3.size
  go_wp2_with (at_mapUpdate; refine set_put (by rfl) _ _ _ (by rfl) (by rfl) n (by rfl) (by rfl) H2.N n1 n2 (by omega) ?_; intro w4 hN hg4; have H4 := H2.newN hN hg4; have F4 := F2.trans (Fc.one H2.c0 (by decide) H2.c3 hg4); have z3 := H4.X.cell' 3 lv rfl; have f3 := H4.X.free 3; have hP4 := H4.ltP; have hPn4 := Nat.ne_of_lt hP4; have bel4 := bel3.grown hg4 hb3 (some_le H2.hn))
  have fin := H4.freeL (by have := bel4.size; omega)
  have bel5 : Below B w ((w4.alloc (.map #[] 0)).setCell ⟨P, 3, none⟩ (.map (some w4.heap.size))) := Below.setCell (Below.alloc bel4 (by have := bel4.size; omega) _) H4.hP _
  have F5 := F4.trans (Fc.free H4.c0 (.map (some w4.heap.size)))
  rw [World.setCell_alloc_past _ _ _ _ hP4] at fin bel5 F5
  exact bodyPost_end (v := .tuple #[]) (by simp [results, Tryd.results56, go_sem]) rfl ⟨rfl, _, ⟨_, _, _, _, _, fin.1, fin.2⟩, F5, bel5⟩
end
end Go.Proofs.YtfijmdaeaahodaaDoor

