import Derived.Test.YtlgdjbabbfdngaaDoorZSP0
import Derived.Test.YtlgdjbabbfdngaaDoorZSP1
set_option linter.unusedVariables false
set_option linter.unusedSimpArgs false
namespace Go.Proofs.YtlgdjbabbfdngaaDoor
namespace Lb
open Sy
structure Pg where
  num : Int
  first : Nat
  fin : Nat
structure St where
  i : Nat
  op : List (Nat × Int)
  pg : List Pg
  lab : List Int
  mate : List Int
def st0 : St := ⟨0, [], [⟨0, 0, 0⟩], [], []⟩
inductive Rs where
  | bad (at_ : Nat) (err : Int)
  | ok (s : St)
def pgS (b : Bl) (s : St) : Rs :=
  if b.kind = 6 then
    match s.op with
    | (j, _) :: _ => .bad j 11
    | [] => if s.pg.any (fun p => p.num == b.n) = true then .bad s.i 7 else .ok { s with pg := s.pg ++ [⟨b.n, s.i, s.i⟩], lab := [] }
  else .ok s
def labS (b : Bl) (s : St) : Rs :=
  if 0 < b.label then (if s.lab.contains b.label = true then .bad s.i 7 else .ok { s with lab := b.label :: s.lab }) else .ok s
def more (i : Nat) : List Pg → List Pg
  | [] => []
  | [p] => [{ p with fin := i + 1 }]
  | p :: l => p :: more i l
def loopS (b : Bl) (s : St) : Rs :=
  if b.kind = 4 then (if s.op.any (fun p => p.2 == b.n) = true then .bad s.i 11 else .ok { s with i := s.i + 1, op := (s.i, b.n) :: s.op, mate := s.mate ++ [-1] })
  else if b.kind = 5 then
    match s.op with
    | [] => .bad s.i 11
    | (j, n) :: r => if n = b.n then .ok { s with i := s.i + 1, op := r, mate := (s.mate ++ [(j : Int)]).set j s.i } else .bad s.i 11
  else .ok { s with i := s.i + 1, mate := s.mate ++ [-1] }
def stepS (b : Bl) (s : St) : Rs := match pgS b s with
  | .bad j e => .bad j e
  | .ok s => match labS b s with
    | .bad j e => .bad j e
    | .ok s => loopS b { s with pg := more s.i s.pg }
def run : List Bl → St → Rs
  | [], s => .ok s
  | b :: l, s => match stepS b s with
    | .bad j e => .bad j e
    | .ok s => run l s
def fin : Rs → Rs
  | .bad j e => .bad j e
  | .ok s => match s.op with
    | (j, _) :: _ => .bad j 11
    | [] => .ok s
def inv : List Bl → Nat → Option Nat
  | [], _ => none
  | b :: l, i => if vldb b = true then inv l (i + 1) else some i
def build (l : List Bl) : Rs :=
  if 2000 < l.length then .bad 0 10 else match inv l 0 with
    | some i => .bad i 1
    | none => fin (run l st0)
theorem run_app (l r : List Bl) : ∀ s, run (l ++ r) s = match run l s with
    | .bad j e => .bad j e
    | .ok s => run r s := by
  induction l with
  | nil => intro s; rfl
  | cons b l ih =>
    intro s
    show (match stepS b s with | .bad j e => Rs.bad j e | .ok s => run (l ++ r) s) = match (match stepS b s with | .bad j e => Rs.bad j e | .ok s => run l s) with | .bad j e => .bad j e | .ok s => run r s
    cases stepS b s with
    | bad j e => rfl
    | ok s => exact ih s
theorem run_one {l : List Bl} {s0 s s' : St} {b : Bl} (h : run l s0 = .ok s) (k : stepS b s = .ok s') : run (l ++ [b]) s0 = .ok s' := by
  rw [run_app, h]
  show (match stepS b s with | .bad j e => Rs.bad j e | .ok s => run [] s) = _
  rw [k]; rfl
theorem inv_none {l : List Bl} (h : ∀ b ∈ l, vldb b = true) : ∀ i, inv l i = none := by
  induction l with
  | nil => intro i; rfl
  | cons b l ih =>
    intro i
    unfold inv
    rw [if_pos (h b (List.mem_cons_self ..))]
    exact ih (fun c hc => h c (List.mem_cons_of_mem _ hc)) _
theorem more_nums (i : Nat) : ∀ l : List Pg, (more i l).map (·.num) = l.map (·.num)
  | [] => rfl
  | [p] => rfl
  | p :: q :: l => by
    show p.num :: (more i (q :: l)).map (·.num) = _
    rw [more_nums i (q :: l)]; rfl
theorem more_any (i : Nat) (n : Int) : ∀ l : List Pg, (more i l).any (fun p => p.num == n) = l.any (fun p => p.num == n)
  | [] => rfl
  | [p] => rfl
  | p :: q :: l => by
    show (p.num == n || (more i (q :: l)).any (fun p => p.num == n)) = _
    rw [more_any i n (q :: l)]; rfl
def down : Nat → List Int
  | 0 => []
  | k + 1 => ((k + 1 : Nat) : Int) :: down k
theorem down_le : ∀ (k : Nat), ∀ n ∈ down k, 1 ≤ n ∧ n ≤ k
  | 0, _, h => by cases h
  | k + 1, n, h => by
    rcases List.mem_cons.1 h with rfl | h
    · exact ⟨by omega, Int.le_refl _⟩
    · have := down_le k n h; omega
def nums (k : Nat) : List Int := (List.range k).map (fun i : Nat => (i : Int))
theorem nums_succ (k : Nat) : nums (k + 1) = nums k ++ [(k : Int)] := by unfold nums; rw [List.range_succ, List.map_append]; rfl
def lay : Nat → List Pg → Nat → Prop
  | a, [], z => a = z
  | a, p :: l, z => p.first = a ∧ a ≤ p.fin ∧ lay p.fin l z
theorem lay_more : ∀ {l : List Pg} {a z : Nat}, l ≠ [] → lay a l z → lay a (more z l) (z + 1)
  | [], _, _, h, _ => absurd rfl h
  | [p], a, z, _, h => by
    obtain ⟨h1, h2, h3⟩ := h
    have : p.fin = z := h3
    exact ⟨h1, by show a ≤ z + 1; omega, rfl⟩
  | p :: q :: l, a, z, _, h => ⟨h.1, h.2.1, lay_more (by simp) h.2.2⟩
theorem lay_app {q : Pg} : ∀ {l : List Pg} {a z : Nat}, lay a l z → q.first = z → q.fin = z → lay a (l ++ [q]) z
  | [], a, z, h, h1, h2 => by have h' : a = z := h; subst h'; exact ⟨h1, by rw [h2]; exact Nat.le_refl _, h2⟩
  | p :: l, a, z, h, h1, h2 => ⟨h.1, h.2.1, lay_app h.2.2 h1 h2⟩
def Inc (l : List Bl) : Prop := l.Pairwise (fun a b => a.label ≠ 0 → b.label ≠ 0 → a.label < b.label)
theorem inc_app {l : List Bl} {b : Bl} {lab : Int} (h : Inc l) (hl : ∀ c ∈ l, c.label ≤ lab) (hb : b.label = 0 ∨ b.label = lab + 1) : Inc (l ++ [b]) := by
  unfold Inc
  rw [List.pairwise_append]
  refine ⟨h, List.pairwise_singleton _ _, fun a ha c hc h1 h2 => ?_⟩
  rw [List.mem_singleton.1 hc] at h2 ⊢
  have := hl a ha
  omega
theorem lb_app {l : List Bl} {b : Bl} {lab : Int} (hl : ∀ c ∈ l, c.label ≤ lab) (hb : b.label = 0 ∨ b.label = lab + 1) (h0 : 0 ≤ lab) : ∀ c ∈ l ++ [b], c.label ≤ lab + 1 := fun c hc => by
  rcases List.mem_append.1 hc with hc | hc
  · have := hl c hc; omega
  · rw [List.mem_singleton.1 hc]; omega
structure Fl (p : Nat) (lab : Int) (k : Nat) (l : List Bl) (s : St) : Prop where
  run : run l st0 = .ok s
  op : s.op.map (·.2) = down k
  pg : ∀ q ∈ s.pg, 0 ≤ q.num ∧ q.num ≤ p
  lo : ∀ x ∈ s.lab, x ≤ lab
  vld : ∀ b ∈ l, vldb b = true
  nm : s.pg.map (·.num) = nums (p + 1)
  ly : lay 0 s.pg s.i
  lb : ∀ b ∈ l, b.label ≤ lab
  inc : Inc l
theorem Fl.ne {p : Nat} {lab : Int} {k : Nat} {l : List Bl} {s : St} (h : Fl p lab k l s) : s.pg ≠ [] := fun e => by
  have := h.nm
  rw [e, nums_succ] at this
  simp at this
theorem Fl.start : Fl 0 0 0 [] st0 := ⟨rfl, rfl, by intro q hq; simp [st0] at hq; subst hq; exact ⟨by decide, by decide⟩, by simp [st0], by simp, rfl, ⟨rfl, Nat.le_refl _, rfl⟩, by simp, List.Pairwise.nil⟩
theorem Fl.skip {p : Nat} {lab lab' : Int} {k : Nat} {l : List Bl} {s : St} (h : Fl p lab k l s) (hl : lab ≤ lab') : Fl p lab' k l s := ⟨h.run, h.op, h.pg, fun x hx => by have := h.lo x hx; omega, h.vld, h.nm, h.ly, fun b hb => by have := h.lb b hb; omega, h.inc⟩
theorem more_mem {i : Nat} {p : Nat} : ∀ {l : List Pg}, (∀ q ∈ l, 0 ≤ q.num ∧ q.num ≤ p) → ∀ q ∈ more i l, 0 ≤ q.num ∧ q.num ≤ p := fun {l} h q hq => by
  have : q.num ∈ (more i l).map (·.num) := List.mem_map.2 ⟨q, hq, rfl⟩
  rw [more_nums] at this
  obtain ⟨r, hr, e⟩ := List.mem_map.1 this
  rw [← e]; exact h r hr
theorem labS_new {b : Bl} {s : St} {lab : Int} (h : ∀ x ∈ s.lab, x ≤ lab) (hb : b.label = 0 ∨ b.label = lab + 1) (h0 : 0 ≤ lab) : ∃ s', labS b s = .ok s' ∧ s'.i = s.i ∧ s'.op = s.op ∧ s'.pg = s.pg ∧ s'.mate = s.mate ∧ ∀ x ∈ s'.lab, x ≤ lab + 1 := by
  unfold labS
  rcases hb with hb | hb
  · rw [if_neg (by omega)]
    exact ⟨s, rfl, rfl, rfl, rfl, rfl, fun x hx => by have := h x hx; omega⟩
  · rw [if_pos (by omega), if_neg]
    · exact ⟨_, rfl, rfl, rfl, rfl, rfl, fun x hx => by
        rcases List.mem_cons.1 hx with rfl | hx
        · omega
        · have := h x hx; omega⟩
    · intro hc
      have := h _ (by simpa using hc)
      omega
theorem vld_app {l : List Bl} {b : Bl} (h : ∀ c ∈ l, vldb c = true) (hb : vldb b = true) : ∀ c ∈ l ++ [b], vldb c = true := fun c hc => by
  rcases List.mem_append.1 hc with hc | hc
  · exact h c hc
  · rw [List.mem_singleton.1 hc]; exact hb
theorem Fl.plain {p : Nat} {lab : Int} {k : Nat} {l : List Bl} {s : St} (h : Fl p lab k l s) {b : Bl} (hk : b.kind ≠ 4 ∧ b.kind ≠ 5 ∧ b.kind ≠ 6) (hb : b.label = 0 ∨ b.label = lab + 1) (h0 : 0 ≤ lab) (hv : vldb b = true) : ∃ s', Fl p (lab + 1) k (l ++ [b]) s' := by
  obtain ⟨s1, e1, f1, f2, f3, f4, f5⟩ := labS_new h.lo hb h0
  refine ⟨_, ⟨run_one h.run (s' := { s1 with pg := more s1.i s1.pg, i := s1.i + 1, mate := s1.mate ++ [-1] }) ?_, by show s1.op.map _ = _; rw [f2]; exact h.op, ?_, f5, vld_app h.vld hv, by show (more s1.i s1.pg).map _ = _; rw [more_nums, f3]; exact h.nm, by show lay 0 (more s1.i s1.pg) (s1.i + 1); rw [f3, f1]; exact lay_more h.ne h.ly, lb_app h.lb hb h0, inc_app h.inc h.lb hb⟩⟩
  · unfold stepS pgS
    rw [if_neg hk.2.2]
    simp only
    rw [e1]
    simp only
    unfold loopS
    rw [if_neg hk.1, if_neg hk.2.1]
  · show ∀ q ∈ more s1.i s1.pg, _
    rw [f3]; exact more_mem h.pg
theorem Fl.while_ {p : Nat} {lab : Int} {k : Nat} {l : List Bl} {s : St} (h : Fl p lab k l s) {b : Bl} (hk : b.kind = 4) (hn : b.n = (k : Int) + 1) (hb : b.label = 0 ∨ b.label = lab + 1) (h0 : 0 ≤ lab) (hv : vldb b = true) : ∃ s', Fl p (lab + 1) (k + 1) (l ++ [b]) s' := by
  obtain ⟨s1, e1, f1, f2, f3, f4, f5⟩ := labS_new h.lo hb h0
  have hop : s1.op.any (fun q => q.2 == b.n) = false := by
    rw [f2, List.any_eq_false]
    intro q hq hc
    have m : q.2 ∈ down k := by rw [← h.op]; exact List.mem_map.2 ⟨q, hq, rfl⟩
    have := down_le k _ m
    have e : q.2 = b.n := by simpa using hc
    omega
  refine ⟨_, ⟨run_one h.run (s' := { s1 with pg := more s1.i s1.pg, i := s1.i + 1, op := (s1.i, b.n) :: s1.op, mate := s1.mate ++ [-1] }) ?_, ?_, ?_, f5, vld_app h.vld hv, by show (more s1.i s1.pg).map _ = _; rw [more_nums, f3]; exact h.nm, by show lay 0 (more s1.i s1.pg) (s1.i + 1); rw [f3, f1]; exact lay_more h.ne h.ly, lb_app h.lb hb h0, inc_app h.inc h.lb hb⟩⟩
  · unfold stepS pgS
    rw [if_neg (by omega)]
    simp only
    rw [e1]
    simp only
    unfold loopS
    rw [if_pos hk, if_neg (by show ¬ s1.op.any _ = true; rw [hop]; decide)]
  · show b.n :: s1.op.map _ = _
    rw [f2, h.op, hn]
    show _ = ((k + 1 : Nat) : Int) :: down k
    rw [show ((k + 1 : Nat) : Int) = (k : Int) + 1 by omega]
  · show ∀ q ∈ more s1.i s1.pg, _
    rw [f3]; exact more_mem h.pg
theorem Fl.end_ {p : Nat} {lab : Int} {k : Nat} {l : List Bl} {s : St} (h : Fl p lab (k + 1) l s) {b : Bl} (hk : b.kind = 5) (hn : b.n = (k : Int) + 1) (hb : b.label = 0 ∨ b.label = lab + 1) (h0 : 0 ≤ lab) (hv : vldb b = true) : ∃ s', Fl p (lab + 1) k (l ++ [b]) s' := by
  obtain ⟨s1, e1, f1, f2, f3, f4, f5⟩ := labS_new h.lo hb h0
  have hop := h.op
  rw [← f2] at hop
  cases hs : s1.op with
  | nil => rw [hs] at hop; cases hop
  | cons q r =>
    obtain ⟨j, m⟩ := q
    rw [hs] at hop
    have hop' : m :: r.map (·.2) = ((k + 1 : Nat) : Int) :: down k := hop
    obtain ⟨hm, hr⟩ := List.cons.inj hop'
    refine ⟨_, ⟨run_one h.run (s' := { s1 with pg := more s1.i s1.pg, i := s1.i + 1, op := r, mate := (s1.mate ++ [(j : Int)]).set j s1.i }) ?_, hr, ?_, f5, vld_app h.vld hv, by show (more s1.i s1.pg).map _ = _; rw [more_nums, f3]; exact h.nm, by show lay 0 (more s1.i s1.pg) (s1.i + 1); rw [f3, f1]; exact lay_more h.ne h.ly, lb_app h.lb hb h0, inc_app h.inc h.lb hb⟩⟩
    · unfold stepS pgS
      rw [if_neg (by omega)]
      simp only
      rw [e1]
      simp only
      unfold loopS
      rw [if_neg (by omega), if_pos hk]
      simp only [hs]
      rw [if_pos (by omega)]
    · show ∀ q ∈ more s1.i s1.pg, _
      rw [f3]; exact more_mem h.pg
theorem Fl.prog {p : Nat} {lab : Int} {l : List Bl} {s : St} (h : Fl p lab 0 l s) {b : Bl} (hk : b.kind = 6) (hn : b.n = (p : Int) + 1) (hb : b.label = 0) (hv : vldb b = true) (h0 : 0 ≤ lab) : ∃ s', Fl (p + 1) lab 0 (l ++ [b]) s' := by
  have hop : s.op = [] := by
    have := h.op
    exact List.map_eq_nil_iff.1 this
  have hpg : s.pg.any (fun q => q.num == b.n) = false := by
    rw [List.any_eq_false]
    intro q hq hc
    have := h.pg q hq
    have e : q.num = b.n := by simpa using hc
    omega
  refine ⟨_, ⟨run_one h.run (s' := { s with pg := more s.i (s.pg ++ [⟨b.n, s.i, s.i⟩]), lab := [], i := s.i + 1, mate := s.mate ++ [-1] }) ?_, ?_, ?_, (by intro x hx; cases hx), vld_app h.vld hv, by show (more s.i (s.pg ++ [⟨b.n, s.i, s.i⟩])).map _ = _; rw [more_nums, List.map_append, h.nm, nums_succ (p + 1)]; congr 1; show [b.n] = _; rw [hn, show ((p + 1 : Nat) : Int) = (p : Int) + 1 by omega], lay_more (by simp) (lay_app h.ly rfl rfl), fun c hc => by
    rcases List.mem_append.1 hc with hc | hc
    · exact h.lb c hc
    · rw [List.mem_singleton.1 hc]; omega, inc_app h.inc h.lb (.inl hb)⟩⟩
  · unfold stepS pgS
    rw [if_pos hk]
    simp only [hop]
    rw [if_neg (by rw [hpg]; decide)]
    simp only
    unfold labS
    rw [if_neg (by omega)]
    simp only
    unfold loopS
    rw [if_neg (by omega), if_neg (by omega)]
  · show s.op.map _ = _
    rw [hop]; rfl
  · refine more_mem (fun q hq => ?_)
    rcases List.mem_append.1 hq with hq | hq
    · have := h.pg q hq; omega
    · rw [List.mem_singleton.1 hq]
      exact ⟨by show 0 ≤ b.n; omega, by show b.n ≤ _; omega⟩
theorem Fl.build {p : Nat} {lab : Int} {l : List Bl} {s : St} (h : Fl p lab 0 l s) (hl : l.length ≤ 2000) : build l = .ok s := by
  have hop : s.op = [] := List.map_eq_nil_iff.1 h.op
  unfold Lb.build
  rw [if_neg (by omega), inv_none h.vld, h.run]
  unfold fin
  simp only [hop]
end Lb
end Go.Proofs.YtlgdjbabbfdngaaDoor
set_option linter.unusedVariables false
set_option linter.unusedSimpArgs false
namespace Go.Proofs.YtlgdjbabbfdngaaDoor
open Go.RowKit
def pcell (p : Lb.Pg) : List Value := [.int .i64 p.num, .int .i64 p.first, .int .i64 p.fin]
def lcell (q : Nat × Int) : List Value := [.int .i64 q.2, .int .i64 q.1]
def icell (n : Int) : List Value := [.int .i64 n]
def colN (w : World) (col : Nat → Nat) (c : Nat) (b : Nat) : Nat := if b < w.heap.size then col b else c
structure Bq (B P : Nat) (w : World) (pg : List Lb.Pg) (mt ns : List Int) (op : List (Nat × Int)) (pv mv lv ov : Value) (nb : Nat) (col : Nat → Nat) : Prop where
  X : Bx w P #[pv, mv, .map (some nb), lv, ov] 73
  G : OwnG B w 76 3 pv (pg.map pcell)
  M : OwnG B w 3 1 mv (mt.map icell)
  O : OwnG B w 88 2 ov (op.map lcell)
  N : SetM w nb ns
  hP : B ≤ P
  hn : B ≤ nb
  c0 : col P = 0
  c1 : ∀ g, pv.ownBlock = some g → col g = 1
  c2 : ∀ g, mv.ownBlock = some g → col g = 2
  c3 : col nb = 3
  c5 : ∀ g, ov.ownBlock = some g → col g = 5
def LbM (B : Nat) (w : World) (lv : Value) (ls : List Int) (col : Nat → Nat) : Prop := ∃ lb, lv = .map (some lb) ∧ SetM w lb ls ∧ B ≤ lb ∧ col lb = 4
section
variable {B P : Nat} {w w1 w2 : World} {pg : List Lb.Pg} {mt ns ls : List Int} {op : List (Nat × Int)} {pv mv lv ov : Value} {nb : Nat} {col : Nat → Nat}
theorem colN_old {b c : Nat} (h : b < w.heap.size) : colN w col c b = col b := by unfold colN; rw [if_pos h]
theorem colN_new {b c : Nat} (h : w.heap.size ≤ b) : colN w col c b = c := by unfold colN; rw [if_neg (by omega)]
theorem OwnG.keep {T : TypeId} {z : Nat} {v : Value} {xs : List (List Value)} (h : OwnG B w T z v xs) {k c p : Nat} (hc : ∀ g, v.ownBlock = some g → col g = k) (hp : col p = 0) (h0 : k ≠ 0) (hk : k ≠ c)
    (ht : ∀ b, b < w.heap.size → col b ≠ c → b ≠ p → w2.heap[b]? = w.heap[b]?) : OwnG B w2 T z v xs := h.go fun g hg hl => ht g hl (by rw [hc g hg]; exact hk) (fun e => by have := hc g hg; rw [e, hp] at this; exact h0 this.symm)
theorem SetM.keep {b : Nat} {L : List Int} (h : SetM w b L) {k c p : Nat} (hc : col b = k) (hp : col p = 0) (h0 : k ≠ 0) (hk : k ≠ c)
    (ht : ∀ b, b < w.heap.size → col b ≠ c → b ≠ p → w2.heap[b]? = w.heap[b]?) : SetM w2 b L := h.go (ht b h.lt (by rw [hc]; exact hk) (fun e => by rw [e, hp] at hc; exact h0 hc.symm))
theorem OwnG.colS {T : TypeId} {z : Nat} {v : Value} {xs : List (List Value)} (h : OwnG B w T z v xs) {k : Nat} (c : Nat) (hc : ∀ g, v.ownBlock = some g → col g = k) : ∀ g, v.ownBlock = some g → colN w col c g = k := fun g hg => by rw [colN_old (h.lt hg).2]; exact hc g hg
theorem near_col {v v' : Value} {c : Nat} (hlt : ∀ g, v.ownBlock = some g → g < w.heap.size) (hc : ∀ g, v.ownBlock = some g → col g = c) (hn : ∀ g, v'.ownBlock = some g → v.ownBlock = some g ∨ w.heap.size ≤ g) : ∀ g, v'.ownBlock = some g → colN w col c g = c := fun g hg => by
  rcases hn g hg with k | k
  · rw [colN_old (hlt g k)]; exact hc g k
  · exact colN_new k
theorem turn_set {c p : Nat} {v : Value} (hc : ∀ g, v.ownBlock = some g → col g = c) (hg : w.grownBy w1 v.ownBlock) (i : Nat) (u : Value) : ∀ b, b < w.heap.size → col b ≠ c → b ≠ p → (w1.setCell ⟨p, i, none⟩ u).heap[b]? = w.heap[b]? := fun b hb hne hp =>
  (Below.heap_setCell w1 ⟨p, i, none⟩ u b hp).trans (hg.block b hb (fun e => hne (hc b e.symm)))
theorem turn_own {c p : Nat} {g : Nat} (hc : col g = c) (i : Nat) (u : Value) : ∀ b, b < w.heap.size → col b ≠ c → b ≠ p → (w.setCell ⟨g, i, none⟩ u).heap[b]? = w.heap[b]? := fun b hb hne _ =>
  Below.heap_setCell w ⟨g, i, none⟩ u b (fun e => hne (by rw [e]; exact hc))
def Fc (w w' : World) (col col' : Nat → Nat) : Prop := w.heap.size ≤ w'.heap.size ∧ ∀ K, K < w.heap.size → col' K = col K ∧ (5 < col K → w'.heap[K]? = w.heap[K]?)
theorem Fc.trans {a b c : World} {k1 k2 k3 : Nat → Nat} (h : Fc a b k1 k2) (g : Fc b c k2 k3) : Fc a c k1 k3 := ⟨Nat.le_trans h.1 g.1, fun K hK => by
  obtain ⟨e1, e2⟩ := h.2 K hK
  obtain ⟨f1, f2⟩ := g.2 K (by have := h.1; omega)
  exact ⟨f1.trans e1, fun h5 => (f2 (by rw [e1]; exact h5)).trans (e2 h5)⟩⟩
theorem Fc.of {w w' : World} {col : Nat → Nat} (q : Qw w w') : Fc w w' col col := ⟨q.size, fun K hK => ⟨rfl, fun _ => q.block K hK⟩⟩
theorem Fc.turn {c p : Nat} (hs : w.heap.size ≤ w2.heap.size) (hc : c ≤ 5) (hp : col p = 0) (ht : ∀ b, b < w.heap.size → col b ≠ c → b ≠ p → w2.heap[b]? = w.heap[b]?) : Fc w w2 col (colN w col c) :=
  ⟨hs, fun K hK => ⟨colN_old hK, fun h5 => ht K hK (by omega) (fun e => by rw [e, hp] at h5; omega)⟩⟩
theorem Fc.grown {c : Nat} {v : Value} {p : Nat} (hp : col p = 0) (hc5 : c ≤ 5) (hc : ∀ g, v.ownBlock = some g → col g = c) (hg : w.grownBy w1 v.ownBlock) (i : Nat) (u : Value) : Fc w (w1.setCell ⟨p, i, none⟩ u) col (colN w col c) :=
  Fc.turn (by have := hg.size; simp; omega) hc5 hp (turn_set hc hg i u)
theorem Fc.one {c : Nat} {b : Nat} {p : Nat} (hp : col p = 0) (hc5 : c ≤ 5) (hc : col b = c) (hg : w.grownBy w1 (some b)) : Fc w w1 col (colN w col c) :=
  Fc.turn hg.size hc5 hp (fun k hk hne _ => hg.block k hk (fun e => hne (by obtain rfl := Option.some.inj e; exact hc)))
theorem Fc.own {c : Nat} {g : Nat} {p : Nat} (hp : col p = 0) (hc5 : c ≤ 5) (hc : col g = c) (i : Nat) (u : Value) : Fc w (w.setCell ⟨g, i, none⟩ u) col (colN w col c) :=
  Fc.turn (by simp) hc5 hp (turn_own hc i u)
theorem Fc.free {p : Nat} (hp : col p = 0) (u : Value) : Fc w ((w.alloc (.map #[] 0)).setCell ⟨p, 3, none⟩ u) col (colN w col 4) :=
  Fc.turn (by simp) (by decide) hp (fun b hb _ hp => (Below.heap_setCell _ ⟨p, 3, none⟩ _ b hp).trans (Below.heap_alloc w _ b hb))
theorem Bq.ltP (h : Bq B P w pg mt ns op pv mv lv ov nb col) : P < w.heap.size := h.X.lt
theorem Bq.px1 (h : Bq B P w pg mt ns op pv mv lv ov nb col) {v : Value} {c : Nat} (h0 : c ≠ 0) (hc : ∀ g, v.ownBlock = some g → col g = c) (hg : w.grownBy w1 v.ownBlock) : Bx w1 P #[pv, mv, .map (some nb), lv, ov] 73 :=
  (hg.block P h.ltP (fun e => h0 (by rw [← hc P e.symm, h.c0]))).trans h.X
theorem Bq.newG (h : Bq B P w pg mt ns op pv mv lv ov nb col) {pg' : List Lb.Pg} {pv' : Value} (ho : OwnG B w1 76 3 pv' (pg'.map pcell)) (hg : w.grownBy w1 pv.ownBlock) (hn : ∀ g, pv'.ownBlock = some g → pv.ownBlock = some g ∨ w.heap.size ≤ g) :
    Bq B P (w1.setCell ⟨P, 0, none⟩ pv') pg' mt ns op pv' mv lv ov nb (colN w col 1) := by
  have T := turn_set (p := P) h.c1 hg 0 pv'
  have cn := near_col (fun g hg => (h.G.lt hg).2) h.c1 hn
  have cP : colN w col 1 P = 0 := (colN_old h.ltP).trans h.c0
  exact ⟨(h.px1 (by decide) h.c1 hg).set 0 pv', ho.go fun g hg _ => Below.heap_setCell w1 ⟨P, 0, none⟩ pv' g (fun e => by have := cn g hg; rw [e, cP] at this; cases this), h.M.keep h.c2 h.c0 (by decide) (by decide) T, h.O.keep h.c5 h.c0 (by decide) (by decide) T, h.N.keep h.c3 h.c0 (by decide) (by decide) T, h.hP, h.hn, cP, cn, h.M.colS 1 h.c2, (colN_old h.N.lt).trans h.c3, h.O.colS 1 h.c5⟩
theorem Bq.newM (h : Bq B P w pg mt ns op pv mv lv ov nb col) {mt' : List Int} {mv' : Value} (ho : OwnG B w1 3 1 mv' (mt'.map icell)) (hg : w.grownBy w1 mv.ownBlock) (hn : ∀ g, mv'.ownBlock = some g → mv.ownBlock = some g ∨ w.heap.size ≤ g) :
    Bq B P (w1.setCell ⟨P, 1, none⟩ mv') pg mt' ns op pv mv' lv ov nb (colN w col 2) := by
  have T := turn_set (p := P) h.c2 hg 1 mv'
  have cn := near_col (fun g hg => (h.M.lt hg).2) h.c2 hn
  have cP : colN w col 2 P = 0 := (colN_old h.ltP).trans h.c0
  exact ⟨(h.px1 (by decide) h.c2 hg).set 1 mv', h.G.keep h.c1 h.c0 (by decide) (by decide) T, ho.go fun g hg _ => Below.heap_setCell w1 ⟨P, 1, none⟩ mv' g (fun e => by have := cn g hg; rw [e, cP] at this; cases this), h.O.keep h.c5 h.c0 (by decide) (by decide) T, h.N.keep h.c3 h.c0 (by decide) (by decide) T, h.hP, h.hn, cP, h.G.colS 2 h.c1, cn, (colN_old h.N.lt).trans h.c3, h.O.colS 2 h.c5⟩
theorem Bq.newO (h : Bq B P w pg mt ns op pv mv lv ov nb col) {op' : List (Nat × Int)} {ov' : Value} (ho : OwnG B w1 88 2 ov' (op'.map lcell)) (hg : w.grownBy w1 ov.ownBlock) (hn : ∀ g, ov'.ownBlock = some g → ov.ownBlock = some g ∨ w.heap.size ≤ g) :
    Bq B P (w1.setCell ⟨P, 4, none⟩ ov') pg mt ns op' pv mv lv ov' nb (colN w col 5) := by
  have T := turn_set (p := P) h.c5 hg 4 ov'
  have cn := near_col (fun g hg => (h.O.lt hg).2) h.c5 hn
  have cP : colN w col 5 P = 0 := (colN_old h.ltP).trans h.c0
  exact ⟨(h.px1 (by decide) h.c5 hg).set 4 ov', h.G.keep h.c1 h.c0 (by decide) (by decide) T, h.M.keep h.c2 h.c0 (by decide) (by decide) T, ho.go fun g hg _ => Below.heap_setCell w1 ⟨P, 4, none⟩ ov' g (fun e => by have := cn g hg; rw [e, cP] at this; cases this), h.N.keep h.c3 h.c0 (by decide) (by decide) T, h.hP, h.hn, cP, h.G.colS 5 h.c1, h.M.colS 5 h.c2, (colN_old h.N.lt).trans h.c3, cn⟩
theorem Bq.newN (h : Bq B P w pg mt ns op pv mv lv ov nb col) {ns' : List Int} (hN : SetM w1 nb ns') (hg : w.grownBy w1 (some nb)) : Bq B P w1 pg mt ns' op pv mv lv ov nb (colN w col 3) := by
  have T : ∀ b, b < w.heap.size → col b ≠ 3 → b ≠ P → w1.heap[b]? = w.heap[b]? := fun b hb hne _ => hg.block b hb (fun e => hne (by obtain rfl := Option.some.inj e; exact h.c3))
  have cP : colN w col 3 P = 0 := (colN_old h.ltP).trans h.c0
  exact ⟨(hg.block P h.ltP (fun e => by obtain rfl := Option.some.inj e; have := h.c0; rw [h.c3] at this; cases this)).trans h.X, h.G.keep h.c1 h.c0 (by decide) (by decide) T, h.M.keep h.c2 h.c0 (by decide) (by decide) T, h.O.keep h.c5 h.c0 (by decide) (by decide) T, hN, h.hP, h.hn, cP, h.G.colS 3 h.c1, h.M.colS 3 h.c2, (colN_old h.N.lt).trans h.c3, h.O.colS 3 h.c5⟩
theorem Bq.newL (h : Bq B P w pg mt ns op pv mv lv ov nb col) {lb : Nat} {ls' : List Int} (hl : lv = .map (some lb)) (hb : B ≤ lb) (hc : col lb = 4) (hlt : lb < w.heap.size) (hL : SetM w1 lb ls') (hg : w.grownBy w1 (some lb)) : Bq B P w1 pg mt ns op pv mv lv ov nb (colN w col 4) ∧ LbM B w1 lv ls' (colN w col 4) := by
  have T : ∀ b, b < w.heap.size → col b ≠ 4 → b ≠ P → w1.heap[b]? = w.heap[b]? := fun b hb hne _ => hg.block b hb (fun e => hne (by obtain rfl := Option.some.inj e; exact hc))
  have cP : colN w col 4 P = 0 := (colN_old h.ltP).trans h.c0
  exact ⟨⟨(hg.block P h.ltP (fun e => by obtain rfl := Option.some.inj e; have := h.c0; rw [hc] at this; cases this)).trans h.X, h.G.keep h.c1 h.c0 (by decide) (by decide) T, h.M.keep h.c2 h.c0 (by decide) (by decide) T, h.O.keep h.c5 h.c0 (by decide) (by decide) T, h.N.keep h.c3 h.c0 (by decide) (by decide) T, h.hP, h.hn, cP, h.G.colS 4 h.c1, h.M.colS 4 h.c2, (colN_old h.N.lt).trans h.c3, h.O.colS 4 h.c5⟩, lb, hl, hL, hb, (colN_old hlt).trans hc⟩
theorem Bq.freeL (h : Bq B P w pg mt ns op pv mv lv ov nb col) (hB : B ≤ w.heap.size) : Bq B P ((w.alloc (.map #[] 0)).setCell ⟨P, 3, none⟩ (.map (some w.heap.size))) pg mt ns op pv mv (.map (some w.heap.size)) ov nb (colN w col 4) ∧ LbM B ((w.alloc (.map #[] 0)).setCell ⟨P, 3, none⟩ (.map (some w.heap.size))) (.map (some w.heap.size)) [] (colN w col 4) := by
  have hP := h.ltP
  have T : ∀ b, b < w.heap.size → col b ≠ 4 → b ≠ P → ((w.alloc (.map #[] 0)).setCell ⟨P, 3, none⟩ (.map (some w.heap.size))).heap[b]? = w.heap[b]? := fun b hb _ hp => (Below.heap_setCell _ ⟨P, 3, none⟩ _ b hp).trans (Below.heap_alloc w _ b hb)
  have cP : colN w col 4 P = 0 := (colN_old h.ltP).trans h.c0
  exact ⟨⟨(h.X.alloc _).set 3 _, h.G.keep h.c1 h.c0 (by decide) (by decide) T, h.M.keep h.c2 h.c0 (by decide) (by decide) T, h.O.keep h.c5 h.c0 (by decide) (by decide) T, h.N.keep h.c3 h.c0 (by decide) (by decide) T, h.hP, h.hn, cP, h.G.colS 4 h.c1, h.M.colS 4 h.c2, (colN_old h.N.lt).trans h.c3, h.O.colS 4 h.c5⟩, _, rfl, (SetM.made w).go (Below.heap_setCell _ ⟨P, 3, none⟩ _ w.heap.size (by show w.heap.size ≠ P; omega)), hB, colN_new (Nat.le_refl _)⟩
theorem Bq.setM (h : Bq B P w pg mt ns op pv mv lv ov nb col) {g : Nat} (hg : mv.ownBlock = some g) {i : Nat} (hi : i < mt.length) (x : Int) : Bq B P (w.setCell ⟨g, i, none⟩ (.int .i64 x)) pg (mt.set i x) ns op pv mv lv ov nb (colN w col 2) := by
  have hc := h.c2 g hg
  have T := turn_own (w := w) (p := P) hc i (.int .i64 x)
  have cP : colN w col 2 P = 0 := (colN_old h.ltP).trans h.c0
  have hm := h.M.set hg (i := i) (by simpa using hi) (j := 0) (by decide) (.int .i64 x)
  have e : (mt.map icell).set i (((mt.map icell)[i]'(by simpa using hi)).set 0 (.int .i64 x)) = (mt.set i x).map icell := by rw [List.map_set]; congr 1; simp [icell]
  rw [e, Nat.mul_one, Nat.add_zero] at hm
  exact ⟨h.X.other (fun e => by have := h.c0; rw [e] at this; rw [show (⟨g, i, none⟩ : Addr).block = g from rfl, hc] at this; cases this) _, h.G.keep h.c1 h.c0 (by decide) (by decide) T, hm, h.O.keep h.c5 h.c0 (by decide) (by decide) T, h.N.keep h.c3 h.c0 (by decide) (by decide) T, h.hP, h.hn, cP, h.G.colS 2 h.c1, h.M.colS 2 h.c2, (colN_old h.N.lt).trans h.c3, h.O.colS 2 h.c5⟩
theorem Bq.setF {p : Lb.Pg} (h : Bq B P w (pg ++ [p]) mt ns op pv mv lv ov nb col) {g : Nat} (hg : pv.ownBlock = some g) (x : Nat) : Bq B P (w.setCell ⟨g, pg.length * 3 + 2, none⟩ (.int .i64 x)) (pg ++ [{ p with fin := x }]) mt ns op pv mv lv ov nb (colN w col 1) := by
  have hc := h.c1 g hg
  have T := turn_own (w := w) (p := P) hc (pg.length * 3 + 2) (.int .i64 x)
  have cP : colN w col 1 P = 0 := (colN_old h.ltP).trans h.c0
  have hm := h.G.set hg (i := pg.length) (by simp) (j := 2) (by decide) (.int .i64 x)
  have e : ((pg ++ [p]).map pcell).set pg.length ((((pg ++ [p]).map pcell)[pg.length]'(by simp)).set 2 (.int .i64 x)) = (pg ++ [{ p with fin := x }]).map pcell := by
    simp [pcell, List.set_append_right]
  rw [e] at hm
  exact ⟨h.X.other (fun e => by have := h.c0; rw [e] at this; rw [show (⟨g, pg.length * 3 + 2, none⟩ : Addr).block = g from rfl, hc] at this; cases this) _, hm, h.M.keep h.c2 h.c0 (by decide) (by decide) T, h.O.keep h.c5 h.c0 (by decide) (by decide) T, h.N.keep h.c3 h.c0 (by decide) (by decide) T, h.hP, h.hn, cP, h.G.colS 1 h.c1, h.M.colS 1 h.c2, (colN_old h.N.lt).trans h.c3, h.O.colS 1 h.c5⟩
theorem Bq.cutO {q : Nat × Int} (h : Bq B P w pg mt ns (op ++ [q]) pv mv lv ov nb col) : ∃ (g cap : Nat), ov = .slice (some ⟨g, 0, none⟩) (op.length + 1) cap ∧ op.length + 1 ≤ cap ∧ cap ≤ 9223372036854775807 ∧ g < w.heap.size ∧ g ≠ P ∧ B ≤ g ∧
    w.cell? ⟨g, op.length * 2, none⟩ = some (.int .i64 q.2) ∧ w.cell? ⟨g, op.length * 2 + 1, none⟩ = some (.int .i64 q.1) ∧
    Bq B P (w.setCell ⟨P, 4, none⟩ (.slice (some ⟨g, 0, none⟩) op.length cap)) pg mt ns op pv mv lv (.slice (some ⟨g, 0, none⟩) op.length cap) nb (colN w col 5) := by
  have ho := h.O
  rw [List.map_append] at ho
  obtain ⟨g, cap, rfl, k1, k2, k3, k4, k5⟩ := ho.cut
  rw [List.length_map] at *
  have hg : (Value.slice (some ⟨g, 0, none⟩) (op.length + 1) cap).ownBlock = some g := rfl
  have hgP : g ≠ P := fun e => by have := h.c5 g hg; rw [e, h.c0] at this; cases this
  refine ⟨g, cap, rfl, k1, k2, k4, hgP, k3, by have := h.O.at hg (i := op.length) (by simp) (j := 0) (u := .int .i64 q.2) (by simp [lcell]); simpa using this, h.O.at hg (i := op.length) (by simp) (by simp [lcell]), ?_⟩
  exact h.newO (w1 := w) (op' := op) k5 ⟨rfl, rfl, rfl, Nat.le_refl _, fun _ _ _ => rfl⟩ (fun g' hg' => .inl hg')
theorem Bq.kept (h : Bq B P w pg mt ns op pv mv lv ov nb col) (q : Qw w w1) : Bq B P w1 pg mt ns op pv mv lv ov nb col :=
  have k := fun {T : TypeId} {z : Nat} {v : Value} {xs : List (List Value)} (o : OwnG B w T z v xs) => o.go (w' := w1) fun g _ hl => q.block g hl
  ⟨h.X.kept q, k h.G, k h.M, k h.O, h.N.go (q.block _ h.N.lt), h.hP, h.hn, h.c0, h.c1, h.c2, h.c3, h.c5⟩
theorem LbM.kept (h : LbM B w lv ls col) (q : Qw w w1) : LbM B w1 lv ls col := by
  obtain ⟨lb, h1, h2, h3, h4⟩ := h
  exact ⟨lb, h1, h2.go (q.block _ h2.lt), h3, h4⟩
theorem LbM.keep (h : LbM B w lv ls col) {c p : Nat} (hp : col p = 0) (hk : c ≠ 4) (ht : ∀ b, b < w.heap.size → col b ≠ c → b ≠ p → w2.heap[b]? = w.heap[b]?) : LbM B w2 lv ls (colN w col c) := by
  obtain ⟨lb, h1, h2, h3, h4⟩ := h
  exact ⟨lb, h1, h2.keep h4 hp (by decide) (by omega) ht, h3, (colN_old h2.lt).trans h4⟩
end
end Go.Proofs.YtlgdjbabbfdngaaDoor

