import Derived.Test.YtlgdjbabbfdngaaDoorZSP3
import Derived.Test.YtlgdjbabbfdngaaDoorZSP7
import Derived.Deep.DeepCutAuto
import Derived.WalkSpells
set_option linter.unusedVariables false
set_option linter.unusedSimpArgs false
namespace Go.Proofs.YtlgdjbabbfdngaaDoor
open Go.RowKit
theorem BM.recol {B P : Nat} {w : World} {col col' : Nat → Nat} {pg : List Lb.Pg} {mt ns ls : List Int} {op : List (Nat × Int)} (h : BM B P w col pg mt ns ls op) (hc : ∀ b, b < w.heap.size → col' b = col b) : BM B P w col' pg mt ns ls op := by
  obtain ⟨pv, mv, lv, ov, nb, h, lb, h1, h2, h3, h4⟩ := h
  exact ⟨pv, mv, lv, ov, nb, ⟨h.X, h.G, h.M, h.O, h.N, h.hP, h.hn, (hc _ h.ltP).trans h.c0, fun g hg => (hc g (h.G.lt hg).2).trans (h.c1 g hg), fun g hg => (hc g (h.M.lt hg).2).trans (h.c2 g hg), (hc _ h.N.lt).trans h.c3, fun g hg => (hc g (h.O.lt hg).2).trans (h.c5 g hg)⟩, lb, h1, h2, h3, (hc _ h2.lt).trans h4⟩
theorem BM.hP {B P : Nat} {w : World} {col : Nat → Nat} {pg : List Lb.Pg} {mt ns ls : List Int} {op : List (Nat × Int)} (h : BM B P w col pg mt ns ls op) : B ≤ P ∧ P < w.heap.size := by
  obtain ⟨pv, mv, lv, ov, nb, h, _⟩ := h
  exact ⟨h.hP, h.ltP⟩
set_option maxRecDepth 100000 in
set_option maxHeartbeats 4000000 in
theorem lc_new (w : World) : Calls Tryd.prog 36 #[] w fun e w' => ∃ P col, e = .returned (.pointer (some ⟨P, 0, none⟩)) ∧ w.heap.size ≤ P ∧ BM w.heap.size P w' col [⟨0, 0, 0⟩] [] [0] [] [] ∧ Qw w w' := by
  have hmm := @run_makeMap Tryd.prog
  have q1 : Qw w ((w.alloc (.map #[] 0)).alloc (.cells #[.slice none 0 0, .slice none 0 0, .map (some w.heap.size), .map none, .slice none 0 0] 73)) := Qw.al (Qw.al (Qw.refl w) _) _
  have hb : Bq w.heap.size (w.heap.size + 1) ((w.alloc (.map #[] 0)).alloc (.cells #[.slice none 0 0, .slice none 0 0, .map (some w.heap.size), .map none, .slice none 0 0] 73)) [] [] [] [] (.slice none 0 0) (.slice none 0 0) (.map none) (.slice none 0 0) w.heap.size (fun b => if b = w.heap.size + 1 then 0 else 3) := by
    refine ⟨?_, OwnG.nil .., OwnG.nil .., OwnG.nil .., (SetM.made w).go ?_, by omega, Nat.le_refl _, if_pos rfl, (fun g hg => by cases hg), (fun g hg => by cases hg), if_neg (by omega), (fun g hg => by cases hg)⟩
    · have := Bx.new (w.alloc (.map #[] 0)) #[.slice none 0 0, .slice none 0 0, .map (some w.heap.size), .map none, .slice none 0 0] 73
      rwa [show (w.alloc (.map #[] 0)).heap.size = w.heap.size + 1 by simp] at this
    · exact Below.heap_alloc _ _ _ (by simp)
  have c1 := lc_begin hb 0 (by decide) (by decide) (by simp) (by simp) (by simp) q1.size
  have C1 := Lib.hid c1
  have Q1 := Lib.hid q1
  clear c1 hb q1
  go_enter Tryd.func36, Tryd.ntmps36
  go_wp2_with (go_at_call 53; ((with_reducible refine C1.out.mono ?_); rintro e w' ⟨rfl, col', bm, fc, bel⟩))
  go_ret
  exact ⟨_, col', rfl, by omega, bm, Below.trans Q1.out bel⟩
def Bld (k B P : Nat) (w : World) (col : Nat → Nat) (s : Lb.St) : Prop :=
  ∃ (l : List Lb.Pg) (p : Lb.Pg) (ns : List Int), s.pg = l ++ [p] ∧ p.fin = s.i ∧ BM B P w col (l ++ [{ p with fin := 0 }]) s.mate ns s.lab s.op.reverse ∧ (∀ x, ns.contains x = s.pg.any (fun q => q.num == x)) ∧ s.mate.length = s.i ∧ (∀ q ∈ s.op, q.1 < s.i) ∧ l.length ≤ s.i + min k 1 ∧ s.op.length ≤ s.i ∧ s.lab.length ≤ s.i + (k - 1) ∧ ns.length ≤ s.i + 1 + min k 1
theorem Bld.start {B P : Nat} {w : World} {col : Nat → Nat} (h : BM B P w col [⟨0, 0, 0⟩] [] [0] [] []) : Bld 0 B P w col Lb.st0 := ⟨[], ⟨0, 0, 0⟩, [0], rfl, rfl, h, fun x => by simp [Lb.st0, BEq.comm]; rfl, rfl, by simp [Lb.st0], by simp, by simp [Lb.st0], by simp [Lb.st0], by simp⟩
theorem Bld.kept {k B P : Nat} {w w1 : World} {col : Nat → Nat} {s : Lb.St} (h : Bld k B P w col s) (q : Qw w w1) : Bld k B P w1 col s := by
  obtain ⟨l, p, ns, h1, h2, h3, h4⟩ := h
  exact ⟨l, p, ns, h1, h2, h3.kept q, h4⟩
theorem more_last (i : Nat) (p : Lb.Pg) : ∀ l : List Lb.Pg, Lb.more i (l ++ [p]) = l ++ [{ p with fin := i + 1 }]
  | [] => rfl
  | [q] => rfl
  | q :: r :: l => by
    show q :: Lb.more i ((r :: l) ++ [p]) = _
    rw [more_last i p (r :: l)]; rfl
theorem Bld.noprog {k B P : Nat} {w : World} {col : Nat → Nat} {s : Lb.St} (h : Bld 0 B P w col s) : Bld 1 B P w col s := by
  obtain ⟨l, p, ns, h1, h2, h3, h4, h5, h6, h7, h8, h9, h10⟩ := h
  exact ⟨l, p, ns, h1, h2, h3, h4, h5, h6, by omega, h8, by omega, by omega⟩
end Go.Proofs.YtlgdjbabbfdngaaDoor
set_option linter.unusedVariables false
set_option linter.unusedSimpArgs false
namespace Go.Proofs.YtlgdjbabbfdngaaDoor
open Go.RowKit
theorem BmR.open_ {B P : Nat} {w w' : World} {col : Nat → Nat} {pg : List Lb.Pg} {mt ns ls : List Int} {op : List (Nat × Int)} (h : BmR B P w col pg mt ns ls op w') : ∃ col' pv mv lv ov nb, Bq B P w' pg mt ns op pv mv lv ov nb col' ∧ LbM B w' lv ls col' ∧ Fc w w' col col' ∧ Below B w w' := by
  obtain ⟨col', ⟨pv, mv, lv, ov, nb, h1, h2⟩, h3, h4⟩ := h
  exact ⟨col', pv, mv, lv, ov, nb, h1, h2, h3, h4⟩
def AdR (B P : Nat) (w : World) (b : Sy.Bl) (s : Lb.St) (e : Ending) (w' : World) : Prop := (match Lb.stepS b s with
  | .bad j er => e = .returned (.tuple #[.int .i64 (j : Nat), .int .i64 er])
  | .ok s' => e = .returned (.tuple #[.int .i64 (s.i : Nat), .int .i64 0]) ∧ ∃ col, Bld 0 B P w' col s') ∧ Below B w w'
theorem AdR.bad {B P : Nat} {w w' : World} {b : Sy.Bl} {s : Lb.St} {j : Nat} {er : Int} (h : Lb.stepS b s = .bad j er) (q : Below B w w') : AdR B P w b s (.returned (.tuple #[.int .i64 (j : Nat), .int .i64 er])) w' := ⟨by rw [h], q⟩
theorem AdR.ok {B P : Nat} {w w' : World} {b : Sy.Bl} {s s' : Lb.St} {col : Nat → Nat} (h : Lb.stepS b s = .ok s') (hb : Bld 0 B P w' col s') (q : Below B w w') : AdR B P w b s (.returned (.tuple #[.int .i64 (s.i : Nat), .int .i64 0])) w' := ⟨by rw [h]; exact ⟨rfl, col, hb⟩, q⟩
structure Ad (k B P K : Nat) (w : World) (d : Bi) (col : Nat → Nat) (s : Lb.St) (wx : World) : Prop where
  L : Bld k B P wx col s
  X : Bx wx K (bicell d).toArray 37
  c : col K = 9
  q : Below B w wx
  hB : B ≤ w.heap.size
theorem Ad.kept {k B P K : Nat} {w wx w' : World} {d : Bi} {col : Nat → Nat} {s : Lb.St} (h : Ad k B P K w d col s wx) (q : Qw wx w') : Ad k B P K w d col s w' :=
  ⟨h.L.kept q, h.X.kept q, h.c, Below.trans h.q (Below.mono q (Nat.le_trans h.hB h.q.size)), h.hB⟩
theorem Ad.up {B P K : Nat} {w wx : World} {d : Bi} {col : Nat → Nat} {s : Lb.St} (h : Ad 0 B P K w d col s wx) : Ad 1 B P K w d col s wx := ⟨h.L.noprog (k := 1), h.X, h.c, h.q, h.hB⟩
theorem Ad.up2 {B P K : Nat} {w wx : World} {d : Bi} {col : Nat → Nat} {s : Lb.St} (h : Ad 1 B P K w d col s wx) : Ad 2 B P K w d col s wx := by
  obtain ⟨⟨l, p, ns, h1, h2, h3, h4, h5, h6, h7, h8, h9, h10⟩, x1, x2, x3, x4⟩ := h
  exact ⟨⟨l, p, ns, h1, h2, h3, h4, h5, h6, by omega, h8, by omega, by omega⟩, x1, x2, x3, x4⟩
theorem ad_box {K : Nat} {wx w' : World} {d : Bi} {col col' : Nat → Nat} (X : Bx wx K (bicell d).toArray 37) (c : col K = 9) (f : Fc wx w' col col') : Bx w' K (bicell d).toArray 37 ∧ col' K = 9 := by
  obtain ⟨e1, e2⟩ := f.2 K X.lt
  exact ⟨(e2 (by omega)).trans X, e1.trans c⟩
theorem ad_step {b : Sy.Bl} {s s1 s2 : Lb.St} (hp : Lb.pgS b s = .ok s1) (hl : Lb.labS b s1 = .ok s2) : Lb.stepS b s = Lb.loopS b { s2 with pg := Lb.more s2.i s2.pg } := by
  unfold Lb.stepS
  rw [hp]; simp only
  rw [hl]
theorem ad_fin {B P : Nat} {w' : World} {col : Nat → Nat} {s2 : Lb.St} {l : List Lb.Pg} {p : Lb.Pg} {ns : List Int} {mt : List Int} {op : List (Nat × Int)} (h1 : s2.pg = l ++ [p]) (hb : BM B P w' col (l ++ [{ p with fin := 0 }]) mt ns s2.lab op.reverse) (h4 : ∀ x, ns.contains x = s2.pg.any (fun q => q.num == x)) (hm : mt.length = s2.i + 1) (ho : ∀ q ∈ op, q.1 < s2.i + 1)
    (h7 : l.length ≤ s2.i + min 2 1) (h8 : op.length ≤ s2.i + 1) (h9 : s2.lab.length ≤ s2.i + (2 - 1)) (h10 : ns.length ≤ s2.i + 1 + min 2 1) : Bld 0 B P w' col { s2 with pg := Lb.more s2.i s2.pg, i := s2.i + 1, op := op, mate := mt } := by
  refine ⟨l, { p with fin := s2.i + 1 }, ns, ?_, rfl, hb, fun x => ?_, hm, ho, by show l.length ≤ s2.i + 1 + min 0 1; omega, h8, by show s2.lab.length ≤ s2.i + 1 + (0 - 1); omega, by show ns.length ≤ s2.i + 1 + 1 + min 0 1; omega⟩
  · show Lb.more s2.i s2.pg = _
    rw [h1, more_last]
  · show ns.contains x = (Lb.more s2.i s2.pg).any _
    rw [Lb.more_any]; exact h4 x
theorem lc_beginLoopN {B P : Nat} {w : World} {col : Nat → Nat} {pg : List Lb.Pg} {mt ns ls : List Int} {op : List (Nat × Int)} (h : BM B P w col pg mt ns ls op) (n : Int) (i : Nat) (l1 : op.length ≤ 5000) (hB : B ≤ w.heap.size) (ha : op.any (fun q => q.2 == n) = true) :
    Calls Tryd.prog 54 #[.pointer (some ⟨P, 0, none⟩), .int .i64 n, .int .i64 (i : Nat)] w fun e w' => e = .returned (.int .i64 11) ∧ Below B w w' := (lc_beginLoop h n i l1 hB).mono (by
  intro e w' h
  unfold BgL at h
  rwa [if_pos ha] at h)
theorem lc_beginLoopY {B P : Nat} {w : World} {col : Nat → Nat} {pg : List Lb.Pg} {mt ns ls : List Int} {op : List (Nat × Int)} (h : BM B P w col pg mt ns ls op) (n : Int) (i : Nat) (l1 : op.length ≤ 5000) (hB : B ≤ w.heap.size) (ha : op.any (fun q => q.2 == n) = false) :
    Calls Tryd.prog 54 #[.pointer (some ⟨P, 0, none⟩), .int .i64 n, .int .i64 (i : Nat)] w fun e w' => e = .returned (.int .i64 0) ∧ BmR B P w col pg mt ns ls (op ++ [(i, n)]) w' := (lc_beginLoop h n i l1 hB).mono (by
  intro e w' h
  unfold BgL at h
  rwa [if_neg (by rw [ha]; decide)] at h)
theorem op_cons {op : List (Nat × Int)} {i : Nat} {n : Int} (h : ∀ q ∈ op, q.1 < i) : ∀ q ∈ (i, n) :: op, q.1 < i + 1 := fun q hq => by
  rcases List.mem_cons.1 hq with rfl | hq
  · show i < i + 1; omega
  · have := h q hq; omega
theorem ad_open {B P K : Nat} {w1 w' : World} {d : Bi} {col : Nat → Nat} {pg : List Lb.Pg} {mt ns ls : List Int} {op : List (Nat × Int)} (br : BmR B P w1 col pg mt ns ls op w') (X : Bx w1 K (bicell d).toArray 37) (c : col K = 9) : ∃ col' pv mv lv ov nb, Bq B P w' pg mt ns op pv mv lv ov nb col' ∧ w'.cell? ⟨P, 2, none⟩ = some (.map (some nb)) ∧ w'.cell? ⟨K, 10, none⟩ = some (.int .i64 d.b.n) ∧ SetM w' nb ns ∧ Bx w' K (bicell d).toArray 37 ∧ col' K = 9 ∧ Below B w1 w' := by
  obtain ⟨col', pv, mv, lv, ov, nb, hm, hl, fc, bel⟩ := br.open_
  have bx := ad_box X c fc
  exact ⟨col', pv, mv, lv, ov, nb, hm, hm.X.cell' 2 (.map (some nb)) rfl, bx.1.cell' 10 (.int .i64 d.b.n) rfl, hm.N, bx.1, bx.2, bel⟩
section
variable {B P K : Nat} {w : World} {d : Bi} {s : Lb.St} {col : Nat → Nat}
set_option maxRecDepth 100000 in
set_option maxHeartbeats 4000000 in
theorem lc_add (h : Bld 0 B P w col s) (hB : B ≤ w.heap.size) (hi : s.i < 2000) (n1 : -9223372036854775808 ≤ d.b.n) (n2 : d.b.n ≤ 9223372036854775807) (l1 : 0 ≤ d.b.label) (l2 : d.b.label ≤ 9223372036854775807) :
    Calls Tryd.prog 37 #[.pointer (some ⟨P, 0, none⟩), .agg #[.int .i64 d.b.kind, .int .i64 d.b.label, .bool d.b.skip, .slice d.wa d.b.words.length d.wc, .int .i64 d.b.left.op, .int .i64 d.b.left.n, .slice d.la d.b.left.ks.length d.lc, .int .i64 d.b.x.op, .int .i64 d.b.x.n, .slice d.xa d.b.x.ks.length d.xc, .int .i64 d.b.n]] w (AdR B P w d.b s) := by
  have h0 : ∃ col0, Ad 0 B P w.heap.size w d col0 s (w.alloc (.cells (bicell d).toArray 37)) := by
    refine ⟨fun b => if b = w.heap.size then 9 else col b, ?_, Bx.new _ _ _, if_pos rfl, Below.alloc (Below.refl _ _) hB _, hB⟩
    obtain ⟨l, p, ns, h1, h2, h3, h4⟩ := h
    exact ⟨l, p, ns, h1, h2, (h3.recol fun b hb => if_neg (by omega)).kept (Qw.al (Qw.refl w) _), h4⟩
  obtain ⟨col0, h0⟩ := h0
  have hmt : s.mate.length = s.i := by obtain ⟨l, p, ns, h1, h2, h3, h4, h5, _⟩ := h; exact h5
  have x1 : ∃ a c, w.cell? ⟨P, 1, none⟩ = some (.slice a s.i c) := by
    obtain ⟨l, p, ns, h1, h2, ⟨pv, mv, lv, ov, nb, hm, _⟩, _⟩ := h
    have := hm.X.cell' 1 mv rfl
    obtain ⟨a, c, e, _⟩ := hm.M.form
    exact ⟨a, c, by rw [this, e, List.length_map, hmt]⟩
  obtain ⟨a, c, y1⟩ := x1
  have hPw : P < w.heap.size := by obtain ⟨l, p, ns, h1, h2, h3, _⟩ := h; exact h3.hP.2
  have hPn : P ≠ w.heap.size := by omega
  have HA := Lib.hid h0
  clear h0 h
  go_enter Tryd.func37, Tryd.ntmps37
  go_upto_if 16 with fail
  go_cut [] (fun wx => ∃ (s1 : Lb.St) (col1 : Nat → Nat), Hid (Lb.pgS d.b s = .ok s1 ∧ s1.i = s.i) ∧ Hid (Ad 1 B P w.heap.size w d col1 s1 wx))
  case first =>
    refine code_of (fun wx => Ad 0 B P w.heap.size w d col0 s wx) HA.out ?_
    clear HA y1
    intro w1 h1
    have HW := Lib.hid h1
    obtain ⟨l, p, ns, e1, e2, bm, e3, e4, e5, e6, e7, e8, e9⟩ := h1.L
    have hB1 : B ≤ w1.heap.size := Nat.le_trans hB h1.q.size
    have XK := Lib.hid (And.intro h1.X h1.c)
    clear h1
    by_cases hk : d.b.kind = 6
    · have hb6 : (d.b.kind == 6) = true := by simp [hk]
      replace hk := Lib.hid hk
      cases hop : s.op with
      | cons q r =>
        have ep : Hid (Lb.stepS d.b s = .bad q.1 11) := Lib.hid (by unfold Lb.stepS Lb.pgS; rw [if_pos hk.out, hop])
        rw [hop, List.reverse_cons] at bm
        have C1 := Lib.hid (lc_endProgN bm)
        clear bm e1 e2 e3 e4 e5 e6 e7 e8 e9
        go_wp2_with (go_at_call 38; ((with_reducible refine C1.out.mono ?_); rintro e w' ⟨rfl, qq⟩))
        exact bodyPost_ret (v := .tuple #[.int .i64 (q.1 : Nat), .int .i64 11]) (by simp [results, Tryd.results37, go_sem]) rfl (AdR.bad ep.out (HW.out.kept qq).q)
      | nil =>
        rw [hop, List.reverse_nil] at bm
        have C1 := Lib.hid (lc_endProgY bm hB1)
        have hp : ({ ({ p with fin := 0 } : Lb.Pg) with fin := s.mate.length } : Lb.Pg) = p := by cases p; simp at e2 ⊢; omega
        rw [hp, ← e1] at C1
        clear bm hp
        cases hd : s.pg.any (fun q => q.num == d.b.n) with
        | true =>
          have ep : Hid (Lb.stepS d.b s = .bad s.i 7) := Lib.hid (by unfold Lb.stepS Lb.pgS; rw [if_pos hk.out, hop]; simp only; rw [if_pos hd])
          have hc : ns.contains d.b.n = true := (e3 _).trans hd
          clear e1 e2 e3 e4 e5 e6 e7 e8 e9 hd
          go_wp2_with (go_at_call 38; with_reducible refine C1.out.mono ?_)
          rintro e w' ⟨rfl, br⟩
          obtain ⟨col2, pv, mv, lv, ov, nb, hm, x2, k10, hN, bx, bc, bel⟩ := ad_open br XK.out.1 XK.out.2
          go_wp2
          refine wp_region_still_tail 6 (by kernel_rfl) (by kernel_rfl) ?_
          change wpStill _ _ (World.drew _) _ _ _
          simp only [List.take_succ_cons, List.take_zero, List.drop_succ_cons, List.drop_zero]
          repeat still_step
          refine wpStill_nil ?_
          change wpList _ _ _ _ _ (World.drew _)
          go_wp2_with (at_lookup; refine set_look (by rfl) _ _ (by rfl) (by rfl) d.b.n (by rfl) (hN.go rfl) n1 n2 ?_; rw [hc])
          exact bodyPost_ret (v := .tuple #[.int .i64 (s.i : Nat), .int .i64 7]) (by simp [results, Tryd.results37, go_sem]) rfl (AdR.bad ep.out (Below.drew (Below.trans HW.out.q bel)))
        | false =>
          have ep : Hid (Lb.pgS d.b s = .ok { s with pg := s.pg ++ [⟨d.b.n, s.i, s.i⟩], lab := [] }) := Lib.hid (by unfold Lb.pgS; rw [if_pos hk.out, hop]; simp only; rw [if_neg (by rw [hd]; decide)])
          have hc : ns.contains d.b.n = false := (e3 _).trans hd
          have E := Lib.hid (And.intro e1 (And.intro e2 (And.intro e3 (And.intro e4 (And.intro e5 (And.intro e6 (And.intro e7 e9)))))))
          have lp : s.pg.length ≤ 5000 := by rw [e1]; simp; omega
          have ln : ns.length ≤ 5000 := by omega
          have lm : s.mate.length ≤ 5000 := by omega
          clear e1 e2 e3 e4 e5 e6 e7 e8 e9 hd
          go_wp2_with (go_at_call 38; with_reducible refine C1.out.mono ?_)
          rintro e w' ⟨rfl, br⟩
          obtain ⟨col2, pv, mv, lv, ov, nb, hm, x2, k10, hN, bx, bc, bel⟩ := ad_open br XK.out.1 XK.out.2
          go_wp2
          refine wp_region_still_tail 6 (by kernel_rfl) (by kernel_rfl) ?_
          change wpStill _ _ (World.drew _) _ _ _
          simp only [List.take_succ_cons, List.take_zero, List.drop_succ_cons, List.drop_zero]
          repeat still_step
          refine wpStill_nil ?_
          change wpList _ _ _ _ _ (World.drew _)
          have hB2 : B ≤ (World.drew w').heap.size := Nat.le_trans hB1 bel.size
          have C2 := Lib.hid (lc_begin (hm.kept (Qw.dr (Qw.refl w'))) d.b.n n1 n2 lp ln lm hB2)
          go_wp2_with (first | (at_lookup; refine set_look (by rfl) _ _ (by rfl) (by rfl) d.b.n (by rfl) (hN.go rfl) n1 n2 ?_; rw [hc]) | (go_at_call 53; ((with_reducible refine C2.out.mono ?_); rintro e w'' ⟨rfl, br3⟩)))
          go_meet
          obtain ⟨col3, bm3, fc3, bel3⟩ := br3
          have bx3 := ad_box (bx.kept (Qw.dr (Qw.refl w'))) bc fc3
          obtain ⟨e1, e2, e3, e4, e5, e6, e7, e9⟩ := E.out
          have g1 : s.pg.length ≤ s.i + 1 := by rw [e1]; simp; omega
          refine ⟨{ s with pg := s.pg ++ [⟨d.b.n, s.i, s.i⟩], lab := [] }, col3, Lib.hid (And.intro ep.out rfl), Lib.hid ⟨⟨s.pg, ⟨d.b.n, s.i, s.i⟩, d.b.n :: ns, rfl, rfl, ?_, fun x => ?_, e4, e5, g1, e7, by simp, ?_⟩, bx3.1, bx3.2, Below.trans (Below.drew (Below.trans HW.out.q bel)) bel3, hB⟩⟩
          · show BM B P w'' col3 (s.pg ++ [⟨d.b.n, s.i, 0⟩]) s.mate (d.b.n :: ns) [] s.op.reverse
            rw [hop, List.reverse_nil, ← e4]; exact bm3
          · show (d.b.n :: ns).contains x = (s.pg ++ [(⟨d.b.n, s.i, s.i⟩ : Lb.Pg)]).any _
            rw [List.any_append, ← e3 x, List.contains_cons]
            simp [Bool.or_comm, BEq.comm]
          · show (d.b.n :: ns).length ≤ s.i + 1 + 1
            simp; omega
    · go_wp2
      go_meet
      exact ⟨s, col0, Lib.hid ⟨by unfold Lb.pgS; rw [if_neg hk], rfl⟩, Lib.hid HW.out.up⟩
  case rest =>
    clear y1 HA
    obtain ⟨s1, col1, hp, HA⟩ := hcut
    have k1 := HA.out.X.cell' 1 (.int .i64 d.b.label) rfl
    go_upto_if 40 with fail
    go_cut [] (fun wx => ∃ (s2 : Lb.St) (col2 : Nat → Nat), Hid (Lb.labS d.b s1 = .ok s2 ∧ s2.i = s.i) ∧ Hid (Ad 2 B P w.heap.size w d col2 s2 wx))
    case first =>
      by_cases hl : d.b.label = 0
      · have hb0 : (d.b.label != 0) = false := by simp [hl]
        have e : Hid (Lb.labS d.b s1 = .ok s1) := Lib.hid (by unfold Lb.labS; rw [if_neg (by omega)])
        clear hl
        go_wp2
        go_meet
        exact ⟨s1, col1, Lib.hid (And.intro e.out hp.out.2), Lib.hid HA.out.up2⟩
      · have hb0 : (d.b.label != 0) = true := by simp [hl]
        have hpos : 0 < d.b.label := by omega
        obtain ⟨l, p, ns, e1, e2, ⟨pv, mv, lv, ov, nb, hm, lb, rfl, hL, hb, hc⟩, e3, e4, e5, e6, e7, e8, e9⟩ := HA.out.L
        have x3 := hm.X.cell' 3 (.map (some lb)) rfl
        have l1' : -9223372036854775808 ≤ d.b.label := by omega
        cases hd : s1.lab.contains d.b.label with
        | true =>
          have ep : Hid (Lb.stepS d.b s = .bad s.i 7) := Lib.hid (by unfold Lb.stepS; rw [hp.out.1]; simp only; unfold Lb.labS; rw [if_pos hpos, if_pos hd, hp.out.2])
          clear e1 e2 e3 e4 e5 e6 e7 e8 e9
          go_wp2
          refine wp_region_still_tail 6 (by kernel_rfl) (by kernel_rfl) ?_
          change wpStill _ _ (World.drew _) _ _ _
          simp only [List.take_succ_cons, List.take_zero, List.drop_succ_cons, List.drop_zero]
          repeat still_step
          refine wpStill_nil ?_
          change wpList _ _ _ _ _ (World.drew _)
          go_wp2_with (at_lookup; refine set_look (by rfl) _ _ (by rfl) (by rfl) d.b.label (by rfl) (hL.go rfl) l1' l2 ?_; rw [hd])
          exact bodyPost_ret (v := .tuple #[.int .i64 (s.i : Nat), .int .i64 7]) (by simp [results, Tryd.results37, go_sem]) rfl (AdR.bad ep.out (Below.drew HA.out.q))
        | false =>
          have ep : Hid (Lb.labS d.b s1 = .ok { s1 with lab := d.b.label :: s1.lab }) := Lib.hid (by unfold Lb.labS; rw [if_pos hpos, if_neg (by rw [hd]; decide)])
          have ll : s1.lab.length ≤ 1000000 := by have := hp.out.2; omega
          have E := Lib.hid (And.intro e1 (And.intro e2 (And.intro e3 (And.intro e4 (And.intro e5 (And.intro e6 (And.intro e7 (And.intro e8 e9))))))))
          clear e1 e2 e3 e4 e5 e6 e7 e8 e9
          go_wp2
          refine wp_region_still_tail 6 (by kernel_rfl) (by kernel_rfl) ?_
          change wpStill _ _ (World.drew _) _ _ _
          simp only [List.take_succ_cons, List.take_zero, List.drop_succ_cons, List.drop_zero]
          repeat still_step
          refine wpStill_nil ?_
          change wpList _ _ _ _ _ (World.drew _)
          go_wp2_with (at_lookup; refine set_look (by rfl) _ _ (by rfl) (by rfl) d.b.label (by rfl) (hL.go rfl) l1' l2 ?_; rw [hd])
          refine wp_region_still_tail 6 (by kernel_rfl) (by kernel_rfl) ?_
          change wpStill _ _ (World.drew _) _ _ _
          simp only [List.take_succ_cons, List.take_zero, List.drop_succ_cons, List.drop_zero]
          repeat still_step
          refine wpStill_nil ?_
          change wpList _ _ _ _ _ (World.drew _)
          have q2 : Qw wc (World.drew (World.drew wc)) := Qw.dr (Qw.dr (Qw.refl wc))
          have hm2 := hm.kept q2
          have hL2 : SetM (World.drew (World.drew wc)) lb s1.lab := hL.go rfl
          go_wp2_with (at_mapUpdate; refine set_put (by rfl) _ _ _ (by rfl) (by rfl) d.b.label (by rfl) (by rfl) hL2 l1' l2 ll ?_; intro w4 hN hg4)
          go_meet
          have r := hm2.newL rfl hb hc hL2.lt hN hg4
          have f := (Fc.of (col := col1) q2).trans (Fc.one hm2.c0 (by decide) hc hg4)
          have bx := ad_box HA.out.X HA.out.c f
          obtain ⟨e1, e2, e3, e4, e5, e6, e7, e8, e9⟩ := E.out
          refine ⟨{ s1 with lab := d.b.label :: s1.lab }, _, Lib.hid (And.intro ep.out hp.out.2), Lib.hid ⟨⟨l, p, ns, e1, e2, ⟨_, _, _, _, _, r.1, r.2⟩, e3, e4, e5, e6, e7, ?_, e9⟩, bx.1, bx.2, (Below.drew (Below.drew HA.out.q)).grown hg4 (Nat.le_trans hB HA.out.q.size) (some_le hb), hB⟩⟩
          show (d.b.label :: s1.lab).length ≤ s1.i + 1
          simp only [List.length_cons]; omega
    case rest =>
      clear k1 HA
      obtain ⟨s2, col2, hl, HA⟩ := hcut
      obtain ⟨l, p, ns, e1, e2, bm, e3, e4, e5, e6, e7, e8, e9⟩ := HA.out.L
      obtain ⟨pv, mv, lv, ov, nb, hm, hlm⟩ := bm
      have step := Lib.hid (ad_step hp.out.1 hl.out.1)
      have hi2 : s2.i = s.i := hl.out.2
      have x1 := hm.X.cell' 1 mv rfl
      have f1 := hm.X.free 1
      have hPc := hm.ltP
      have hPcn : P ≠ wc.heap.size := by omega
      have hBc : B ≤ wc.heap.size := Nat.le_trans hB HA.out.q.size
      have q1 : Qw wc (wc.alloc (.cells #[.int .i64 (-1)] 3)) := Qw.al (Qw.refl wc) _
      have H1 := hm.kept q1
      have L1 := hlm.kept q1
      have B1 : Bx (wc.alloc (.cells #[.int .i64 (-1)] 3)) wc.heap.size (icell (-1)).toArray 3 := Bx.new wc _ _
      obtain ⟨mv', w2, hr, ho, hg, hn⟩ := g_append (ty := 23) 3 23 1 8 _ _ wc.heap.size info_int Tryd.underlying23 rfl (by decide) (by decide) B1 rfl (by intro u hu; simp [icell] at hu; rcases hu with rfl; rfl) H1.M (by rw [List.length_map]; omega) (le_al B wc _ hBc)
      have H2 := H1.newM (mt' := s2.mate ++ [-1]) (by rw [List.map_append]; exact ho) hg hn
      have L2 := L1.keep (w2 := w2.setCell ⟨P, 1, none⟩ mv') H1.c0 (c := 2) (by decide) (turn_set H1.c2 hg 1 mv')
      have X2 := H1.px1 (by decide) H1.c2 hg
      have y1 := X2.cell' 1 mv rfl
      have y2 := X2.free 1
      have F2 := (Fc.of (col := col2) q1).trans (Fc.grown H1.c0 (by decide) H1.c2 hg 1 mv')
      have bx := ad_box HA.out.X HA.out.c F2
      have bel2 := Below.setCell (p := ⟨P, 1, none⟩) (bel_own q1 hBc (fun g hg => (hm.M.lt hg).1) hg) hm.hP mv'
      have kk : ∀ j, (w2.setCell ⟨P, 1, none⟩ mv').cell? ⟨w.heap.size, j, none⟩ = w2.cell? ⟨w.heap.size, j, none⟩ := fun j => World.cell?_of_block (w := w2) (Below.heap_setCell w2 ⟨P, 1, none⟩ mv' w.heap.size (by show w.heap.size ≠ P; omega))
      have k0 := bx.1.cell' 0 (.int .i64 d.b.kind) rfl
      have k10 := bx.1.cell' 10 (.int .i64 d.b.n) rfl
      rw [kk] at k0 k10
      have BM3 : BM B P (w2.setCell ⟨P, 1, none⟩ mv') (colN (wc.alloc (.cells #[.int .i64 (-1)] 3)) col2 2) (l ++ [{ p with fin := 0 }]) (s2.mate ++ [-1]) ns s2.lab s2.op.reverse := ⟨_, _, _, _, _, H2, L2⟩
      obtain ⟨ma, mc, rfl, _⟩ := hm.M.form
      obtain ⟨pa', pc', rfl, _⟩ := ho.form
      simp only [List.length_append, List.length_map, List.length_cons, List.length_nil, Nat.zero_add] at BM3 hr x1 y1 bel2
      have mlen : (s2.mate ++ [-1]).length = s2.i + 1 := by simp; omega
      have hB3 := Nat.le_trans hBc bel2.size
      have bel3 := Lib.hid (Below.trans HA.out.q bel2)
      have hr' := Lib.hid hr
      clear H1 L1 B1 q1 H2 L2 X2 F2 bx kk hm hlm hg hn ho hr bel2
      have lo : s2.op.reverse.length ≤ 5000 := by rw [List.length_reverse]; omega
      by_cases h4 : d.b.kind = 4
      · have hb4 : (d.b.kind == 4) = true := by simp [h4]
        cases ha : s2.op.any (fun q => q.2 == d.b.n) with
        | true =>
          have CC := Lib.hid (lc_beginLoopN BM3 d.b.n s.i lo hB3 (by rw [List.any_reverse]; exact ha))
          have ep : Hid (Lb.stepS d.b s = .bad s.i 11) := Lib.hid (by rw [step.out]; unfold Lb.loopS; rw [if_pos h4, if_pos ha, ← hi2])
          clear BM3 e1 e2 e3 e4 e5 e6 e7 e8 e9 h4 ha
          go_wp2_with (first | (at_builtin; refine Lib.wpList_append_run _ rfl (.tmp 59) (.tmp 60) 23 23 rfl _ _ (by rfl) (by rfl) _ w2 hr'.out ?_) | (go_at_call 54; ((with_reducible refine CC.out.mono ?_); rintro e w'' ⟨rfl, b4⟩)))
          exact bodyPost_ret (v := .tuple #[.int .i64 (s.i : Nat), .int .i64 11]) (by simp [results, Tryd.results37, go_sem]) rfl (AdR.bad ep.out (Below.trans bel3.out b4))
        | false =>
          have CC := Lib.hid (lc_beginLoopY BM3 d.b.n s.i lo hB3 (by rw [List.any_reverse]; exact ha))
          have ep : Hid (Lb.stepS d.b s = .ok { s2 with pg := Lb.more s2.i s2.pg, i := s2.i + 1, op := (s2.i, d.b.n) :: s2.op, mate := s2.mate ++ [-1] }) := Lib.hid (by rw [step.out]; unfold Lb.loopS; rw [if_pos h4, if_neg (by simp [ha])])
          have FN := Lib.hid (fun w' col' hb => ad_fin (B := B) (P := P) (w' := w') (col := col') (op := (s2.i, d.b.n) :: s2.op) (mt := s2.mate ++ [-1]) e1 hb e3 mlen (op_cons e5) e6 (by simp; omega) e8 e9)
          clear BM3 e1 e2 e3 e4 e5 e6 e7 e8 e9 h4 ha
          go_wp2_with (first | (at_builtin; refine Lib.wpList_append_run _ rfl (.tmp 59) (.tmp 60) 23 23 rfl _ _ (by rfl) (by rfl) _ w2 hr'.out ?_) | (go_at_call 54; ((with_reducible refine CC.out.mono ?_); rintro e w'' ⟨rfl, br⟩)))
          obtain ⟨col4, bm4, fc4, bel4⟩ := br
          have r := FN.out w'' col4 (by rw [List.reverse_cons, hi2]; exact bm4)
          exact bodyPost_ret (v := .tuple #[.int .i64 (s.i : Nat), .int .i64 0]) (by simp [results, Tryd.results37, go_sem]) rfl (AdR.ok ep.out r (Below.trans bel3.out bel4))
      · have hb4 : (d.b.kind == 4) = false := by simp [h4]
        by_cases h5 : d.b.kind = 5
        · have hb5 : (d.b.kind == 5) = true := by simp [h5]
          cases hop : s2.op with
          | nil =>
            rw [hop, List.reverse_nil] at BM3
            have CC := Lib.hid (lc_endLoopE BM3 d.b.n s.i)
            have ep : Hid (Lb.stepS d.b s = .bad s.i 11) := Lib.hid (by rw [step.out]; unfold Lb.loopS; rw [if_neg h4, if_pos h5]; simp only [hop]; rw [← hi2])
            clear BM3 e1 e2 e3 e4 e5 e6 e7 e8 e9 h4 h5
            go_wp2_with (first | (at_builtin; refine Lib.wpList_append_run _ rfl (.tmp 59) (.tmp 60) 23 23 rfl _ _ (by rfl) (by rfl) _ w2 hr'.out ?_) | (go_at_call 55; ((with_reducible refine CC.out.mono ?_); rintro e w'' ⟨rfl, qq⟩)))
            exact bodyPost_ret (v := .tuple #[.int .i64 (s.i : Nat), .int .i64 11]) (by simp [results, Tryd.results37, go_sem]) rfl (AdR.bad ep.out (Below.trans bel3.out (Below.mono qq hB3)))
          | cons q r =>
            rw [hop, List.reverse_cons] at BM3
            by_cases hq : q.2 = d.b.n
            · have hqi : q.1 < s2.i := e5 q (by rw [hop]; exact List.mem_cons_self ..)
              have c1 := lc_endLoopY BM3 s.i (by omega) (by omega) (by omega) hB3
              rw [hq] at c1
              have CC := Lib.hid c1
              have ep : Hid (Lb.stepS d.b s = .ok { s2 with pg := Lb.more s2.i s2.pg, i := s2.i + 1, op := r, mate := (s2.mate ++ [(q.1 : Int)]).set q.1 s2.i }) := Lib.hid (by rw [step.out]; unfold Lb.loopS; rw [if_neg h4, if_pos h5]; simp only [hop]; rw [if_pos hq])
              have hset : ((s2.mate ++ [-1]).set q.1 (s.i : Int)).set s.i (q.1 : Int) = (s2.mate ++ [(q.1 : Int)]).set q.1 s2.i := by
                rw [← hi2, List.set_append_left _ _ (by omega), List.set_append_right _ _ (by rw [List.length_set]; omega), List.set_append_left _ _ (by omega), List.length_set, e4, Nat.sub_self]
                rfl
              have FN := Lib.hid (fun w' col' hb => ad_fin (B := B) (P := P) (w' := w') (col := col') (op := r) (mt := (s2.mate ++ [(q.1 : Int)]).set q.1 s2.i) e1 hb e3 (by simp; omega) (fun q' hq' => by have := e5 q' (by rw [hop]; exact List.mem_cons_of_mem _ hq'); omega) e6 (by have := congrArg List.length hop; simp at this; omega) e8 e9)
              clear c1 BM3 e1 e2 e3 e4 e5 e6 e7 e8 e9 h4 h5 hq
              go_wp2_with (first | (at_builtin; refine Lib.wpList_append_run _ rfl (.tmp 59) (.tmp 60) 23 23 rfl _ _ (by rfl) (by rfl) _ w2 hr'.out ?_) | (go_at_call 55; ((with_reducible refine CC.out.mono ?_); rintro e w'' ⟨rfl, br⟩)))
              obtain ⟨col4, bm4, fc4, bel4⟩ := br
              rw [hset] at bm4
              have rr := FN.out w'' col4 bm4
              exact bodyPost_ret (v := .tuple #[.int .i64 (s.i : Nat), .int .i64 0]) (by simp [results, Tryd.results37, go_sem]) rfl (AdR.ok ep.out rr (Below.trans bel3.out bel4))
            · have CC := Lib.hid (lc_endLoopN BM3 d.b.n hq s.i)
              have ep : Hid (Lb.stepS d.b s = .bad s.i 11) := Lib.hid (by rw [step.out]; unfold Lb.loopS; rw [if_neg h4, if_pos h5]; simp only [hop]; rw [if_neg hq, ← hi2])
              clear BM3 e1 e2 e3 e4 e5 e6 e7 e8 e9 h4 h5 hq
              go_wp2_with (first | (at_builtin; refine Lib.wpList_append_run _ rfl (.tmp 59) (.tmp 60) 23 23 rfl _ _ (by rfl) (by rfl) _ w2 hr'.out ?_) | (go_at_call 55; ((with_reducible refine CC.out.mono ?_); rintro e w'' ⟨rfl, qq⟩)))
              exact bodyPost_ret (v := .tuple #[.int .i64 (s.i : Nat), .int .i64 11]) (by simp [results, Tryd.results37, go_sem]) rfl (AdR.bad ep.out (Below.trans bel3.out (Below.mono qq hB3)))
        · have hb5 : (d.b.kind == 5) = false := by simp [h5]
          have ep : Hid (Lb.stepS d.b s = .ok { s2 with pg := Lb.more s2.i s2.pg, i := s2.i + 1, op := s2.op, mate := s2.mate ++ [-1] }) := Lib.hid (by rw [step.out]; unfold Lb.loopS; rw [if_neg h4, if_neg h5])
          have r := Lib.hid (ad_fin (op := s2.op) e1 BM3 e3 mlen (fun q hq => by have := e5 q hq; omega) e6 (by omega) e8 e9)
          clear BM3 e1 e2 e3 e4 e5 e6 e7 e8 e9 h4 h5
          go_wp2_with (at_builtin; refine Lib.wpList_append_run _ rfl (.tmp 59) (.tmp 60) 23 23 rfl _ _ (by rfl) (by rfl) _ w2 hr'.out ?_)
          exact bodyPost_ret (v := .tuple #[.int .i64 (s.i : Nat), .int .i64 0]) (by simp [results, Tryd.results37, go_sem]) rfl (AdR.ok ep.out r.out bel3.out)
end
end Go.Proofs.YtlgdjbabbfdngaaDoor

