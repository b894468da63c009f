import Derived.Test.YtlgdjbabbfdngaaDoorZSP2
import Derived.Test.YtlgdjbabbfdngaaDoorZSP5
set_option linter.unusedVariables false
set_option linter.unusedSimpArgs false
namespace Go.Proofs.YtlgdjbabbfdngaaDoor
open Go.RowKit
def BM (B P : Nat) (w : World) (col : Nat → Nat) (pg : List Lb.Pg) (mt ns ls : List Int) (op : List (Nat × Int)) : Prop := ∃ pv mv lv ov nb, Bq B P w pg mt ns op pv mv lv ov nb col ∧ LbM B w lv ls col
theorem BM.kept {B P : Nat} {w w1 : World} {col : Nat → Nat} {pg : List Lb.Pg} {mt ns ls : List Int} {op : List (Nat × Int)} (h : BM B P w col pg mt ns ls op) (q : Qw w w1) : BM B P w1 col pg mt ns ls op := by
  obtain ⟨pv, mv, lv, ov, nb, h, hl⟩ := h
  exact ⟨pv, mv, lv, ov, nb, h.kept q, hl.kept q⟩
def BmR (B P : Nat) (w : World) (col : Nat → Nat) (pg : List Lb.Pg) (mt ns ls : List Int) (op : List (Nat × Int)) (w' : World) : Prop := ∃ col', BM B P w' col' pg mt ns ls op ∧ Fc w w' col col' ∧ Below B w w'
theorem BmR.kept {B P : Nat} {w w1 w2 : World} {col : Nat → Nat} {pg : List Lb.Pg} {mt ns ls : List Int} {op : List (Nat × Int)} (h : BmR B P w col pg mt ns ls op w1) (q : Qw w1 w2) (hB : B ≤ w.heap.size) : BmR B P w col pg mt ns ls op w2 := by
  obtain ⟨col', h, f, b⟩ := h
  exact ⟨col', h.kept q, f.trans (Fc.of q), Below.trans b (Below.mono q (Nat.le_trans hB b.size))⟩
section
variable {B P : Nat} {w : World} {pg : List Lb.Pg} {mt ns ls : List Int} {op : List (Nat × Int)} {pv mv lv ov : Value} {nb : Nat} {col : Nat → Nat}
theorem field_loop0 (a b : Int) (w : World) : (Instr.field 88 (.agg #[.int .i64 a, .int .i64 b]) 0).run Tryd.prog w = .ok (.int .i64 a) w := by kernel_rfl
theorem field_loop1 (a b : Int) (w : World) : (Instr.field 88 (.agg #[.int .i64 a, .int .i64 b]) 1).run Tryd.prog w = .ok (.int .i64 b) w := by kernel_rfl
set_option maxRecDepth 100000 in
set_option maxHeartbeats 4000000 in
theorem lc_inner {q : Nat × Int} (h : Bq B P w pg mt ns (op ++ [q]) pv mv lv ov nb col) : Calls Tryd.prog 56 #[.pointer (some ⟨P, 0, none⟩)] w fun e w' => e = .returned (.agg #[.int .i64 q.2, .int .i64 q.1]) ∧ Qw w w' := by
  have x4 := h.X.cell' 4 ov rfl
  obtain ⟨g, cap, rfl, k1, k2, k3, k4, k5, o0, o1, _⟩ := h.cutO
  have hP := h.ltP
  have hPn : P ≠ w.heap.size := by omega
  have hgn : g ≠ w.heap.size := by omega
  obtain ⟨k, hk⟩ : ∃ k, k = op.length := ⟨_, rfl⟩
  rw [← hk] at k1 o0 o1 x4
  have ek : IntKind.i64.wrap (k : Int) = k := IntWalk.i64_in _ (by omega)
  have e0 : 0 ≤ (k : Int) := by omega
  have e1 : (k : Int) < (k : Int) + 1 := by omega
  clear h hk
  have q0 : Hid (Qw w w) := Lib.hid (Qw.refl w)
  go_enter Tryd.func56, Tryd.ntmps56
  go_wp2
  refine wp_region_still_tail 12 (by kernel_rfl) (by kernel_rfl) ?_
  change wpStill _ _ (World.drew _) _ _ _
  simp only [List.take_succ_cons, List.take_zero, List.drop_succ_cons, List.drop_zero]
  repeat still_step
  refine wpStill_nil ?_
  change wpList _ _ _ _ _ (World.drew _)
  go_wp2
  exact bodyPost_ret (v := .agg #[.int .i64 q.2, .int .i64 q.1]) (by simp [results, Tryd.results56, go_sem]) rfl ⟨rfl, Qz⟩
set_option maxRecDepth 100000 in
set_option maxHeartbeats 4000000 in
theorem lc_endProgY {p : Lb.Pg} (h : BM B P w col (pg ++ [p]) mt ns ls []) (hB : B ≤ w.heap.size) : Calls Tryd.prog 38 #[.pointer (some ⟨P, 0, none⟩)] w fun e w' => e = .returned (.tuple #[.int .i64 0, .int .i64 0]) ∧ BmR B P w col (pg ++ [{ p with fin := mt.length }]) mt ns ls [] w' := by
  obtain ⟨pv, mv, lv, ov, nb, h, hl⟩ := h
  have x0 := h.X.cell' 0 pv rfl
  have x1 := h.X.cell' 1 mv rfl
  have x4 := h.X.cell' 4 ov rfl
  obtain ⟨a0, cap0, rfl, k1, k2, kg⟩ := h.G.form
  obtain ⟨g, rfl, g1, g2⟩ := kg (by simp)
  clear kg
  obtain ⟨a1, cap1, rfl, m1, m2, _⟩ := h.M.form
  obtain ⟨a2, cap2, rfl, _, _, _⟩ := h.O.form
  have hP := h.ltP
  have hf := h.setF (g := g) rfl mt.length
  have hlk := hl.keep (w2 := w.setCell ⟨g, pg.length * 3 + 2, none⟩ (.int .i64 (mt.length : Nat))) h.c0 (c := 1) (by decide) (turn_own (h.c1 g rfl) _ _)
  have of := h.G.free (g := g) rfl (pg.length * 3 + 2)
  have oc := h.G.at (g := g) rfl (i := pg.length) (by simp) (j := 2) (u := .int .i64 p.fin) (by simp [pcell])
  simp only [List.length_map, List.length_append, List.length_cons, List.length_nil, Nat.zero_add] at x0 x1 x4 k1 m1 hf hlk oc of
  have R : Hid (BmR B P w col (pg ++ [{ p with fin := mt.length }]) mt ns ls [] (w.setCell ⟨g, pg.length * 3 + 2, none⟩ (.int .i64 (mt.length : Nat)))) := Lib.hid ⟨_, ⟨_, _, _, _, _, hf, hlk⟩, Fc.own h.c0 (by decide) (h.c1 g rfl) _ _, Below.setCell (Below.refl _ _) g1 _⟩
  clear hf hlk h hl
  generalize pg.length = k at *
  generalize mt.length = m at *
  have ek : IntKind.i64.wrap (k : Int) = k := IntWalk.i64_in _ (by omega)
  have e0 : 0 ≤ (k : Int) := by omega
  have e1 : (k : Int) < (k : Int) + 1 := by omega
  go_enter Tryd.func38, Tryd.ntmps38
  go_wp2
  refine wp_region_still_tail 17 (by kernel_rfl) (by kernel_rfl) ?_
  change wpStill _ _ (World.drew _) _ _ _
  simp only [List.take_succ_cons, List.take_zero, List.drop_succ_cons, List.drop_zero]
  repeat still_step
  refine wpStill_nil ?_
  change wpList _ _ _ _ _ (World.drew _)
  go_wp2
  exact bodyPost_ret (v := .tuple #[.int .i64 0, .int .i64 0]) (by simp [results, Tryd.results38, go_sem]) rfl ⟨rfl, R.out.kept (Qw.dr (Qw.refl _)) hB⟩
set_option maxRecDepth 100000 in
set_option maxHeartbeats 4000000 in
theorem lc_endProgN {q : Nat × Int} (h : BM B P w col pg mt ns ls (op ++ [q])) : Calls Tryd.prog 38 #[.pointer (some ⟨P, 0, none⟩)] w fun e w' => e = .returned (.tuple #[.int .i64 q.1, .int .i64 11]) ∧ Qw w w' := by
  obtain ⟨pv, mv, lv, ov, nb, h, hl⟩ := h
  have hi := lc_inner h
  have HI := Lib.hid hi
  have x4 := h.X.cell' 4 ov rfl
  obtain ⟨g, cap, rfl, k1, k2, k3, k4, k5, o0, o1, _⟩ := h.cutO
  have hP := h.ltP
  have e1 : (0 : Int) < (op.length : Int) + 1 := by omega
  have fl := field_loop1 q.2 q.1
  clear h hl hi
  go_enter Tryd.func38, Tryd.ntmps38
  go_wp2_with (go_at_call 56; ((with_reducible refine HI.out.mono ?_); rintro e w' ⟨rfl, qq⟩))
  exact bodyPost_ret (v := .tuple #[.int .i64 q.1, .int .i64 11]) (by simp [results, Tryd.results38, go_sem]) rfl ⟨rfl, qq⟩
theorem info_prog : (Tryd.prog.info? 76).map (fun i => (i.zero, i.size, i.bytes)) = some (some (.agg #[.int .i64 0, .int .i64 0, .int .i64 0]), 3, 24) := by kernel_rfl
theorem info_loop : (Tryd.prog.info? 88).map (fun i => (i.zero, i.size, i.bytes)) = some (some (.agg #[.int .i64 0, .int .i64 0]), 2, 16) := by kernel_rfl
theorem info_int : (Tryd.prog.info? 3).map (fun i => (i.zero, i.size, i.bytes)) = some (some (.int .i64 0), 1, 8) := by kernel_rfl
theorem some_le {B nb : Nat} (h : B ≤ nb) : ∀ j, some nb = some j → B ≤ j := fun j e => by cases e; exact h
theorem le_al (B : Nat) (w : World) (o : Obj) (h : B ≤ w.heap.size) : B ≤ (w.alloc o).heap.size := by simp; omega
theorem bel_own {w w1 : World} {v : Value} (q : Qw w w1) (hB : B ≤ w.heap.size) (hv : ∀ g, v.ownBlock = some g → B ≤ g) {w2 : World} (hg : w1.grownBy w2 v.ownBlock) : Below B w w2 :=
  ⟨hg.os.trans q.os, hg.tape.trans q.tape, hg.output.trans q.output, Nat.le_trans q.size hg.size, fun b hb => (hg.block b (by have := q.size; omega) (fun e => by have := hv b e.symm; omega)).trans (q.block b (by omega))⟩
set_option maxRecDepth 100000 in
set_option maxHeartbeats 4000000 in
theorem lc_begin (h : Bq B P w pg mt ns op pv mv lv ov nb col) (n : Int) (n1 : -9223372036854775808 ≤ n) (n2 : n ≤ 9223372036854775807) (l1 : pg.length ≤ 5000) (l2 : ns.length ≤ 5000) (l3 : mt.length ≤ 5000) (hB : B ≤ w.heap.size) :
    Calls Tryd.prog 53 #[.pointer (some ⟨P, 0, none⟩), .int .i64 n] w fun e w' => e = .returned (.tuple #[]) ∧ BmR B P w col (pg ++ [⟨n, mt.length, 0⟩]) mt (n :: ns) [] op w' := by
  have hmm := @run_makeMap Tryd.prog
  have x0 := h.X.cell' 0 pv rfl
  have x1 := h.X.cell' 1 mv rfl
  have f0 := h.X.free 0
  have hP := h.ltP
  have hPn : P ≠ w.heap.size := by omega
  obtain ⟨a1, cap1, rfl, m1, m2, _⟩ := h.M.form
  simp only [List.length_map] at x1 m1
  have hpv : ∃ a n c, pv = .slice a n c := by obtain ⟨a, c, e, _⟩ := h.G.form; exact ⟨a, _, c, e⟩
  have HH := Lib.hid h
  clear h
  obtain ⟨S, hS⟩ : ∃ S : World → Prop, ∀ w', S w' ↔ (w'.cell? ⟨P, 0, none⟩ = some pv ∧ w'.cell? ⟨P, 1, none⟩ = some (.slice a1 mt.length cap1)) := ⟨_, fun _ => Iff.rfl⟩
  have HS := Lib.hid hS
  clear hS
  go_enter Tryd.func53, Tryd.ntmps53
  go_wp2
  refine wp_region_M S 16 (by kernel_rfl) ?_
  have hSS : S (World.drew w) := (HS.out _).2 ⟨x0, x1⟩
  refine wpAnyM_take (i := 0) (v := ?_) rfl (by kernel_rfl) (fun _ _ _ h => h) (Or.inl ⟨by rfl, ?_⟩) hSS ?_
  rotate_left 1
  · intro wS hwS
    go_simp
    try with_reducible rfl
  simp only [List.getElem_toArray, List.getElem_cons_succ, List.getElem_cons_zero, Act.put, List.setIfInBounds_toArray, List.set_cons_zero, List.set_cons_succ]
  refine wpAnyM_take (i := 1) (v := ?_) rfl (by kernel_rfl) (fun _ _ _ h => h) (Or.inl ⟨by rfl, ?_⟩) hSS ?_
  rotate_left 1
  · intro wS hwS
    go_simp
    try with_reducible rfl
  simp only [List.getElem_toArray, List.getElem_cons_succ, List.getElem_cons_zero, Act.put, List.setIfInBounds_toArray, List.set_cons_zero, List.set_cons_succ]
  refine wpAnyM_take (i := 2) (v := ?_) rfl (by kernel_rfl) (fun _ _ _ h => h) (Or.inl ⟨by rfl, ?_⟩) hSS ?_
  rotate_left 1
  · intro wS hwS
    go_simp
    try with_reducible rfl
  simp only [List.getElem_toArray, List.getElem_cons_succ, List.getElem_cons_zero, Act.put, List.setIfInBounds_toArray, List.set_cons_zero, List.set_cons_succ]
  refine wpAnyM_take (i := 3) (v := ?_) rfl (by kernel_rfl) (fun _ _ _ h => h) (Or.inl ⟨by rfl, ?_⟩) hSS ?_
  rotate_left 1
  · intro wS hwS
    go_simp
    try with_reducible rfl
  simp only [List.getElem_toArray, List.getElem_cons_succ, List.getElem_cons_zero, Act.put, List.setIfInBounds_toArray, List.set_cons_zero, List.set_cons_succ]
  refine wpAnyM_take (i := 4) (v := ?_) rfl (by kernel_rfl) (fun _ _ _ h => h) (Or.inl ⟨by rfl, ?_⟩) hSS ?_
  rotate_left 1
  · intro wS hwS
    obtain ⟨c0, c1⟩ := (HS.out wS).1 hwS; go_simp
    try with_reducible rfl
  simp only [List.getElem_toArray, List.getElem_cons_succ, List.getElem_cons_zero, Act.put, List.setIfInBounds_toArray, List.set_cons_zero, List.set_cons_succ]
  refine wpAnyM_take (i := 5) (v := ?_) rfl (by kernel_rfl) (fun _ _ _ h => h) (Or.inl ⟨by rfl, ?_⟩) hSS ?_
  rotate_left 1
  · intro wS hwS
    go_simp
    try with_reducible rfl
  simp only [List.getElem_toArray, List.getElem_cons_succ, List.getElem_cons_zero, Act.put, List.setIfInBounds_toArray, List.set_cons_zero, List.set_cons_succ]
  refine wpAnyM_take (i := 6) (v := ?_) rfl (by kernel_rfl) (fun _ _ _ h => h) (Or.inl ⟨by rfl, ?_⟩) hSS ?_
  rotate_left 1
  · intro wS hwS
    go_simp
    try with_reducible rfl
  simp only [List.getElem_toArray, List.getElem_cons_succ, List.getElem_cons_zero, Act.put, List.setIfInBounds_toArray, List.set_cons_zero, List.set_cons_succ]
  refine wpAnyM_take (i := 7) (v := ?_) rfl (by kernel_rfl) (fun _ _ _ h => h) (Or.inl ⟨by rfl, ?_⟩) hSS ?_
  rotate_left 1
  · intro wS hwS
    go_simp
    try with_reducible rfl
  simp only [List.getElem_toArray, List.getElem_cons_succ, List.getElem_cons_zero, Act.put, List.setIfInBounds_toArray, List.set_cons_zero, List.set_cons_succ]
  refine wpAnyM_take (i := 8) (v := ?_) rfl (by kernel_rfl) (fun _ _ _ h => h) (Or.inl ⟨by rfl, ?_⟩) hSS ?_
  rotate_left 1
  · intro wS hwS
    go_simp
    try with_reducible rfl
  simp only [List.getElem_toArray, List.getElem_cons_succ, List.getElem_cons_zero, Act.put, List.setIfInBounds_toArray, List.set_cons_zero, List.set_cons_succ]
  refine wpAnyM_take (i := 9) (v := ?_) rfl (by kernel_rfl) (fun _ _ _ h => h) (Or.inl ⟨by rfl, ?_⟩) hSS ?_
  rotate_left 1
  · intro wS hwS
    obtain ⟨c0, c1⟩ := (HS.out wS).1 hwS; go_simp
    try with_reducible rfl
  simp only [List.getElem_toArray, List.getElem_cons_succ, List.getElem_cons_zero, Act.put, List.setIfInBounds_toArray, List.set_cons_zero, List.set_cons_succ]
  refine wpAnyM_take (i := 10) (v := ?_) rfl (by kernel_rfl) (fun _ _ _ h => h) (Or.inl ⟨by rfl, ?_⟩) hSS ?_
  rotate_left 1
  · intro wS hwS
    go_simp
    try with_reducible rfl
  simp only [List.getElem_toArray, List.getElem_cons_succ, List.getElem_cons_zero, Act.put, List.setIfInBounds_toArray, List.set_cons_zero, List.set_cons_succ]
  refine wpAnyM_take (i := 11) (v := ?_) rfl (by kernel_rfl) (fun _ _ _ h => h) (Or.inl ⟨by rfl, ?_⟩) hSS ?_
  rotate_left 1
  · intro wS hwS
    go_simp
    try with_reducible rfl
  simp only [List.getElem_toArray, List.getElem_cons_succ, List.getElem_cons_zero, Act.put, List.setIfInBounds_toArray, List.set_cons_zero, List.set_cons_succ]
  refine wpAnyM_one (i := 12) rfl (by kernel_rfl) rfl (fun K hK => ?_)
  go_simp
  refine hK _ _ (fun _ => (HS.out _).2 ⟨?_, ?_⟩) ?_
  · go_simp
  · go_simp
  clear hK K hSS
  have q1 : Qw w (w.alloc (.cells #[.int .i64 n, .int .i64 (mt.length : Nat), .int .i64 0] 76)).drew := Qw.dr (Qw.al (Qw.refl w) _)
  have H1 := HH.out.kept q1
  have B1 : Bx (w.alloc (.cells #[.int .i64 n, .int .i64 (mt.length : Nat), .int .i64 0] 76)).drew w.heap.size (pcell ⟨n, mt.length, 0⟩).toArray 76 := Bx.new w _ _
  obtain ⟨pv', w2, hr, ho, hg, hn⟩ := g_append (ty := 39) 76 39 3 24 _ _ w.heap.size info_prog Tryd.underlying39 rfl (by decide) (by decide) B1 rfl (by intro u hu; simp [pcell] at hu; rcases hu with rfl | rfl | rfl <;> rfl) H1.G (by rw [List.length_map]; omega) (le_al B w _ hB)
  have bel2 := bel_own q1 hB (fun g hg => (HH.out.G.lt hg).1) hg
  have H2 := H1.newG (pg' := pg ++ [⟨n, mt.length, 0⟩]) (by rw [List.map_append]; exact ho) hg hn
  have X2 := H1.px1 (by decide) H1.c1 hg
  have y0 := X2.cell' 0 pv rfl
  have y1 := X2.free 0
  have e2 : S w2 := (HS.out _).2 ⟨y0, by have := X2.cell' 1 _ rfl; simpa using this⟩
  refine wpAnyM_one (i := 13) rfl (by kernel_rfl) rfl (fun K hK => ?_)
  obtain ⟨pa, pn, pc, rfl⟩ := hpv
  refine Lib.wp_append_run _ (.tmp 8) (.tmp 16) 39 39 rfl _ _ (by rfl) (by rfl) pv' w2 hr ?_
  refine hK _ _ (fun _ => e2) ?_
  clear hK K
  have hSS := e2
  refine wpAnyM_take (i := 14) (v := ?_) rfl (by kernel_rfl) (fun _ _ _ h => h) (Or.inl ⟨by rfl, ?_⟩) hSS ?_
  rotate_left 1
  · intro wS hwS
    go_simp
    try with_reducible rfl
  simp only [List.getElem_toArray, List.getElem_cons_succ, List.getElem_cons_zero, Act.put, List.setIfInBounds_toArray, List.set_cons_zero, List.set_cons_succ]
  refine wpAnyM_take (i := 15) (v := ?_) rfl (by kernel_rfl) (fun _ _ _ h => h) (Or.inl ⟨by rfl, ?_⟩) hSS ?_
  rotate_left 1
  · intro wS hwS
    go_simp
    try with_reducible rfl
  simp only [List.getElem_toArray, List.getElem_cons_succ, List.getElem_cons_zero, Act.put, List.setIfInBounds_toArray, List.set_cons_zero, List.set_cons_succ]
  refine wpAnyM_one (i := 16) rfl (by kernel_rfl) rfl (fun K hK => ?_)
  obtain ⟨pa', pc', rfl, _⟩ := ho.form
  go_simp
  refine hK _ _ (fun h => absurd h (by decide)) ?_
  clear hK K hSS e2
  refine wpAnyM_done (by kernel_rfl) ?_ _
  have F2 := (Fc.of (col := col) q1).trans (Fc.grown H1.c0 (by decide) H1.c1 hg 0 (.slice pa' (List.map pcell pg ++ [pcell ⟨n, mt.length, 0⟩]).length pc'))
  have bel3 := Below.setCell (p := ⟨P, 0, none⟩) bel2 H2.hP (.slice pa' (List.map pcell pg ++ [pcell ⟨n, mt.length, 0⟩]).length pc')
  have hlen : (List.map pcell pg ++ [pcell ⟨n, mt.length, 0⟩]).length = pg.length + 1 := by simp
  rw [hlen] at H2 bel3 F2
  generalize w2.setCell ⟨P, 0, none⟩ (.slice pa' (pg.length + 1) pc') = w3 at *
  clear y0 y1 X2 H1 B1 q1 hg hn ho hr HS x0 x1 f0 HH
  clear bel2
  have z2 := H2.X.cell' 2 (.map (some nb)) rfl
  have hb3 : B ≤ w3.heap.size := Nat.le_trans hB bel3.size
  go_wp2_with (at_mapUpdate; refine set_put (by rfl) _ _ _ (by rfl) (by rfl) n (by rfl) (by rfl) H2.N n1 n2 (by omega) ?_; intro w4 hN hg4; have H4 := H2.newN hN hg4; have F4 := F2.trans (Fc.one H2.c0 (by decide) H2.c3 hg4); have z3 := H4.X.cell' 3 lv rfl; have f3 := H4.X.free 3; have hP4 := H4.ltP; have hPn4 := Nat.ne_of_lt hP4; have bel4 := bel3.grown hg4 hb3 (some_le H2.hn))
  have fin := H4.freeL (by have := bel4.size; omega)
  have bel5 : Below B w ((w4.alloc (.map #[] 0)).setCell ⟨P, 3, none⟩ (.map (some w4.heap.size))) := Below.setCell (Below.alloc bel4 (by have := bel4.size; omega) _) H4.hP _
  have F5 := F4.trans (Fc.free H4.c0 (.map (some w4.heap.size)))
  rw [World.setCell_alloc_past _ _ _ _ hP4] at fin bel5 F5
  exact bodyPost_end (v := .tuple #[]) (by simp [results, Tryd.results53, go_sem]) rfl ⟨rfl, _, ⟨_, _, _, _, _, fin.1, fin.2⟩, F5, bel5⟩
end
end Go.Proofs.YtlgdjbabbfdngaaDoor
set_option linter.unusedVariables false
set_option linter.unusedSimpArgs false
namespace Go.Proofs.YtlgdjbabbfdngaaDoor
open Go.RowKit
section
variable {B P : Nat} {w : World} {pg : List Lb.Pg} {mt ns ls : List Int} {op : List (Nat × Int)} {pv mv lv ov : Value} {nb : Nat} {col : Nat → Nat}
theorem any_take {l : List (Nat × Int)} {n : Int} {i : Nat} (hi : i < l.length) : ((l[i]).2 = n → l.any (fun q => q.2 == n) = true) ∧ ((l.take i).any (fun q => q.2 == n) = false → (l[i]).2 ≠ n → (l.take (i + 1)).any (fun q => q.2 == n) = false) := by
  refine ⟨fun h => List.any_eq_true.2 ⟨_, List.getElem_mem hi, by simpa using h⟩, fun h k => ?_⟩
  rw [List.take_succ_eq_append_getElem hi, List.any_append, h]
  simpa using k
def BgL (B P : Nat) (w : World) (col : Nat → Nat) (pg : List Lb.Pg) (mt ns ls : List Int) (op : List (Nat × Int)) (n : Int) (i : Nat) (e : Ending) (w' : World) : Prop :=
  (if op.any (fun q => q.2 == n) = true then e = .returned (.int .i64 11) ∧ Below B w w' else (e = .returned (.int .i64 0) ∧ BmR B P w col pg mt ns ls (op ++ [(i, n)]) w'))
set_option maxRecDepth 100000 in
set_option maxHeartbeats 4000000 in
theorem lc_beginLoop (h : BM B P w col pg mt ns ls op) (n : Int) (i : Nat) (l1 : op.length ≤ 5000) (hB : B ≤ w.heap.size) :
    Calls Tryd.prog 54 #[.pointer (some ⟨P, 0, none⟩), .int .i64 n, .int .i64 (i : Nat)] w (BgL B P w col pg mt ns ls op n i) := by
  obtain ⟨pv, mv, lv, ov, nb, h, hl⟩ := h
  have x4 := h.X.cell' 4 ov rfl
  have hP := h.ltP
  have at_ : ∀ g, ov.ownBlock = some g → ∀ k (hk : k < op.length), w.cell? ⟨g, k * 2, none⟩ = some (.int .i64 (op[k]).2) ∧ w.cell? ⟨g, k * 2 + 1, none⟩ = some (.int .i64 ((op[k]).1 : Nat)) := fun g hg k hk => by
    have a := h.O.at hg (i := k) (by simpa using hk) (j := 0) (u := .int .i64 (op[k]).2) (by simp [lcell])
    have b := h.O.at hg (i := k) (by simpa using hk) (j := 1) (u := .int .i64 ((op[k]).1 : Nat)) (by simp [lcell])
    rw [Nat.add_zero] at a
    exact ⟨a, b⟩
  obtain ⟨a, cap, rfl, k1, k2, kg⟩ := h.O.form
  simp only [List.length_map] at x4 k1
  have HH := Lib.hid (And.intro h hl)
  have AT := Lib.hid at_
  have KG := Lib.hid kg
  clear h hl at_ kg
  go_enter Tryd.func54, Tryd.ntmps54
  go_wp2
  go_loopw [14] (fun kv wr => ∃ k : Nat, k ≤ op.length ∧ kv = .int .i64 (k : Int) ∧ Hid ((op.take k).any (fun q => q.2 == n) = false) ∧ Hid (Qw w wr)) (fun kv _ => op.length - (intOf kv).toNat)
  case atStart => exact ⟨0, by omega, rfl, Lib.hid rfl, Lib.hid (Qw.refl w)⟩
  case round =>
    obtain ⟨k, hk, rfl, HE, HQ⟩ := hrel
    have h63 : (k : Int) ≤ 9223372036854775806 := by omega
    by_cases hlt : k < op.length
    · have hko := hlt
      obtain ⟨g, rfl, g1, g2⟩ := KG.out (by intro e; have := congrArg List.length e; simp at this; subst this; simp at hko)
      obtain ⟨c0, c1⟩ := AT.out g rfl k hko
      have gw : g < wr.heap.size := Nat.lt_of_lt_of_le g2 HQ.out.size
      have gn : g ≠ wr.heap.size := by omega
      rw [← HQ.out.cell (p := ⟨g, k * 2, none⟩) g2] at c0
      rw [← HQ.out.cell (p := ⟨g, k * 2 + 1, none⟩) g2] at c1
      have hlt' : (k : Int) < (op.length : Int) := by omega
      obtain ⟨ay, an⟩ := any_take (n := n) hko
      by_cases e : (op[k]).2 = n
      · have R := Lib.hid (ay e)
        rw [e] at c0
        clear ay an HE
        generalize (op[k]).1 = j at c1
        go_wp2
        go_ret
        unfold BgL
        rw [if_pos R.out]
        exact ⟨rfl, Below.mono (Qw.al HQ.out _) hB⟩
      · have R := Lib.hid (an HE.out e)
        clear ay an HE
        generalize (op[k]).1 = j at c1
        generalize (op[k]).2 = m at c0 e
        go_wp2
        go_roundw
        case measure => simp [intOf]; omega
        case rel => exact ⟨k + 1, by omega, by go_num, R, Lib.hid (Qw.al HQ.out _)⟩
    · obtain rfl : k = op.length := by omega
      have hb : ¬ (op.length : Int) < (op.length : Int) := by omega
      have hE : op.any (fun q => q.2 == n) = false := by have := HE.out; rwa [List.take_length] at this
      have q1 : Qw w (wr.alloc (.cells #[.int .i64 n, .int .i64 (i : Nat)] 88)) := Qw.al HQ.out _
      have H1 := HH.out.1.kept q1
      have L1 := HH.out.2.kept q1
      have B1 : Bx (wr.alloc (.cells #[.int .i64 n, .int .i64 (i : Nat)] 88)) wr.heap.size (lcell (i, n)).toArray 88 := Bx.new wr _ _
      obtain ⟨ov', w2, hr, ho, hg, hn⟩ := g_append (ty := 71) 88 71 2 16 _ _ wr.heap.size info_loop Tryd.underlying71 rfl (by decide) (by decide) B1 rfl (by intro u hu; simp [lcell] at hu; rcases hu with rfl | rfl <;> rfl) H1.O (by rw [List.length_map]; omega) (Nat.le_trans hB q1.size)
      have bel2 := bel_own q1 hB (fun g hg => (HH.out.1.O.lt hg).1) hg
      have H2 := H1.newO (op' := op ++ [(i, n)]) (by rw [List.map_append]; exact ho) hg hn
      have L2 := L1.keep (w2 := w2.setCell ⟨P, 4, none⟩ ov') H1.c0 (c := 5) (by decide) (turn_set H1.c5 hg 4 ov')
      have X2 := H1.px1 (by decide) H1.c5 hg
      have y4 : w2.cell? ⟨P, 4, none⟩ = some (.slice a op.length cap) := by have := X2.cell' 4 _ rfl; simpa using this
      have z4 := X2.free 4
      have xr : wr.cell? ⟨P, 4, none⟩ = some (.slice a op.length cap) := (HQ.out.cell (p := ⟨P, 4, none⟩) hP).trans x4
      have hP2 := X2.lt
      have bel3 := Below.setCell (p := ⟨P, 4, none⟩) bel2 H2.hP ov'
      have F2 := (Fc.of (col := col) q1).trans (Fc.grown H1.c0 (by decide) H1.c5 hg 4 ov')
      have R : Hid (BmR B P w col pg mt ns ls (op ++ [(i, n)]) (w2.setCell ⟨P, 4, none⟩ ov')) := Lib.hid ⟨_, ⟨_, _, _, _, _, H2, L2⟩, F2, bel3⟩
      obtain ⟨pa', pc', rfl, _⟩ := ho.form
      simp only [List.length_append, List.length_map, List.length_cons, List.length_nil, Nat.zero_add] at R hr
      have HE' := Lib.hid hE
      have hPr : P < wr.heap.size := Nat.lt_of_lt_of_le hP HQ.out.size
      have hPn : P ≠ wr.heap.size := by omega
      clear F2 bel2 bel3 H2 L2 H1 L1 B1 q1 hg hn HH AT KG hE X2 ho HE
      go_wp2_with (at_builtin; refine Lib.wpList_append_run _ rfl (.tmp 27) (.tmp 31) 71 71 rfl _ _ (by rfl) (by rfl) _ w2 hr ?_)
      go_ret
      unfold BgL
      rw [if_neg (by rw [HE'.out]; decide)]
      exact ⟨rfl, R.out⟩
end
end Go.Proofs.YtlgdjbabbfdngaaDoor
set_option linter.unusedVariables false
set_option linter.unusedSimpArgs false
namespace Go.Proofs.YtlgdjbabbfdngaaDoor
open Go.RowKit
section
variable {B P : Nat} {w : World} {pg : List Lb.Pg} {mt ns ls : List Int} {op : List (Nat × Int)} {pv mv lv ov : Value} {nb : Nat} {col : Nat → Nat}
set_option maxRecDepth 100000 in
set_option maxHeartbeats 4000000 in
theorem lc_endLoopE (h : BM B P w col pg mt ns ls []) (n : Int) (i : Nat) : Calls Tryd.prog 55 #[.pointer (some ⟨P, 0, none⟩), .int .i64 n, .int .i64 (i : Nat)] w fun e w' => e = .returned (.int .i64 11) ∧ Qw w w' := by
  obtain ⟨pv, mv, lv, ov, nb, h, hl⟩ := h
  have x4 := h.X.cell' 4 ov rfl
  obtain ⟨a, cap, rfl, k1, k2, kg⟩ := h.O.form
  simp only [List.length_map, List.length_nil] at x4 k1
  clear h hl kg
  go_enter Tryd.func55, Tryd.ntmps55
  go_wp2
  go_ret
  exact ⟨rfl, Qw.refl w⟩
set_option maxRecDepth 100000 in
set_option maxHeartbeats 4000000 in
theorem lc_endLoopN {q : Nat × Int} (h : BM B P w col pg mt ns ls (op ++ [q])) (n : Int) (hn : q.2 ≠ n) (i : Nat) : Calls Tryd.prog 55 #[.pointer (some ⟨P, 0, none⟩), .int .i64 n, .int .i64 (i : Nat)] w fun e w' => e = .returned (.int .i64 11) ∧ Qw w w' := by
  obtain ⟨pv, mv, lv, ov, nb, h, hl⟩ := h
  have hi := lc_inner h
  have HI := Lib.hid hi
  have x4 := h.X.cell' 4 ov rfl
  obtain ⟨g, cap, rfl, k1, k2, k3, k4, k5, o0, o1, _⟩ := h.cutO
  have e1 : ((op.length : Int) + 1 == 0) = false := beq_eq_false_iff_ne.2 (by omega)
  have e2 : (q.2 != n) = true := bne_iff_ne.2 hn
  have fl := field_loop0 q.2 q.1
  clear h hl hi
  go_enter Tryd.func55, Tryd.ntmps55
  go_wp2_with (go_at_call 56; ((with_reducible refine HI.out.mono ?_); rintro e w' ⟨rfl, qq⟩))
  go_ret
  exact ⟨rfl, qq⟩
set_option maxRecDepth 100000 in
set_option maxHeartbeats 4000000 in
theorem lc_endLoopY {q : Nat × Int} (h : BM B P w col pg mt ns ls (op ++ [q])) (i : Nat) (hi : i < mt.length) (hq : q.1 < mt.length) (hm : mt.length ≤ 5000) (hB : B ≤ w.heap.size) : Calls Tryd.prog 55 #[.pointer (some ⟨P, 0, none⟩), .int .i64 q.2, .int .i64 (i : Nat)] w fun e w' => e = .returned (.int .i64 0) ∧ BmR B P w col pg ((mt.set q.1 i).set i q.1) ns ls op w' := by
  obtain ⟨pv, mv, lv, ov, nb, h, hl⟩ := h
  have hin := fun (w' : World) (q' : Qw w w') => lc_inner (h.kept q')
  have HI := Lib.hid hin
  have x1 := h.X.cell' 1 mv rfl
  have x4 := h.X.cell' 4 ov rfl
  have HH := Lib.hid (And.intro h hl)
  obtain ⟨a1, cap1, rfl, m1, m2, kg⟩ := h.M.form
  obtain ⟨mg, rfl, mg1, mg2⟩ := kg (by intro e; have := congrArg List.length e; simp at this; subst this; simp at hi)
  simp only [List.length_map] at x1 m1
  obtain ⟨g, cap, rfl, k1, k2, k3, k4, k5, o0, o1, _⟩ := h.cutO
  have hP := h.ltP
  have e1 : ((op.length : Int) + 1 == 0) = false := beq_eq_false_iff_ne.2 (by omega)
  have fl0 := field_loop0 q.2 q.1
  have fl1 := field_loop1 q.2 q.1
  have ek : IntKind.i64.wrap (op.length : Int) = op.length := IntWalk.i64_in _ (by omega)
  have e2 : (0 : Int) ≤ (op.length : Int) := by omega
  have hPg : P ≠ mg := fun e => by have := h.c0; rw [e, h.c2 mg rfl] at this; cases this
  have b1 : (q.1 : Int) < (mt.length : Int) := by omega
  have b2 : (i : Int) < (mt.length : Int) := by omega
  have b3 : (0 : Int) ≤ (q.1 : Int) := by omega
  have b4 : (0 : Int) ≤ (i : Int) := by omega
  clear h hl hin kg
  obtain ⟨S, hS⟩ : ∃ S : World → Prop, ∀ w', S w' ↔ (w'.cell? ⟨P, 1, none⟩ = some (.slice (some ⟨mg, 0, none⟩) mt.length cap1)) := ⟨_, fun _ => Iff.rfl⟩
  have HS := Lib.hid hS
  clear hS
  have q0 : Hid (Qw w w) := Lib.hid (Qw.refl w)
  go_enter Tryd.func55, Tryd.ntmps55
  go_wp2_with (go_at_call 56; ((with_reducible refine (HI.out _ q0.out).mono ?_); rintro e w' ⟨rfl, qq⟩; replace q0 := Lib.hid (q0.out.trans qq)))
  have H1 := HH.out.1.kept q0.out
  have L1 := HH.out.2.kept q0.out
  have X1 := H1.X.cell' 1 (.slice (some ⟨mg, 0, none⟩) mt.length cap1) (by simp)
  refine wp_region_M S 15 (by kernel_rfl) ?_
  have hSS : S (World.drew w') := (HS.out _).2 X1
  refine wpAnyM_take (i := 0) (v := ?_) rfl (by kernel_rfl) (fun _ _ _ h => h) (Or.inl ⟨by rfl, ?_⟩) hSS ?_
  rotate_left 1
  · intro wS hwS
    go_simp
    try with_reducible rfl
  simp only [List.getElem_toArray, List.getElem_cons_succ, List.getElem_cons_zero, Act.put, List.setIfInBounds_toArray, List.set_cons_zero, List.set_cons_succ]
  refine wpAnyM_take (i := 1) (v := ?_) rfl (by kernel_rfl) (fun _ _ _ h => h) (Or.inl ⟨by rfl, ?_⟩) hSS ?_
  rotate_left 1
  · intro wS hwS
    go_simp
    try with_reducible rfl
  simp only [List.getElem_toArray, List.getElem_cons_succ, List.getElem_cons_zero, Act.put, List.setIfInBounds_toArray, List.set_cons_zero, List.set_cons_succ]
  refine wpAnyM_take (i := 2) (v := ?_) rfl (by kernel_rfl) (fun _ _ _ h => h) (Or.inl ⟨by rfl, ?_⟩) hSS ?_
  rotate_left 1
  · intro wS hwS
    go_simp
    try with_reducible rfl
  simp only [List.getElem_toArray, List.getElem_cons_succ, List.getElem_cons_zero, Act.put, List.setIfInBounds_toArray, List.set_cons_zero, List.set_cons_succ]
  refine wpAnyM_take (i := 3) (v := ?_) rfl (by kernel_rfl) (fun _ _ _ h => h) (Or.inl ⟨by rfl, ?_⟩) hSS ?_
  rotate_left 1
  · intro wS hwS
    have c := (HS.out wS).1 hwS; go_simp
    try with_reducible rfl
  simp only [List.getElem_toArray, List.getElem_cons_succ, List.getElem_cons_zero, Act.put, List.setIfInBounds_toArray, List.set_cons_zero, List.set_cons_succ]
  refine wpAnyM_take (i := 4) (v := ?_) rfl (by kernel_rfl) (fun _ _ _ h => h) (Or.inl ⟨by rfl, ?_⟩) hSS ?_
  rotate_left 1
  · intro wS hwS
    go_simp
    try with_reducible rfl
  simp only [List.getElem_toArray, List.getElem_cons_succ, List.getElem_cons_zero, Act.put, List.setIfInBounds_toArray, List.set_cons_zero, List.set_cons_succ]
  refine wpAnyM_take (i := 5) (v := ?_) rfl (by kernel_rfl) (fun _ _ _ h => h) (Or.inl ⟨by rfl, ?_⟩) hSS ?_
  rotate_left 1
  · intro wS hwS
    go_simp
    try with_reducible rfl
  simp only [List.getElem_toArray, List.getElem_cons_succ, List.getElem_cons_zero, Act.put, List.setIfInBounds_toArray, List.set_cons_zero, List.set_cons_succ]
  refine wpAnyM_take (i := 6) (v := ?_) rfl (by kernel_rfl) (fun _ _ _ h => h) (Or.inl ⟨by rfl, ?_⟩) hSS ?_
  rotate_left 1
  · intro wS hwS
    go_simp
    try with_reducible rfl
  simp only [List.getElem_toArray, List.getElem_cons_succ, List.getElem_cons_zero, Act.put, List.setIfInBounds_toArray, List.set_cons_zero, List.set_cons_succ]
  refine wpAnyM_take (i := 7) (v := ?_) rfl (by kernel_rfl) (fun _ _ _ h => h) (Or.inl ⟨by rfl, ?_⟩) hSS ?_
  rotate_left 1
  · intro wS hwS
    go_simp
    try with_reducible rfl
  simp only [List.getElem_toArray, List.getElem_cons_succ, List.getElem_cons_zero, Act.put, List.setIfInBounds_toArray, List.set_cons_zero, List.set_cons_succ]
  refine wpAnyM_take (i := 8) (v := ?_) rfl (by kernel_rfl) (fun _ _ _ h => h) (Or.inl ⟨by rfl, ?_⟩) hSS ?_
  rotate_left 1
  · intro wS hwS
    have c := (HS.out wS).1 hwS; go_simp
    try with_reducible rfl
  simp only [List.getElem_toArray, List.getElem_cons_succ, List.getElem_cons_zero, Act.put, List.setIfInBounds_toArray, List.set_cons_zero, List.set_cons_succ]
  refine wpAnyM_take (i := 9) (v := ?_) rfl (by kernel_rfl) (fun _ _ _ h => h) (Or.inl ⟨by rfl, ?_⟩) hSS ?_
  rotate_left 1
  · intro wS hwS
    go_simp
    try with_reducible rfl
  simp only [List.getElem_toArray, List.getElem_cons_succ, List.getElem_cons_zero, Act.put, List.setIfInBounds_toArray, List.set_cons_zero, List.set_cons_succ]
  refine wpAnyM_take (i := 10) (v := ?_) rfl (by kernel_rfl) (fun _ _ _ h => h) (Or.inl ⟨by rfl, ?_⟩) hSS ?_
  rotate_left 1
  · intro wS hwS
    go_simp
    try with_reducible rfl
  simp only [List.getElem_toArray, List.getElem_cons_succ, List.getElem_cons_zero, Act.put, List.setIfInBounds_toArray, List.set_cons_zero, List.set_cons_succ]
  refine wpAnyM_take (i := 11) (v := ?_) rfl (by kernel_rfl) (fun _ _ _ h => h) (Or.inl ⟨by rfl, ?_⟩) hSS ?_
  rotate_left 1
  · intro wS hwS
    go_simp
    try with_reducible rfl
  simp only [List.getElem_toArray, List.getElem_cons_succ, List.getElem_cons_zero, Act.put, List.setIfInBounds_toArray, List.set_cons_zero, List.set_cons_succ]
  refine wpAnyM_take (i := 12) (v := ?_) rfl (by kernel_rfl) (fun _ _ _ h => h) (Or.inl ⟨by rfl, ?_⟩) hSS ?_
  rotate_left 1
  · intro wS hwS
    go_simp
    try with_reducible rfl
  simp only [List.getElem_toArray, List.getElem_cons_succ, List.getElem_cons_zero, Act.put, List.setIfInBounds_toArray, List.set_cons_zero, List.set_cons_succ]
  have mc : ∀ j (hj : j < mt.length), w'.cell? ⟨mg, j, none⟩ = some (.int .i64 mt[j]) := fun j hj => by
    have := H1.M.at (g := mg) rfl (i := j) (by simpa using hj) (j := 0) (u := .int .i64 mt[j]) (by simp [icell])
    simpa using this
  have s1 := mc q.1 hq
  have t1 := H1.M.free (g := mg) rfl q.1
  clear mc
  generalize mt[q.1] = z1 at s1
  refine wpAnyM_one (i := 13) rfl (by kernel_rfl) rfl (fun K hK => ?_)
  go_simp
  refine hK _ ((World.drew w').setCell ⟨mg, q.1, none⟩ (.int .i64 (i : Nat))) (fun _ => (HS.out _).2 (by go_simp)) ?_
  clear hK K hSS
  have d1 : Bq B P (World.drew w') pg mt ns (op ++ [q]) _ _ _ _ nb col := H1.kept (Qw.dr (Qw.refl _))
  have l1 : LbM B (World.drew w') lv ls col := L1.kept (Qw.dr (Qw.refl _))
  have f1 : Fc w (World.drew w') col col := Fc.of (Qw.dr q0.out)
  have d2 := d1.setM (g := mg) rfl hq (i : Nat)
  have l2 := l1.keep (w2 := (World.drew w').setCell ⟨mg, q.1, none⟩ (.int .i64 (i : Nat))) d1.c0 (c := 2) (by decide) (turn_own (d1.c2 mg rfl) _ _)
  have f2 := f1.trans (Fc.own d1.c0 (by decide) (d1.c2 mg rfl) q.1 (.int .i64 (i : Nat)))
  have g2 := Below.setCell (p := ⟨mg, q.1, none⟩) (Below.mono (Qw.dr q0.out) hB) mg1 (.int .i64 (i : Nat))
  have s2 := d2.M.at (g := mg) rfl (i := i) (by simpa using hi) (j := 0) (u := .int .i64 ((mt.set q.1 (i : Nat))[i]'(by simpa using hi))) (by rw [List.getElem_map]; rfl)
  have t2 := d2.M.free (g := mg) rfl i
  have hSS : S ((World.drew w').setCell ⟨mg, q.1, none⟩ (.int .i64 (i : Nat))) := (HS.out _).2 (by go_simp)
  simp only [Nat.mul_one, Nat.add_zero] at s2
  generalize (mt.set q.1 (i : Nat))[i]'(by simpa using hi) = z2 at s2
  generalize (World.drew w').setCell ⟨mg, q.1, none⟩ (.int .i64 (i : Nat)) = w2 at *
  have d3 := d2.setM (g := mg) rfl (i := i) (by simpa using hi) (q.1 : Nat)
  have l3 := l2.keep (w2 := w2.setCell ⟨mg, i, none⟩ (.int .i64 (q.1 : Nat))) d2.c0 (c := 2) (by decide) (turn_own (d2.c2 mg rfl) _ _)
  have f3 := f2.trans (Fc.own d2.c0 (by decide) (d2.c2 mg rfl) i (.int .i64 (q.1 : Nat)))
  have g3 := Below.setCell (p := ⟨mg, i, none⟩) g2 mg1 (.int .i64 (q.1 : Nat))
  clear d1 l1 f1 d2 l2 f2 g2 H1 L1 X1
  refine wpAnyM_take (i := 14) (v := ?_) rfl (by kernel_rfl) (fun _ _ _ h => h) (Or.inl ⟨by rfl, ?_⟩) hSS ?_
  rotate_left 1
  · intro wS hwS
    go_simp
    try with_reducible rfl
  simp only [List.getElem_toArray, List.getElem_cons_succ, List.getElem_cons_zero, Act.put, List.setIfInBounds_toArray, List.set_cons_zero, List.set_cons_succ]
  refine wpAnyM_one (i := 15) rfl (by kernel_rfl) rfl (fun K hK => ?_)
  go_simp
  refine hK _ (w2.setCell ⟨mg, i, none⟩ (.int .i64 (q.1 : Nat))) (fun h => absurd h (by decide)) ?_
  clear hK K hSS HS s1 s2 t1 t2
  refine wpAnyM_done (by kernel_rfl) ?_ _
  generalize w2.setCell ⟨mg, i, none⟩ (.int .i64 (q.1 : Nat)) = w3 at *
  have y4 := d3.X.cell' 4 _ rfl
  have z4 := d3.X.free 4
  obtain ⟨g', cap', e', _, _, _, _, _, _, _, d4⟩ := d3.cutO
  obtain ⟨rfl, rfl⟩ : g = g' ∧ cap = cap' := by simpa using e'
  have l4 := l3.keep (w2 := w3.setCell ⟨P, 4, none⟩ (.slice (some ⟨g, 0, none⟩) op.length cap)) d3.c0 (c := 5) (by decide) (turn_set d3.c5 ⟨rfl, rfl, rfl, Nat.le_refl _, fun _ _ _ => rfl⟩ 4 _)
  have f4 := f3.trans (Fc.grown (w1 := w3) d3.c0 (by decide) d3.c5 ⟨rfl, rfl, rfl, Nat.le_refl _, fun _ _ _ => rfl⟩ 4 (.slice (some ⟨g, 0, none⟩) op.length cap))
  have g4 := Below.setCell (p := ⟨P, 4, none⟩) g3 d3.hP (.slice (some ⟨g, 0, none⟩) op.length cap)
  have R : Hid (BmR B P w col pg ((mt.set q.1 i).set i q.1) ns ls op (w3.setCell ⟨P, 4, none⟩ (.slice (some ⟨g, 0, none⟩) op.length cap))) := Lib.hid ⟨_, ⟨_, _, _, _, _, d4, l4⟩, f4, g4⟩
  clear d4 l4 f4 g4 d3 l3 f3 g3 HH HI
  have kc : op.length ≤ cap := by omega
  have kc' : (op.length : Int) ≤ (cap : Int) := by omega
  go_wp2
  refine wp_region_still_tail 12 (by kernel_rfl) (by kernel_rfl) ?_
  change wpStill _ _ (World.drew _) _ _ _
  simp only [List.take_succ_cons, List.take_zero, List.drop_succ_cons, List.drop_zero]
  repeat still_step
  refine wpStill_nil ?_
  change wpList _ _ _ _ _ (World.drew _)
  go_wp2
  go_ret
  exact ⟨rfl, R.out.kept (Qw.dr (Qw.refl _)) hB⟩
end
end Go.Proofs.YtlgdjbabbfdngaaDoor

