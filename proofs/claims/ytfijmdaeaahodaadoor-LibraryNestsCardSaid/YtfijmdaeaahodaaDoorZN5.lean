import Derived.Test.YtfijmdaeaahodaaDoorZN2
import Derived.Test.YtfijmdaeaahodaaDoorZN4
import Derived.Deep.DeepCutAuto
import Derived.WalkSpells
set_option linter.unusedVariables false
set_option linter.unusedSimpArgs false
namespace Go.Proofs.YtfijmdaeaahodaaDoor
open Go.RowKit
section
variable {B P : Nat} {w : World} {pg : List Lb.Pg} {mt ns ls : List Int} {op : List (Nat × Int)} {pv mv lv ov : Value} {nb : Nat} {col : Nat → Nat}
theorem any_take {l : List (Nat × Int)} {n : Int} {i : Nat} (hi : i < l.length) : ((l[i]).2 = n → l.any (fun q => q.2 == n) = true) ∧ ((l.take i).any (fun q => q.2 == n) = false → (l[i]).2 ≠ n → (l.take (i + 1)).any (fun q => q.2 == n) = false) := by
  refine ⟨fun h => List.any_eq_true.2 ⟨_, List.getElem_mem hi, by simpa using h⟩, fun h k => ?_⟩
  rw [List.take_succ_eq_append_getElem hi, List.any_append, h]
  simpa using k
def BgL (B P : Nat) (w : World) (col : Nat → Nat) (pg : List Lb.Pg) (mt ns ls : List Int) (op : List (Nat × Int)) (n : Int) (i : Nat) (e : Ending) (w' : World) : Prop :=
  (if op.any (fun q => q.2 == n) = true then e = .returned (.int .i64 11) ∧ Below B w w' else (e = .returned (.int .i64 0) ∧ BmR B P w col pg mt ns ls (op ++ [(i, n)]) w'))
set_option maxRecDepth 100000 in
set_option maxHeartbeats 4000000 in
theorem lc_beginLoop (h : BM B P w col pg mt ns ls op) (n : Int) (i : Nat) (l1 : op.length ≤ 5000) (hB : B ≤ w.heap.size) :
    Calls Tryd.prog 57 #[.pointer (some ⟨P, 0, none⟩), .int .i64 n, .int .i64 (i : Nat)] w (BgL B P w col pg mt ns ls op n i) := by
  obtain ⟨pv, mv, lv, ov, nb, h, hl⟩ := h
  have x4 := h.X.cell' 4 ov rfl
  have hP := h.ltP
  have at_ : ∀ g, ov.ownBlock = some g → ∀ k (hk : k < op.length), w.cell? ⟨g, k * 2, none⟩ = some (.int .i64 (op[k]).2) ∧ w.cell? ⟨g, k * 2 + 1, none⟩ = some (.int .i64 ((op[k]).1 : Nat)) := fun g hg k hk => by
    have a := h.O.at hg (i := k) (by simpa using hk) (j := 0) (u := .int .i64 (op[k]).2) (by simp [lcell])
    have b := h.O.at hg (i := k) (by simpa using hk) (j := 1) (u := .int .i64 ((op[k]).1 : Nat)) (by simp [lcell])
    rw [Nat.add_zero] at a
    exact ⟨a, b⟩
  obtain ⟨a, cap, rfl, k1, k2, kg⟩ := h.O.form
  simp only [List.length_map] at x4 k1
  have HH := Lib.hid (And.intro h hl)
  have AT := Lib.hid at_
  have KG := Lib.hid kg
  clear h hl at_ kg
  go_enter Tryd.func57, Tryd.ntmps57
  go_wp2
  go_loopw [14] (fun kv wr => ∃ k : Nat, k ≤ op.length ∧ kv = .int .i64 (k : Int) ∧ Hid ((op.take k).any (fun q => q.2 == n) = false) ∧ Hid (Qw w wr)) (fun kv _ => op.length - (intOf kv).toNat)
  case atStart => exact ⟨0, by omega, rfl, Lib.hid rfl, Lib.hid (Qw.refl w)⟩
  case round =>
    obtain ⟨k, hk, rfl, HE, HQ⟩ := hrel
    have h63 : (k : Int) ≤ 9223372036854775806 := by omega
    by_cases hlt : k < op.length
    · have hko := hlt
      obtain ⟨g, rfl, g1, g2⟩ := KG.out (by intro e; have := congrArg List.length e; simp at this; subst this; simp at hko)
      obtain ⟨c0, c1⟩ := AT.out g rfl k hko
      have gw : g < wr.heap.size := Nat.lt_of_lt_of_le g2 HQ.out.size
      have gn : g ≠ wr.heap.size := by omega
      rw [← HQ.out.cell (p := ⟨g, k * 2, none⟩) g2] at c0
      rw [← HQ.out.cell (p := ⟨g, k * 2 + 1, none⟩) g2] at c1
      have hlt' : (k : Int) < (op.length : Int) := by omega
      obtain ⟨ay, an⟩ := any_take (n := n) hko
      by_cases e : (op[k]).2 = n
      · have R := Lib.hid (ay e)
        rw [e] at c0
        clear ay an HE
        generalize (op[k]).1 = j at c1
        go_wp2
        go_ret
        unfold BgL
        rw [if_pos R.out]
        exact ⟨rfl, Below.mono (Qw.al HQ.out _) hB⟩
      · have R := Lib.hid (an HE.out e)
        clear ay an HE
        generalize (op[k]).1 = j at c1
        generalize (op[k]).2 = m at c0 e
        go_wp2
        go_roundw
        case measure => simp [intOf]; omega
        case rel => exact ⟨k + 1, by omega, by go_num, R, Lib.hid (Qw.al HQ.out _)⟩
    · obtain rfl : k = op.length := by omega
      have hb : ¬ (op.length : Int) < (op.length : Int) := by omega
      have hE : op.any (fun q => q.2 == n) = false := by have := HE.out; rwa [List.take_length] at this
      have q1 : Qw w (wr.alloc (.cells #[.int .i64 n, .int .i64 (i : Nat)] 89)) := Qw.al HQ.out _
      have H1 := HH.out.1.kept q1
      have L1 := HH.out.2.kept q1
      have B1 : Bx (wr.alloc (.cells #[.int .i64 n, .int .i64 (i : Nat)] 89)) wr.heap.size (lcell (i, n)).toArray 89 := Bx.new wr _ _
      obtain ⟨ov', w2, hr, ho, hg, hn⟩ := g_append (ty := 74) 89 74 2 16 _ _ wr.heap.size info_loop Tryd.underlying74 rfl (by decide) (by decide) B1 rfl (by intro u hu; simp [lcell] at hu; rcases hu with rfl | rfl <;> rfl) H1.O (by rw [List.length_map]; omega) (Nat.le_trans hB q1.size)
      have bel2 := bel_own q1 hB (fun g hg => (HH.out.1.O.lt hg).1) hg
      have H2 := H1.newO (op' := op ++ [(i, n)]) (by rw [List.map_append]; exact ho) hg hn
      have L2 := L1.keep (w2 := w2.setCell ⟨P, 4, none⟩ ov') H1.c0 (c := 5) (by decide) (turn_set H1.c5 hg 4 ov')
      have X2 := H1.px1 (by decide) H1.c5 hg
      have y4 : w2.cell? ⟨P, 4, none⟩ = some (.slice a op.length cap) := by have := X2.cell' 4 _ rfl; simpa using this
      have z4 := X2.free 4
      have xr : wr.cell? ⟨P, 4, none⟩ = some (.slice a op.length cap) := (HQ.out.cell (p := ⟨P, 4, none⟩) hP).trans x4
      have hP2 := X2.lt
      have bel3 := Below.setCell (p := ⟨P, 4, none⟩) bel2 H2.hP ov'
      have F2 := (Fc.of (col := col) q1).trans (Fc.grown H1.c0 (by decide) H1.c5 hg 4 ov')
      have R : Hid (BmR B P w col pg mt ns ls (op ++ [(i, n)]) (w2.setCell ⟨P, 4, none⟩ ov')) := Lib.hid ⟨_, ⟨_, _, _, _, _, H2, L2⟩, F2, bel3⟩
      obtain ⟨pa', pc', rfl, _⟩ := ho.form
      simp only [List.length_append, List.length_map, List.length_cons, List.length_nil, Nat.zero_add] at R hr
      have HE' := Lib.hid hE
      have hPr : P < wr.heap.size := Nat.lt_of_lt_of_le hP HQ.out.size
      have hPn : P ≠ wr.heap.size := by omega
      clear F2 bel2 bel3 H2 L2 H1 L1 B1 q1 hg hn HH AT KG hE X2 ho HE
      go_wp2_with (at_builtin; refine Lib.wpList_append_run _ rfl (.tmp 27) (.tmp 31) 74 74 rfl _ _ (by rfl) (by rfl) _ w2 hr ?_)
      go_ret
      unfold BgL
      rw [if_neg (by rw [HE'.out]; decide)]
      exact ⟨rfl, R.out⟩
end
end Go.Proofs.YtfijmdaeaahodaaDoor
set_option linter.unusedVariables false
set_option linter.unusedSimpArgs false
namespace Go.Proofs.YtfijmdaeaahodaaDoor
open Go.RowKit
section
variable {B P : Nat} {w : World} {pg : List Lb.Pg} {mt ns ls : List Int} {op : List (Nat × Int)} {pv mv lv ov : Value} {nb : Nat} {col : Nat → Nat}
set_option maxRecDepth 100000 in
set_option maxHeartbeats 4000000 in
theorem lc_endLoopE (h : BM B P w col pg mt ns ls []) (n : Int) (i : Nat) : Calls Tryd.prog 58 #[.pointer (some ⟨P, 0, none⟩), .int .i64 n, .int .i64 (i : Nat)] w fun e w' => e = .returned (.int .i64 11) ∧ Qw w w' := by
  obtain ⟨pv, mv, lv, ov, nb, h, hl⟩ := h
  have x4 := h.X.cell' 4 ov rfl
  obtain ⟨a, cap, rfl, k1, k2, kg⟩ := h.O.form
  simp only [List.length_map, List.length_nil] at x4 k1
  clear h hl kg
  go_enter Tryd.func58, Tryd.ntmps58
  go_wp2
  go_ret
  exact ⟨rfl, Qw.refl w⟩
set_option maxRecDepth 100000 in
set_option maxHeartbeats 4000000 in
theorem lc_endLoopN {q : Nat × Int} (h : BM B P w col pg mt ns ls (op ++ [q])) (n : Int) (hn : q.2 ≠ n) (i : Nat) : Calls Tryd.prog 58 #[.pointer (some ⟨P, 0, none⟩), .int .i64 n, .int .i64 (i : Nat)] w fun e w' => e = .returned (.int .i64 11) ∧ Qw w w' := by
  obtain ⟨pv, mv, lv, ov, nb, h, hl⟩ := h
  have hi := lc_inner h
  have HI := Lib.hid hi
  have x4 := h.X.cell' 4 ov rfl
  obtain ⟨g, cap, rfl, k1, k2, k3, k4, k5, o0, o1, _⟩ := h.cutO
  have e1 : ((op.length : Int) + 1 == 0) = false := beq_eq_false_iff_ne.2 (by omega)
  have e2 : (q.2 != n) = true := bne_iff_ne.2 hn
  have fl := field_loop0 q.2 q.1
  clear h hl hi
  go_enter Tryd.func58, Tryd.ntmps58
  go_wp2_with (go_at_call 59; ((with_reducible refine HI.out.mono ?_); rintro e w' ⟨rfl, qq⟩))
  go_ret
  exact ⟨rfl, qq⟩
set_option maxRecDepth 100000 in
set_option maxHeartbeats 4000000 in
theorem lc_endLoopY {q : Nat × Int} (h : BM B P w col pg mt ns ls (op ++ [q])) (i : Nat) (hi : i < mt.length) (hq : q.1 < mt.length) (hm : mt.length ≤ 5000) (hB : B ≤ w.heap.size) : Calls Tryd.prog 58 #[.pointer (some ⟨P, 0, none⟩), .int .i64 q.2, .int .i64 (i : Nat)] w fun e w' => e = .returned (.int .i64 0) ∧ BmR B P w col pg ((mt.set q.1 i).set i q.1) ns ls op w' := by
  obtain ⟨pv, mv, lv, ov, nb, h, hl⟩ := h
  have hin := fun (w' : World) (q' : Qw w w') => lc_inner (h.kept q')
  have HI := Lib.hid hin
  have x1 := h.X.cell' 1 mv rfl
  have x4 := h.X.cell' 4 ov rfl
  have HH := Lib.hid (And.intro h hl)
  obtain ⟨a1, cap1, rfl, m1, m2, kg⟩ := h.M.form
  obtain ⟨mg, rfl, mg1, mg2⟩ := kg (by intro e; have := congrArg List.length e; simp at this; subst this; simp at hi)
  simp only [List.length_map] at x1 m1
  obtain ⟨g, cap, rfl, k1, k2, k3, k4, k5, o0, o1, _⟩ := h.cutO
  have hP := h.ltP
  have e1 : ((op.length : Int) + 1 == 0) = false := beq_eq_false_iff_ne.2 (by omega)
  have fl0 := field_loop0 q.2 q.1
  have fl1 := field_loop1 q.2 q.1
  have ek : IntKind.i64.wrap (op.length : Int) = op.length := IntWalk.i64_in _ (by omega)
  have e2 : (0 : Int) ≤ (op.length : Int) := by omega
  have hPg : P ≠ mg := fun e => by have := h.c0; rw [e, h.c2 mg rfl] at this; cases this
  have b1 : (q.1 : Int) < (mt.length : Int) := by omega
  have b2 : (i : Int) < (mt.length : Int) := by omega
  have b3 : (0 : Int) ≤ (q.1 : Int) := by omega
  have b4 : (0 : Int) ≤ (i : Int) := by omega
  clear h hl hin kg
  obtain ⟨S, hS⟩ : ∃ S : World → Prop, ∀ w', S w' ↔ (w'.cell? ⟨P, 1, none⟩ = some (.slice (some ⟨mg, 0, none⟩) mt.length cap1)) := ⟨_, fun _ => Iff.rfl⟩
  have HS := Lib.hid hS
  clear hS
  have q0 : Hid (Qw w w) := Lib.hid (Qw.refl w)
  go_enter Tryd.func58, Tryd.ntmps58
  go_wp2_with (go_at_call 59; ((with_reducible refine (HI.out _ q0.out).mono ?_); rintro e w' ⟨rfl, qq⟩; replace q0 := Lib.hid (q0.out.trans qq)))
  have H1 := HH.out.1.kept q0.out
  have L1 := HH.out.2.kept q0.out
  have X1 := H1.X.cell' 1 (.slice (some ⟨mg, 0, none⟩) mt.length cap1) (by simp)
  refine wp_region_M S 15 (by kernel_rfl) ?_
  have hSS : S (World.drew w') := (HS.out _).2 X1
  refine wpAnyM_take (i := 0) (v := ?_) rfl (by kernel_rfl) (fun _ _ _ h => h) (Or.inl ⟨by rfl, ?_⟩) hSS ?_
  rotate_left 1
  · intro wS hwS
    go_simp
    try with_reducible rfl
  simp only [List.getElem_toArray, List.getElem_cons_succ, List.getElem_cons_zero, Act.put, List.setIfInBounds_toArray, List.set_cons_zero, List.set_cons_succ]
  refine wpAnyM_take (i := 1) (v := ?_) rfl (by kernel_rfl) (fun _ _ _ h => h) (Or.inl ⟨by rfl, ?_⟩) hSS ?_
  rotate_left 1
  · intro wS hwS
    go_simp
    try with_reducible rfl
  simp only [List.getElem_toArray, List.getElem_cons_succ, List.getElem_cons_zero, Act.put, List.setIfInBounds_toArray, List.set_cons_zero, List.set_cons_succ]
  refine wpAnyM_take (i := 2) (v := ?_) rfl (by kernel_rfl) (fun _ _ _ h => h) (Or.inl ⟨by rfl, ?_⟩) hSS ?_
  rotate_left 1
  · intro wS hwS
    go_simp
    try with_reducible rfl
  simp only [List.getElem_toArray, List.getElem_cons_succ, List.getElem_cons_zero, Act.put, List.setIfInBounds_toArray, List.set_cons_zero, List.set_cons_succ]
  refine wpAnyM_take (i := 3) (v := ?_) rfl (by kernel_rfl) (fun _ _ _ h => h) (Or.inl ⟨by rfl, ?_⟩) hSS ?_
  rotate_left 1
  · intro wS hwS
    have c := (HS.out wS).1 hwS; go_simp
    try with_reducible rfl
  simp only [List.getElem_toArray, List.getElem_cons_succ, List.getElem_cons_zero, Act.put, List.setIfInBounds_toArray, List.set_cons_zero, List.set_cons_succ]
  refine wpAnyM_take (i := 4) (v := ?_) rfl (by kernel_rfl) (fun _ _ _ h => h) (Or.inl ⟨by rfl, ?_⟩) hSS ?_
  rotate_left 1
  · intro wS hwS
    go_simp
    try with_reducible rfl
  simp only [List.getElem_toArray, List.getElem_cons_succ, List.getElem_cons_zero, Act.put, List.setIfInBounds_toArray, List.set_cons_zero, List.set_cons_succ]
  refine wpAnyM_take (i := 5) (v := ?_) rfl (by kernel_rfl) (fun _ _ _ h => h) (Or.inl ⟨by rfl, ?_⟩) hSS ?_
  rotate_left 1
  · intro wS hwS
    go_simp
    try with_reducible rfl
  simp only [List.getElem_toArray, List.getElem_cons_succ, List.getElem_cons_zero, Act.put, List.setIfInBounds_toArray, List.set_cons_zero, List.set_cons_succ]
  refine wpAnyM_take (i := 6) (v := ?_) rfl (by kernel_rfl) (fun _ _ _ h => h) (Or.inl ⟨by rfl, ?_⟩) hSS ?_
  rotate_left 1
  · intro wS hwS
    go_simp
    try with_reducible rfl
  simp only [List.getElem_toArray, List.getElem_cons_succ, List.getElem_cons_zero, Act.put, List.setIfInBounds_toArray, List.set_cons_zero, List.set_cons_succ]
  refine wpAnyM_take (i := 7) (v := ?_) rfl (by kernel_rfl) (fun _ _ _ h => h) (Or.inl ⟨by rfl, ?_⟩) hSS ?_
  rotate_left 1
  · intro wS hwS
    go_simp
    try with_reducible rfl
  simp only [List.getElem_toArray, List.getElem_cons_succ, List.getElem_cons_zero, Act.put, List.setIfInBounds_toArray, List.set_cons_zero, List.set_cons_succ]
  refine wpAnyM_take (i := 8) (v := ?_) rfl (by kernel_rfl) (fun _ _ _ h => h) (Or.inl ⟨by rfl, ?_⟩) hSS ?_
  rotate_left 1
  · intro wS hwS
    have c := (HS.out wS).1 hwS; go_simp
    try with_reducible rfl
  simp only [List.getElem_toArray, List.getElem_cons_succ, List.getElem_cons_zero, Act.put, List.setIfInBounds_toArray, List.set_cons_zero, List.set_cons_succ]
  refine wpAnyM_take (i := 9) (v := ?_) rfl (by kernel_rfl) (fun _ _ _ h => h) (Or.inl ⟨by rfl, ?_⟩) hSS ?_
  rotate_left 1
  · intro wS hwS
    go_simp
    try with_reducible rfl
  simp only [List.getElem_toArray, List.getElem_cons_succ, List.getElem_cons_zero, Act.put, List.setIfInBounds_toArray, List.set_cons_zero, List.set_cons_succ]
  refine wpAnyM_take (i := 10) (v := ?_) rfl (by kernel_rfl) (fun _ _ _ h => h) (Or.inl ⟨by rfl, ?_⟩) hSS ?_
  rotate_left 1
  · intro wS hwS
    go_simp
    try with_reducible rfl
  simp only [List.getElem_toArray, List.getElem_cons_succ, List.getElem_cons_zero, Act.put, List.setIfInBounds_toArray, List.set_cons_zero, List.set_cons_succ]
  refine wpAnyM_take (i := 11) (v := ?_) rfl (by kernel_rfl) (fun _ _ _ h => h) (Or.inl ⟨by rfl, ?_⟩) hSS ?_
  rotate_left 1
  · intro wS hwS
    go_simp
    try with_reducible rfl
  simp only [List.getElem_toArray, List.getElem_cons_succ, List.getElem_cons_zero, Act.put, List.setIfInBounds_toArray, List.set_cons_zero, List.set_cons_succ]
  refine wpAnyM_take (i := 12) (v := ?_) rfl (by kernel_rfl) (fun _ _ _ h => h) (Or.inl ⟨by rfl, ?_⟩) hSS ?_
  rotate_left 1
  · intro wS hwS
    go_simp
    try with_reducible rfl
  simp only [List.getElem_toArray, List.getElem_cons_succ, List.getElem_cons_zero, Act.put, List.setIfInBounds_toArray, List.set_cons_zero, List.set_cons_succ]
  have mc : ∀ j (hj : j < mt.length), w'.cell? ⟨mg, j, none⟩ = some (.int .i64 mt[j]) := fun j hj => by
    have := H1.M.at (g := mg) rfl (i := j) (by simpa using hj) (j := 0) (u := .int .i64 mt[j]) (by simp [icell])
    simpa using this
  have s1 := mc q.1 hq
  have t1 := H1.M.free (g := mg) rfl q.1
  clear mc
  generalize mt[q.1] = z1 at s1
  refine wpAnyM_one (i := 13) rfl (by kernel_rfl) rfl (fun K hK => ?_)
  go_simp
  refine hK _ ((World.drew w').setCell ⟨mg, q.1, none⟩ (.int .i64 (i : Nat))) (fun _ => (HS.out _).2 (by go_simp)) ?_
  clear hK K hSS
  have d1 : Bq B P (World.drew w') pg mt ns (op ++ [q]) _ _ _ _ nb col := H1.kept (Qw.dr (Qw.refl _))
  have l1 : LbM B (World.drew w') lv ls col := L1.kept (Qw.dr (Qw.refl _))
  have f1 : Fc w (World.drew w') col col := Fc.of (Qw.dr q0.out)
  have d2 := d1.setM (g := mg) rfl hq (i : Nat)
  have l2 := l1.keep (w2 := (World.drew w').setCell ⟨mg, q.1, none⟩ (.int .i64 (i : Nat))) d1.c0 (c := 2) (by decide) (turn_own (d1.c2 mg rfl) _ _)
  have f2 := f1.trans (Fc.own d1.c0 (by decide) (d1.c2 mg rfl) q.1 (.int .i64 (i : Nat)))
  have g2 := Below.setCell (p := ⟨mg, q.1, none⟩) (Below.mono (Qw.dr q0.out) hB) mg1 (.int .i64 (i : Nat))
  have s2 := d2.M.at (g := mg) rfl (i := i) (by simpa using hi) (j := 0) (u := .int .i64 ((mt.set q.1 (i : Nat))[i]'(by simpa using hi))) (by rw [List.getElem_map]; rfl)
  have t2 := d2.M.free (g := mg) rfl i
  have hSS : S ((World.drew w').setCell ⟨mg, q.1, none⟩ (.int .i64 (i : Nat))) := (HS.out _).2 (by go_simp)
  simp only [Nat.mul_one, Nat.add_zero] at s2
  generalize (mt.set q.1 (i : Nat))[i]'(by simpa using hi) = z2 at s2
  generalize (World.drew w').setCell ⟨mg, q.1, none⟩ (.int .i64 (i : Nat)) = w2 at *
  have d3 := d2.setM (g := mg) rfl (i := i) (by simpa using hi) (q.1 : Nat)
  have l3 := l2.keep (w2 := w2.setCell ⟨mg, i, none⟩ (.int .i64 (q.1 : Nat))) d2.c0 (c := 2) (by decide) (turn_own (d2.c2 mg rfl) _ _)
  have f3 := f2.trans (Fc.own d2.c0 (by decide) (d2.c2 mg rfl) i (.int .i64 (q.1 : Nat)))
  have g3 := Below.setCell (p := ⟨mg, i, none⟩) g2 mg1 (.int .i64 (q.1 : Nat))
  clear d1 l1 f1 d2 l2 f2 g2 H1 L1 X1
  refine wpAnyM_take (i := 14) (v := ?_) rfl (by kernel_rfl) (fun _ _ _ h => h) (Or.inl ⟨by rfl, ?_⟩) hSS ?_
  rotate_left 1
  · intro wS hwS
    go_simp
    try with_reducible rfl
  simp only [List.getElem_toArray, List.getElem_cons_succ, List.getElem_cons_zero, Act.put, List.setIfInBounds_toArray, List.set_cons_zero, List.set_cons_succ]
  refine wpAnyM_one (i := 15) rfl (by kernel_rfl) rfl (fun K hK => ?_)
  go_simp
  refine hK _ (w2.setCell ⟨mg, i, none⟩ (.int .i64 (q.1 : Nat))) (fun h => absurd h (by decide)) ?_
  clear hK K hSS HS s1 s2 t1 t2
  refine wpAnyM_done (by kernel_rfl) ?_ _
  generalize w2.setCell ⟨mg, i, none⟩ (.int .i64 (q.1 : Nat)) = w3 at *
  have y4 := d3.X.cell' 4 _ rfl
  have z4 := d3.X.free 4
  obtain ⟨g', cap', e', _, _, _, _, _, _, _, d4⟩ := d3.cutO
  obtain ⟨rfl, rfl⟩ : g = g' ∧ cap = cap' := by simpa using e'
  have l4 := l3.keep (w2 := w3.setCell ⟨P, 4, none⟩ (.slice (some ⟨g, 0, none⟩) op.length cap)) d3.c0 (c := 5) (by decide) (turn_set d3.c5 ⟨rfl, rfl, rfl, Nat.le_refl _, fun _ _ _ => rfl⟩ 4 _)
  have f4 := f3.trans (Fc.grown (w1 := w3) d3.c0 (by decide) d3.c5 ⟨rfl, rfl, rfl, Nat.le_refl _, fun _ _ _ => rfl⟩ 4 (.slice (some ⟨g, 0, none⟩) op.length cap))
  have g4 := Below.setCell (p := ⟨P, 4, none⟩) g3 d3.hP (.slice (some ⟨g, 0, none⟩) op.length cap)
  have R : Hid (BmR B P w col pg ((mt.set q.1 i).set i q.1) ns ls op (w3.setCell ⟨P, 4, none⟩ (.slice (some ⟨g, 0, none⟩) op.length cap))) := Lib.hid ⟨_, ⟨_, _, _, _, _, d4, l4⟩, f4, g4⟩
  clear d4 l4 f4 g4 d3 l3 f3 g3 HH HI
  have kc : op.length ≤ cap := by omega
  have kc' : (op.length : Int) ≤ (cap : Int) := by omega
  go_wp2
  refine wp_region_still_tail 12 (by kernel_rfl) (by kernel_rfl) ?_
  change wpStill _ _ (World.drew _) _ _ _
  simp only [List.take_succ_cons, List.take_zero, List.drop_succ_cons, List.drop_zero]
  repeat still_step
  refine wpStill_nil ?_
  change wpList _ _ _ _ _ (World.drew _)
  go_wp2
  go_ret
  exact ⟨rfl, R.out.kept (Qw.dr (Qw.refl _)) hB⟩
end
end Go.Proofs.YtfijmdaeaahodaaDoor
set_option linter.unusedVariables false
set_option linter.unusedSimpArgs false
namespace Go.Proofs.YtfijmdaeaahodaaDoor
open Go.RowKit
theorem BM.recol {B P : Nat} {w : World} {col col' : Nat → Nat} {pg : List Lb.Pg} {mt ns ls : List Int} {op : List (Nat × Int)} (h : BM B P w col pg mt ns ls op) (hc : ∀ b, b < w.heap.size → col' b = col b) : BM B P w col' pg mt ns ls op := by
  obtain ⟨pv, mv, lv, ov, nb, h, lb, h1, h2, h3, h4⟩ := h
  exact ⟨pv, mv, lv, ov, nb, ⟨h.X, h.G, h.M, h.O, h.N, h.hP, h.hn, (hc _ h.ltP).trans h.c0, fun g hg => (hc g (h.G.lt hg).2).trans (h.c1 g hg), fun g hg => (hc g (h.M.lt hg).2).trans (h.c2 g hg), (hc _ h.N.lt).trans h.c3, fun g hg => (hc g (h.O.lt hg).2).trans (h.c5 g hg)⟩, lb, h1, h2, h3, (hc _ h2.lt).trans h4⟩
theorem BM.hP {B P : Nat} {w : World} {col : Nat → Nat} {pg : List Lb.Pg} {mt ns ls : List Int} {op : List (Nat × Int)} (h : BM B P w col pg mt ns ls op) : B ≤ P ∧ P < w.heap.size := by
  obtain ⟨pv, mv, lv, ov, nb, h, _⟩ := h
  exact ⟨h.hP, h.ltP⟩
set_option maxRecDepth 100000 in
set_option maxHeartbeats 4000000 in
theorem lc_new (w : World) : Calls Tryd.prog 39 #[] w fun e w' => ∃ P col, e = .returned (.pointer (some ⟨P, 0, none⟩)) ∧ w.heap.size ≤ P ∧ BM w.heap.size P w' col [⟨0, 0, 0⟩] [] [0] [] [] ∧ Qw w w' := by
  have hmm := @run_makeMap Tryd.prog
  have q1 : Qw w ((w.alloc (.map #[] 0)).alloc (.cells #[.slice none 0 0, .slice none 0 0, .map (some w.heap.size), .map none, .slice none 0 0] 76)) := Qw.al (Qw.al (Qw.refl w) _) _
  have hb : Bq w.heap.size (w.heap.size + 1) ((w.alloc (.map #[] 0)).alloc (.cells #[.slice none 0 0, .slice none 0 0, .map (some w.heap.size), .map none, .slice none 0 0] 76)) [] [] [] [] (.slice none 0 0) (.slice none 0 0) (.map none) (.slice none 0 0) w.heap.size (fun b => if b = w.heap.size + 1 then 0 else 3) := by
    refine ⟨?_, OwnG.nil .., OwnG.nil .., OwnG.nil .., (SetM.made w).go ?_, by omega, Nat.le_refl _, if_pos rfl, (fun g hg => by cases hg), (fun g hg => by cases hg), if_neg (by omega), (fun g hg => by cases hg)⟩
    · have := Bx.new (w.alloc (.map #[] 0)) #[.slice none 0 0, .slice none 0 0, .map (some w.heap.size), .map none, .slice none 0 0] 76
      rwa [show (w.alloc (.map #[] 0)).heap.size = w.heap.size + 1 by simp] at this
    · exact Below.heap_alloc _ _ _ (by simp)
  have c1 := lc_begin hb 0 (by decide) (by decide) (by simp) (by simp) (by simp) q1.size
  have C1 := Lib.hid c1
  have Q1 := Lib.hid q1
  clear c1 hb q1
  go_enter Tryd.func39, Tryd.ntmps39
  go_wp2_with (go_at_call 56; ((with_reducible refine C1.out.mono ?_); rintro e w' ⟨rfl, col', bm, fc, bel⟩))
  go_ret
  exact ⟨_, col', rfl, by omega, bm, Below.trans Q1.out bel⟩
def Bld (k B P : Nat) (w : World) (col : Nat → Nat) (s : Lb.St) : Prop :=
  ∃ (l : List Lb.Pg) (p : Lb.Pg) (ns : List Int), s.pg = l ++ [p] ∧ p.fin = s.i ∧ BM B P w col (l ++ [{ p with fin := 0 }]) s.mate ns s.lab s.op.reverse ∧ (∀ x, ns.contains x = s.pg.any (fun q => q.num == x)) ∧ s.mate.length = s.i ∧ (∀ q ∈ s.op, q.1 < s.i) ∧ l.length ≤ s.i + min k 1 ∧ s.op.length ≤ s.i ∧ s.lab.length ≤ s.i + (k - 1) ∧ ns.length ≤ s.i + 1 + min k 1
theorem Bld.start {B P : Nat} {w : World} {col : Nat → Nat} (h : BM B P w col [⟨0, 0, 0⟩] [] [0] [] []) : Bld 0 B P w col Lb.st0 := ⟨[], ⟨0, 0, 0⟩, [0], rfl, rfl, h, fun x => by simp [Lb.st0, BEq.comm]; rfl, rfl, by simp [Lb.st0], by simp, by simp [Lb.st0], by simp [Lb.st0], by simp⟩
theorem Bld.kept {k B P : Nat} {w w1 : World} {col : Nat → Nat} {s : Lb.St} (h : Bld k B P w col s) (q : Qw w w1) : Bld k B P w1 col s := by
  obtain ⟨l, p, ns, h1, h2, h3, h4⟩ := h
  exact ⟨l, p, ns, h1, h2, h3.kept q, h4⟩
theorem more_last (i : Nat) (p : Lb.Pg) : ∀ l : List Lb.Pg, Lb.more i (l ++ [p]) = l ++ [{ p with fin := i + 1 }]
  | [] => rfl
  | [q] => rfl
  | q :: r :: l => by
    show q :: Lb.more i ((r :: l) ++ [p]) = _
    rw [more_last i p (r :: l)]; rfl
theorem Bld.noprog {k B P : Nat} {w : World} {col : Nat → Nat} {s : Lb.St} (h : Bld 0 B P w col s) : Bld 1 B P w col s := by
  obtain ⟨l, p, ns, h1, h2, h3, h4, h5, h6, h7, h8, h9, h10⟩ := h
  exact ⟨l, p, ns, h1, h2, h3, h4, h5, h6, by omega, h8, by omega, by omega⟩
end Go.Proofs.YtfijmdaeaahodaaDoor
set_option linter.unusedVariables false
set_option linter.unusedSimpArgs false
namespace Go.Proofs.YtfijmdaeaahodaaDoor
open Go.RowKit
theorem BmR.open_ {B P : Nat} {w w' : World} {col : Nat → Nat} {pg : List Lb.Pg} {mt ns ls : List Int} {op : List (Nat × Int)} (h : BmR B P w col pg mt ns ls op w') : ∃ col' pv mv lv ov nb, Bq B P w' pg mt ns op pv mv lv ov nb col' ∧ LbM B w' lv ls col' ∧ Fc w w' col col' ∧ Below B w w' := by
  obtain ⟨col', ⟨pv, mv, lv, ov, nb, h1, h2⟩, h3, h4⟩ := h
  exact ⟨col', pv, mv, lv, ov, nb, h1, h2, h3, h4⟩
def AdR (B P : Nat) (w : World) (b : Sy.Bl) (s : Lb.St) (e : Ending) (w' : World) : Prop := (match Lb.stepS b s with
  | .bad j er => e = .returned (.tuple #[.int .i64 (j : Nat), .int .i64 er])
  | .ok s' => e = .returned (.tuple #[.int .i64 (s.i : Nat), .int .i64 0]) ∧ ∃ col, Bld 0 B P w' col s') ∧ Below B w w'
theorem AdR.bad {B P : Nat} {w w' : World} {b : Sy.Bl} {s : Lb.St} {j : Nat} {er : Int} (h : Lb.stepS b s = .bad j er) (q : Below B w w') : AdR B P w b s (.returned (.tuple #[.int .i64 (j : Nat), .int .i64 er])) w' := ⟨by rw [h], q⟩
theorem AdR.ok {B P : Nat} {w w' : World} {b : Sy.Bl} {s s' : Lb.St} {col : Nat → Nat} (h : Lb.stepS b s = .ok s') (hb : Bld 0 B P w' col s') (q : Below B w w') : AdR B P w b s (.returned (.tuple #[.int .i64 (s.i : Nat), .int .i64 0])) w' := ⟨by rw [h]; exact ⟨rfl, col, hb⟩, q⟩
structure Ad (k B P K : Nat) (w : World) (d : Bi) (col : Nat → Nat) (s : Lb.St) (wx : World) : Prop where
  L : Bld k B P wx col s
  X : Bx wx K (bicell d).toArray 37
  c : col K = 9
  q : Below B w wx
  hB : B ≤ w.heap.size
theorem Ad.kept {k B P K : Nat} {w wx w' : World} {d : Bi} {col : Nat → Nat} {s : Lb.St} (h : Ad k B P K w d col s wx) (q : Qw wx w') : Ad k B P K w d col s w' :=
  ⟨h.L.kept q, h.X.kept q, h.c, Below.trans h.q (Below.mono q (Nat.le_trans h.hB h.q.size)), h.hB⟩
theorem Ad.up {B P K : Nat} {w wx : World} {d : Bi} {col : Nat → Nat} {s : Lb.St} (h : Ad 0 B P K w d col s wx) : Ad 1 B P K w d col s wx := ⟨h.L.noprog (k := 1), h.X, h.c, h.q, h.hB⟩
theorem Ad.up2 {B P K : Nat} {w wx : World} {d : Bi} {col : Nat → Nat} {s : Lb.St} (h : Ad 1 B P K w d col s wx) : Ad 2 B P K w d col s wx := by
  obtain ⟨⟨l, p, ns, h1, h2, h3, h4, h5, h6, h7, h8, h9, h10⟩, x1, x2, x3, x4⟩ := h
  exact ⟨⟨l, p, ns, h1, h2, h3, h4, h5, h6, by omega, h8, by omega, by omega⟩, x1, x2, x3, x4⟩
theorem ad_box {K : Nat} {wx w' : World} {d : Bi} {col col' : Nat → Nat} (X : Bx wx K (bicell d).toArray 37) (c : col K = 9) (f : Fc wx w' col col') : Bx w' K (bicell d).toArray 37 ∧ col' K = 9 := by
  obtain ⟨e1, e2⟩ := f.2 K X.lt
  exact ⟨(e2 (by omega)).trans X, e1.trans c⟩
theorem ad_step {b : Sy.Bl} {s s1 s2 : Lb.St} (hp : Lb.pgS b s = .ok s1) (hl : Lb.labS b s1 = .ok s2) : Lb.stepS b s = Lb.loopS b { s2 with pg := Lb.more s2.i s2.pg } := by
  unfold Lb.stepS
  rw [hp]; simp only
  rw [hl]
theorem ad_fin {B P : Nat} {w' : World} {col : Nat → Nat} {s2 : Lb.St} {l : List Lb.Pg} {p : Lb.Pg} {ns : List Int} {mt : List Int} {op : List (Nat × Int)} (h1 : s2.pg = l ++ [p]) (hb : BM B P w' col (l ++ [{ p with fin := 0 }]) mt ns s2.lab op.reverse) (h4 : ∀ x, ns.contains x = s2.pg.any (fun q => q.num == x)) (hm : mt.length = s2.i + 1) (ho : ∀ q ∈ op, q.1 < s2.i + 1)
    (h7 : l.length ≤ s2.i + min 2 1) (h8 : op.length ≤ s2.i + 1) (h9 : s2.lab.length ≤ s2.i + (2 - 1)) (h10 : ns.length ≤ s2.i + 1 + min 2 1) : Bld 0 B P w' col { s2 with pg := Lb.more s2.i s2.pg, i := s2.i + 1, op := op, mate := mt } := by
  refine ⟨l, { p with fin := s2.i + 1 }, ns, ?_, rfl, hb, fun x => ?_, hm, ho, by show l.length ≤ s2.i + 1 + min 0 1; omega, h8, by show s2.lab.length ≤ s2.i + 1 + (0 - 1); omega, by show ns.length ≤ s2.i + 1 + 1 + min 0 1; omega⟩
  · show Lb.more s2.i s2.pg = _
    rw [h1, more_last]
  · show ns.contains x = (Lb.more s2.i s2.pg).any _
    rw [Lb.more_any]; exact h4 x
theorem lc_beginLoopN {B P : Nat} {w : World} {col : Nat → Nat} {pg : List Lb.Pg} {mt ns ls : List Int} {op : List (Nat × Int)} (h : BM B P w col pg mt ns ls op) (n : Int) (i : Nat) (l1 : op.length ≤ 5000) (hB : B ≤ w.heap.size) (ha : op.any (fun q => q.2 == n) = true) :
    Calls Tryd.prog 57 #[.pointer (some ⟨P, 0, none⟩), .int .i64 n, .int .i64 (i : Nat)] w fun e w' => e = .returned (.int .i64 11) ∧ Below B w w' := (lc_beginLoop h n i l1 hB).mono (by
  intro e w' h
  unfold BgL at h
  rwa [if_pos ha] at h)
theorem lc_beginLoopY {B P : Nat} {w : World} {col : Nat → Nat} {pg : List Lb.Pg} {mt ns ls : List Int} {op : List (Nat × Int)} (h : BM B P w col pg mt ns ls op) (n : Int) (i : Nat) (l1 : op.length ≤ 5000) (hB : B ≤ w.heap.size) (ha : op.any (fun q => q.2 == n) = false) :
    Calls Tryd.prog 57 #[.pointer (some ⟨P, 0, none⟩), .int .i64 n, .int .i64 (i : Nat)] w fun e w' => e = .returned (.int .i64 0) ∧ BmR B P w col pg mt ns ls (op ++ [(i, n)]) w' := (lc_beginLoop h n i l1 hB).mono (by
  intro e w' h
  unfold BgL at h
  rwa [if_neg (by rw [ha]; decide)] at h)
theorem op_cons {op : List (Nat × Int)} {i : Nat} {n : Int} (h : ∀ q ∈ op, q.1 < i) : ∀ q ∈ (i, n) :: op, q.1 < i + 1 := fun q hq => by
  rcases List.mem_cons.1 hq with rfl | hq
  · show i < i + 1; omega
  · have := h q hq; omega
theorem ad_open {B P K : Nat} {w1 w' : World} {d : Bi} {col : Nat → Nat} {pg : List Lb.Pg} {mt ns ls : List Int} {op : List (Nat × Int)} (br : BmR B P w1 col pg mt ns ls op w') (X : Bx w1 K (bicell d).toArray 37) (c : col K = 9) : ∃ col' pv mv lv ov nb, Bq B P w' pg mt ns op pv mv lv ov nb col' ∧ w'.cell? ⟨P, 2, none⟩ = some (.map (some nb)) ∧ w'.cell? ⟨K, 10, none⟩ = some (.int .i64 d.b.n) ∧ SetM w' nb ns ∧ Bx w' K (bicell d).toArray 37 ∧ col' K = 9 ∧ Below B w1 w' := by
  obtain ⟨col', pv, mv, lv, ov, nb, hm, hl, fc, bel⟩ := br.open_
  have bx := ad_box X c fc
  exact ⟨col', pv, mv, lv, ov, nb, hm, hm.X.cell' 2 (.map (some nb)) rfl, bx.1.cell' 10 (.int .i64 d.b.n) rfl, hm.N, bx.1, bx.2, bel⟩
section
variable {B P K : Nat} {w : World} {d : Bi} {s : Lb.St} {col : Nat → Nat}
set_option maxRecDepth 100000 in
set_option maxHeartbeats 4000000 in
theorem lc_add (h : Bld 0 B P w col s) (hB : B ≤ w.heap.size) (hi : s.i < 2000) (n1 : -9223372036854775808 ≤ d.b.n) (n2 : d.b.n ≤ 9223372036854775807) (l1 : 0 ≤ d.b.label) (l2 : d.b.label ≤ 9223372036854775807) :
    Calls Tryd.prog 40 #[.pointer (some ⟨P, 0, none⟩), .agg #[.int .i64 d.b.kind, .int .i64 d.b.label, .bool d.b.skip, .slice d.wa d.b.words.length d.wc, .int .i64 d.b.left.op, .int .i64 d.b.left.n, .slice d.la d.b.left.ks.length d.lc, .int .i64 d.b.x.op, .int .i64 d.b.x.n, .slice d.xa d.b.x.ks.length d.xc, .int .i64 d.b.n]] w (AdR B P w d.b s) := by
  have h0 : ∃ col0, Ad 0 B P w.heap.size w d col0 s (w.alloc (.cells (bicell d).toArray 37)) := by
    refine ⟨fun b => if b = w.heap.size then 9 else col b, ?_, Bx.new _ _ _, if_pos rfl, Below.alloc (Below.refl _ _) hB _, hB⟩
    obtain ⟨l, p, ns, h1, h2, h3, h4⟩ := h
    exact ⟨l, p, ns, h1, h2, (h3.recol fun b hb => if_neg (by omega)).kept (Qw.al (Qw.refl w) _), h4⟩
  obtain ⟨col0, h0⟩ := h0
  have hmt : s.mate.length = s.i := by obtain ⟨l, p, ns, h1, h2, h3, h4, h5, _⟩ := h; exact h5
  have x1 : ∃ a c, w.cell? ⟨P, 1, none⟩ = some (.slice a s.i c) := by
    obtain ⟨l, p, ns, h1, h2, ⟨pv, mv, lv, ov, nb, hm, _⟩, _⟩ := h
    have := hm.X.cell' 1 mv rfl
    obtain ⟨a, c, e, _⟩ := hm.M.form
    exact ⟨a, c, by rw [this, e, List.length_map, hmt]⟩
  obtain ⟨a, c, y1⟩ := x1
  have hPw : P < w.heap.size := by obtain ⟨l, p, ns, h1, h2, h3, _⟩ := h; exact h3.hP.2
  have hPn : P ≠ w.heap.size := by omega
  have HA := Lib.hid h0
  clear h0 h
  go_enter Tryd.func40, Tryd.ntmps40
  go_upto_if 16 with fail
  go_cut [] (fun wx => ∃ (s1 : Lb.St) (col1 : Nat → Nat), Hid (Lb.pgS d.b s = .ok s1 ∧ s1.i = s.i) ∧ Hid (Ad 1 B P w.heap.size w d col1 s1 wx))
  case first =>
    refine code_of (fun wx => Ad 0 B P w.heap.size w d col0 s wx) HA.out ?_
    clear HA y1
    intro w1 h1
    have HW := Lib.hid h1
    obtain ⟨l, p, ns, e1, e2, bm, e3, e4, e5, e6, e7, e8, e9⟩ := h1.L
    have hB1 : B ≤ w1.heap.size := Nat.le_trans hB h1.q.size
    have XK := Lib.hid (And.intro h1.X h1.c)
    clear h1
    by_cases hk : d.b.kind = 6
    · have hb6 : (d.b.kind == 6) = true := by simp [hk]
      replace hk := Lib.hid hk
      cases hop : s.op with
      | cons q r =>
        have ep : Hid (Lb.stepS d.b s = .bad q.1 11) := Lib.hid (by unfold Lb.stepS Lb.pgS; rw [if_pos hk.out, hop])
        rw [hop, List.reverse_cons] at bm
        have C1 := Lib.hid (lc_endProgN bm)
        clear bm e1 e2 e3 e4 e5 e6 e7 e8 e9
        go_wp2_with (go_at_call 41; ((with_reducible refine C1.out.mono ?_); rintro e w' ⟨rfl, qq⟩))
        exact bodyPost_ret (v := .tuple #[.int .i64 (q.1 : Nat), .int .i64 11]) (by simp [results, Tryd.results40, go_sem]) rfl (AdR.bad ep.out (HW.out.kept qq).q)
      | nil =>
        rw [hop, List.reverse_nil] at bm
        have C1 := Lib.hid (lc_endProgY bm hB1)
        have hp : ({ ({ p with fin := 0 } : Lb.Pg) with fin := s.mate.length } : Lb.Pg) = p := by cases p; simp at e2 ⊢; omega
        rw [hp, ← e1] at C1
        clear bm hp
        cases hd : s.pg.any (fun q => q.num == d.b.n) with
        | true =>
          have ep : Hid (Lb.stepS d.b s = .bad s.i 7) := Lib.hid (by unfold Lb.stepS Lb.pgS; rw [if_pos hk.out, hop]; simp only; rw [if_pos hd])
          have hc : ns.contains d.b.n = true := (e3 _).trans hd
          clear e1 e2 e3 e4 e5 e6 e7 e8 e9 hd
          go_wp2_with (go_at_call 41; with_reducible refine C1.out.mono ?_)
          rintro e w' ⟨rfl, br⟩
          obtain ⟨col2, pv, mv, lv, ov, nb, hm, x2, k10, hN, bx, bc, bel⟩ := ad_open br XK.out.1 XK.out.2
          go_wp2
          refine wp_region_still_tail 6 (by kernel_rfl) (by kernel_rfl) ?_
          change wpStill _ _ (World.drew _) _ _ _
          simp only [List.take_succ_cons, List.take_zero, List.drop_succ_cons, List.drop_zero]
          repeat still_step
          refine wpStill_nil ?_
          change wpList _ _ _ _ _ (World.drew _)
          go_wp2_with (at_lookup; refine set_look (by rfl) _ _ (by rfl) (by rfl) d.b.n (by rfl) (hN.go rfl) n1 n2 ?_; rw [hc])
          exact bodyPost_ret (v := .tuple #[.int .i64 (s.i : Nat), .int .i64 7]) (by simp [results, Tryd.results40, go_sem]) rfl (AdR.bad ep.out (Below.drew (Below.trans HW.out.q bel)))
        | false =>
          have ep : Hid (Lb.pgS d.b s = .ok { s with pg := s.pg ++ [⟨d.b.n, s.i, s.i⟩], lab := [] }) := Lib.hid (by unfold Lb.pgS; rw [if_pos hk.out, hop]; simp only; rw [if_neg (by rw [hd]; decide)])
          have hc : ns.contains d.b.n = false := (e3 _).trans hd
          have E := Lib.hid (And.intro e1 (And.intro e2 (And.intro e3 (And.intro e4 (And.intro e5 (And.intro e6 (And.intro e7 e9)))))))
          have lp : s.pg.length ≤ 5000 := by rw [e1]; simp; omega
          have ln : ns.length ≤ 5000 := by omega
          have lm : s.mate.length ≤ 5000 := by omega
          clear e1 e2 e3 e4 e5 e6 e7 e8 e9 hd
          go_wp2_with (go_at_call 41; with_reducible refine C1.out.mono ?_)
          rintro e w' ⟨rfl, br⟩
          obtain ⟨col2, pv, mv, lv, ov, nb, hm, x2, k10, hN, bx, bc, bel⟩ := ad_open br XK.out.1 XK.out.2
          go_wp2
          refine wp_region_still_tail 6 (by kernel_rfl) (by kernel_rfl) ?_
          change wpStill _ _ (World.drew _) _ _ _
          simp only [List.take_succ_cons, List.take_zero, List.drop_succ_cons, List.drop_zero]
          repeat still_step
          refine wpStill_nil ?_
          change wpList _ _ _ _ _ (World.drew _)
          have hB2 : B ≤ (World.drew w').heap.size := Nat.le_trans hB1 bel.size
          have C2 := Lib.hid (lc_begin (hm.kept (Qw.dr (Qw.refl w'))) d.b.n n1 n2 lp ln lm hB2)
          go_wp2_with (first | (at_lookup; refine set_look (by rfl) _ _ (by rfl) (by rfl) d.b.n (by rfl) (hN.go rfl) n1 n2 ?_; rw [hc]) | (go_at_call 56; ((with_reducible refine C2.out.mono ?_); rintro e w'' ⟨rfl, br3⟩)))
          go_meet
          obtain ⟨col3, bm3, fc3, bel3⟩ := br3
          have bx3 := ad_box (bx.kept (Qw.dr (Qw.refl w'))) bc fc3
          obtain ⟨e1, e2, e3, e4, e5, e6, e7, e9⟩ := E.out
          have g1 : s.pg.length ≤ s.i + 1 := by rw [e1]; simp; omega
          refine ⟨{ s with pg := s.pg ++ [⟨d.b.n, s.i, s.i⟩], lab := [] }, col3, Lib.hid (And.intro ep.out rfl), Lib.hid ⟨⟨s.pg, ⟨d.b.n, s.i, s.i⟩, d.b.n :: ns, rfl, rfl, ?_, fun x => ?_, e4, e5, g1, e7, by simp, ?_⟩, bx3.1, bx3.2, Below.trans (Below.drew (Below.trans HW.out.q bel)) bel3, hB⟩⟩
          · show BM B P w'' col3 (s.pg ++ [⟨d.b.n, s.i, 0⟩]) s.mate (d.b.n :: ns) [] s.op.reverse
            rw [hop, List.reverse_nil, ← e4]; exact bm3
          · show (d.b.n :: ns).contains x = (s.pg ++ [(⟨d.b.n, s.i, s.i⟩ : Lb.Pg)]).any _
            rw [List.any_append, ← e3 x, List.contains_cons]
            simp [Bool.or_comm, BEq.comm]
          · show (d.b.n :: ns).length ≤ s.i + 1 + 1
            simp; omega
    · go_wp2
      go_meet
      exact ⟨s, col0, Lib.hid ⟨by unfold Lb.pgS; rw [if_neg hk], rfl⟩, Lib.hid HW.out.up⟩
  case rest =>
    clear y1 HA
    obtain ⟨s1, col1, hp, HA⟩ := hcut
    have k1 := HA.out.X.cell' 1 (.int .i64 d.b.label) rfl
    go_upto_if 40 with fail
    go_cut [] (fun wx => ∃ (s2 : Lb.St) (col2 : Nat → Nat), Hid (Lb.labS d.b s1 = .ok s2 ∧ s2.i = s.i) ∧ Hid (Ad 2 B P w.heap.size w d col2 s2 wx))
    case first =>
      by_cases hl : d.b.label = 0
      · have hb0 : (d.b.label != 0) = false := by simp [hl]
        have e : Hid (Lb.labS d.b s1 = .ok s1) := Lib.hid (by unfold Lb.labS; rw [if_neg (by omega)])
        clear hl
        go_wp2
        go_meet
        exact ⟨s1, col1, Lib.hid (And.intro e.out hp.out.2), Lib.hid HA.out.up2⟩
      · have hb0 : (d.b.label != 0) = true := by simp [hl]
        have hpos : 0 < d.b.label := by omega
        obtain ⟨l, p, ns, e1, e2, ⟨pv, mv, lv, ov, nb, hm, lb, rfl, hL, hb, hc⟩, e3, e4, e5, e6, e7, e8, e9⟩ := HA.out.L
        have x3 := hm.X.cell' 3 (.map (some lb)) rfl
        have l1' : -9223372036854775808 ≤ d.b.label := by omega
        cases hd : s1.lab.contains d.b.label with
        | true =>
          have ep : Hid (Lb.stepS d.b s = .bad s.i 7) := Lib.hid (by unfold Lb.stepS; rw [hp.out.1]; simp only; unfold Lb.labS; rw [if_pos hpos, if_pos hd, hp.out.2])
          clear e1 e2 e3 e4 e5 e6 e7 e8 e9
          go_wp2
          refine wp_region_still_tail 6 (by kernel_rfl) (by kernel_rfl) ?_
          change wpStill _ _ (World.drew _) _ _ _
          simp only [List.take_succ_cons, List.take_zero, List.drop_succ_cons, List.drop_zero]
          repeat still_step
          refine wpStill_nil ?_
          change wpList _ _ _ _ _ (World.drew _)
          go_wp2_with (at_lookup; refine set_look (by rfl) _ _ (by rfl) (by rfl) d.b.label (by rfl) (hL.go rfl) l1' l2 ?_; rw [hd])
          exact bodyPost_ret (v := .tuple #[.int .i64 (s.i : Nat), .int .i64 7]) (by simp [results, Tryd.results40, go_sem]) rfl (AdR.bad ep.out (Below.drew HA.out.q))
        | false =>
          have ep : Hid (Lb.labS d.b s1 = .ok { s1 with lab := d.b.label :: s1.lab }) := Lib.hid (by unfold Lb.labS; rw [if_pos hpos, if_neg (by rw [hd]; decide)])
          have ll : s1.lab.length ≤ 1000000 := by have := hp.out.2; omega
          have E := Lib.hid (And.intro e1 (And.intro e2 (And.intro e3 (And.intro e4 (And.intro e5 (And.intro e6 (And.intro e7 (And.intro e8 e9))))))))
          clear e1 e2 e3 e4 e5 e6 e7 e8 e9
          go_wp2
          refine wp_region_still_tail 6 (by kernel_rfl) (by kernel_rfl) ?_
          change wpStill _ _ (World.drew _) _ _ _
          simp only [List.take_succ_cons, List.take_zero, List.drop_succ_cons, List.drop_zero]
          repeat still_step
          refine wpStill_nil ?_
          change wpList _ _ _ _ _ (World.drew _)
          go_wp2_with (at_lookup; refine set_look (by rfl) _ _ (by rfl) (by rfl) d.b.label (by rfl) (hL.go rfl) l1' l2 ?_; rw [hd])
          refine wp_region_still_tail 6 (by kernel_rfl) (by kernel_rfl) ?_
          change wpStill _ _ (World.drew _) _ _ _
          simp only [List.take_succ_cons, List.take_zero, List.drop_succ_cons, List.drop_zero]
          repeat still_step
          refine wpStill_nil ?_
          change wpList _ _ _ _ _ (World.drew _)
          have q2 : Qw wc (World.drew (World.drew wc)) := Qw.dr (Qw.dr (Qw.refl wc))
          have hm2 := hm.kept q2
          have hL2 : SetM (World.drew (World.drew wc)) lb s1.lab := hL.go rfl
          go_wp2_with (at_mapUpdate; refine set_put (by rfl) _ _ _ (by rfl) (by rfl) d.b.label (by rfl) (by rfl) hL2 l1' l2 ll ?_; intro w4 hN hg4)
          go_meet
          have r := hm2.newL rfl hb hc hL2.lt hN hg4
          have f := (Fc.of (col := col1) q2).trans (Fc.one hm2.c0 (by decide) hc hg4)
          have bx := ad_box HA.out.X HA.out.c f
          obtain ⟨e1, e2, e3, e4, e5, e6, e7, e8, e9⟩ := E.out
          refine ⟨{ s1 with lab := d.b.label :: s1.lab }, _, Lib.hid (And.intro ep.out hp.out.2), Lib.hid ⟨⟨l, p, ns, e1, e2, ⟨_, _, _, _, _, r.1, r.2⟩, e3, e4, e5, e6, e7, ?_, e9⟩, bx.1, bx.2, (Below.drew (Below.drew HA.out.q)).grown hg4 (Nat.le_trans hB HA.out.q.size) (some_le hb), hB⟩⟩
          show (d.b.label :: s1.lab).length ≤ s1.i + 1
          simp only [List.length_cons]; omega
    case rest =>
      clear k1 HA
      obtain ⟨s2, col2, hl, HA⟩ := hcut
      obtain ⟨l, p, ns, e1, e2, bm, e3, e4, e5, e6, e7, e8, e9⟩ := HA.out.L
      obtain ⟨pv, mv, lv, ov, nb, hm, hlm⟩ := bm
      have step := Lib.hid (ad_step hp.out.1 hl.out.1)
      have hi2 : s2.i = s.i := hl.out.2
      have x1 := hm.X.cell' 1 mv rfl
      have f1 := hm.X.free 1
      have hPc := hm.ltP
      have hPcn : P ≠ wc.heap.size := by omega
      have hBc : B ≤ wc.heap.size := Nat.le_trans hB HA.out.q.size
      have q1 : Qw wc (wc.alloc (.cells #[.int .i64 (-1)] 3)) := Qw.al (Qw.refl wc) _
      have H1 := hm.kept q1
      have L1 := hlm.kept q1
      have B1 : Bx (wc.alloc (.cells #[.int .i64 (-1)] 3)) wc.heap.size (icell (-1)).toArray 3 := Bx.new wc _ _
      obtain ⟨mv', w2, hr, ho, hg, hn⟩ := g_append (ty := 23) 3 23 1 8 _ _ wc.heap.size info_int Tryd.underlying23 rfl (by decide) (by decide) B1 rfl (by intro u hu; simp [icell] at hu; rcases hu with rfl; rfl) H1.M (by rw [List.length_map]; omega) (le_al B wc _ hBc)
      have H2 := H1.newM (mt' := s2.mate ++ [-1]) (by rw [List.map_append]; exact ho) hg hn
      have L2 := L1.keep (w2 := w2.setCell ⟨P, 1, none⟩ mv') H1.c0 (c := 2) (by decide) (turn_set H1.c2 hg 1 mv')
      have X2 := H1.px1 (by decide) H1.c2 hg
      have y1 := X2.cell' 1 mv rfl
      have y2 := X2.free 1
      have F2 := (Fc.of (col := col2) q1).trans (Fc.grown H1.c0 (by decide) H1.c2 hg 1 mv')
      have bx := ad_box HA.out.X HA.out.c F2
      have bel2 := Below.setCell (p := ⟨P, 1, none⟩) (bel_own q1 hBc (fun g hg => (hm.M.lt hg).1) hg) hm.hP mv'
      have kk : ∀ j, (w2.setCell ⟨P, 1, none⟩ mv').cell? ⟨w.heap.size, j, none⟩ = w2.cell? ⟨w.heap.size, j, none⟩ := fun j => World.cell?_of_block (w := w2) (Below.heap_setCell w2 ⟨P, 1, none⟩ mv' w.heap.size (by show w.heap.size ≠ P; omega))
      have k0 := bx.1.cell' 0 (.int .i64 d.b.kind) rfl
      have k10 := bx.1.cell' 10 (.int .i64 d.b.n) rfl
      rw [kk] at k0 k10
      have BM3 : BM B P (w2.setCell ⟨P, 1, none⟩ mv') (colN (wc.alloc (.cells #[.int .i64 (-1)] 3)) col2 2) (l ++ [{ p with fin := 0 }]) (s2.mate ++ [-1]) ns s2.lab s2.op.reverse := ⟨_, _, _, _, _, H2, L2⟩
      obtain ⟨ma, mc, rfl, _⟩ := hm.M.form
      obtain ⟨pa', pc', rfl, _⟩ := ho.form
      simp only [List.length_append, List.length_map, List.length_cons, List.length_nil, Nat.zero_add] at BM3 hr x1 y1 bel2
      have mlen : (s2.mate ++ [-1]).length = s2.i + 1 := by simp; omega
      have hB3 := Nat.le_trans hBc bel2.size
      have bel3 := Lib.hid (Below.trans HA.out.q bel2)
      have hr' := Lib.hid hr
      clear H1 L1 B1 q1 H2 L2 X2 F2 bx kk hm hlm hg hn ho hr bel2
      have lo : s2.op.reverse.length ≤ 5000 := by rw [List.length_reverse]; omega
      by_cases h4 : d.b.kind = 4
      · have hb4 : (d.b.kind == 4) = true := by simp [h4]
        cases ha : s2.op.any (fun q => q.2 == d.b.n) with
        | true =>
          have CC := Lib.hid (lc_beginLoopN BM3 d.b.n s.i lo hB3 (by rw [List.any_reverse]; exact ha))
          have ep : Hid (Lb.stepS d.b s = .bad s.i 11) := Lib.hid (by rw [step.out]; unfold Lb.loopS; rw [if_pos h4, if_pos ha, ← hi2])
          clear BM3 e1 e2 e3 e4 e5 e6 e7 e8 e9 h4 ha
          go_wp2_with (first | (at_builtin; refine Lib.wpList_append_run _ rfl (.tmp 59) (.tmp 60) 23 23 rfl _ _ (by rfl) (by rfl) _ w2 hr'.out ?_) | (go_at_call 57; ((with_reducible refine CC.out.mono ?_); rintro e w'' ⟨rfl, b4⟩)))
          exact bodyPost_ret (v := .tuple #[.int .i64 (s.i : Nat), .int .i64 11]) (by simp [results, Tryd.results40, go_sem]) rfl (AdR.bad ep.out (Below.trans bel3.out b4))
        | false =>
          have CC := Lib.hid (lc_beginLoopY BM3 d.b.n s.i lo hB3 (by rw [List.any_reverse]; exact ha))
          have ep : Hid (Lb.stepS d.b s = .ok { s2 with pg := Lb.more s2.i s2.pg, i := s2.i + 1, op := (s2.i, d.b.n) :: s2.op, mate := s2.mate ++ [-1] }) := Lib.hid (by rw [step.out]; unfold Lb.loopS; rw [if_pos h4, if_neg (by simp [ha])])
          have FN := Lib.hid (fun w' col' hb => ad_fin (B := B) (P := P) (w' := w') (col := col') (op := (s2.i, d.b.n) :: s2.op) (mt := s2.mate ++ [-1]) e1 hb e3 mlen (op_cons e5) e6 (by simp; omega) e8 e9)
          clear BM3 e1 e2 e3 e4 e5 e6 e7 e8 e9 h4 ha
          go_wp2_with (first | (at_builtin; refine Lib.wpList_append_run _ rfl (.tmp 59) (.tmp 60) 23 23 rfl _ _ (by rfl) (by rfl) _ w2 hr'.out ?_) | (go_at_call 57; ((with_reducible refine CC.out.mono ?_); rintro e w'' ⟨rfl, br⟩)))
          obtain ⟨col4, bm4, fc4, bel4⟩ := br
          have r := FN.out w'' col4 (by rw [List.reverse_cons, hi2]; exact bm4)
          exact bodyPost_ret (v := .tuple #[.int .i64 (s.i : Nat), .int .i64 0]) (by simp [results, Tryd.results40, go_sem]) rfl (AdR.ok ep.out r (Below.trans bel3.out bel4))
      · have hb4 : (d.b.kind == 4) = false := by simp [h4]
        by_cases h5 : d.b.kind = 5
        · have hb5 : (d.b.kind == 5) = true := by simp [h5]
          cases hop : s2.op with
          | nil =>
            rw [hop, List.reverse_nil] at BM3
            have CC := Lib.hid (lc_endLoopE BM3 d.b.n s.i)
            have ep : Hid (Lb.stepS d.b s = .bad s.i 11) := Lib.hid (by rw [step.out]; unfold Lb.loopS; rw [if_neg h4, if_pos h5]; simp only [hop]; rw [← hi2])
            clear BM3 e1 e2 e3 e4 e5 e6 e7 e8 e9 h4 h5
            go_wp2_with (first | (at_builtin; refine Lib.wpList_append_run _ rfl (.tmp 59) (.tmp 60) 23 23 rfl _ _ (by rfl) (by rfl) _ w2 hr'.out ?_) | (go_at_call 58; ((with_reducible refine CC.out.mono ?_); rintro e w'' ⟨rfl, qq⟩)))
            exact bodyPost_ret (v := .tuple #[.int .i64 (s.i : Nat), .int .i64 11]) (by simp [results, Tryd.results40, go_sem]) rfl (AdR.bad ep.out (Below.trans bel3.out (Below.mono qq hB3)))
          | cons q r =>
            rw [hop, List.reverse_cons] at BM3
            by_cases hq : q.2 = d.b.n
            · have hqi : q.1 < s2.i := e5 q (by rw [hop]; exact List.mem_cons_self ..)
              have c1 := lc_endLoopY BM3 s.i (by omega) (by omega) (by omega) hB3
              rw [hq] at c1
              have CC := Lib.hid c1
              have ep : Hid (Lb.stepS d.b s = .ok { s2 with pg := Lb.more s2.i s2.pg, i := s2.i + 1, op := r, mate := (s2.mate ++ [(q.1 : Int)]).set q.1 s2.i }) := Lib.hid (by rw [step.out]; unfold Lb.loopS; rw [if_neg h4, if_pos h5]; simp only [hop]; rw [if_pos hq])
              have hset : ((s2.mate ++ [-1]).set q.1 (s.i : Int)).set s.i (q.1 : Int) = (s2.mate ++ [(q.1 : Int)]).set q.1 s2.i := by
                rw [← hi2, List.set_append_left _ _ (by omega), List.set_append_right _ _ (by rw [List.length_set]; omega), List.set_append_left _ _ (by omega), List.length_set, e4, Nat.sub_self]
                rfl
              have FN := Lib.hid (fun w' col' hb => ad_fin (B := B) (P := P) (w' := w') (col := col') (op := r) (mt := (s2.mate ++ [(q.1 : Int)]).set q.1 s2.i) e1 hb e3 (by simp; omega) (fun q' hq' => by have := e5 q' (by rw [hop]; exact List.mem_cons_of_mem _ hq'); omega) e6 (by have := congrArg List.length hop; simp at this; omega) e8 e9)
              clear c1 BM3 e1 e2 e3 e4 e5 e6 e7 e8 e9 h4 h5 hq
              go_wp2_with (first | (at_builtin; refine Lib.wpList_append_run _ rfl (.tmp 59) (.tmp 60) 23 23 rfl _ _ (by rfl) (by rfl) _ w2 hr'.out ?_) | (go_at_call 58; ((with_reducible refine CC.out.mono ?_); rintro e w'' ⟨rfl, br⟩)))
              obtain ⟨col4, bm4, fc4, bel4⟩ := br
              rw [hset] at bm4
              have rr := FN.out w'' col4 bm4
              exact bodyPost_ret (v := .tuple #[.int .i64 (s.i : Nat), .int .i64 0]) (by simp [results, Tryd.results40, go_sem]) rfl (AdR.ok ep.out rr (Below.trans bel3.out bel4))
            · have CC := Lib.hid (lc_endLoopN BM3 d.b.n hq s.i)
              have ep : Hid (Lb.stepS d.b s = .bad s.i 11) := Lib.hid (by rw [step.out]; unfold Lb.loopS; rw [if_neg h4, if_pos h5]; simp only [hop]; rw [if_neg hq, ← hi2])
              clear BM3 e1 e2 e3 e4 e5 e6 e7 e8 e9 h4 h5 hq
              go_wp2_with (first | (at_builtin; refine Lib.wpList_append_run _ rfl (.tmp 59) (.tmp 60) 23 23 rfl _ _ (by rfl) (by rfl) _ w2 hr'.out ?_) | (go_at_call 58; ((with_reducible refine CC.out.mono ?_); rintro e w'' ⟨rfl, qq⟩)))
              exact bodyPost_ret (v := .tuple #[.int .i64 (s.i : Nat), .int .i64 11]) (by simp [results, Tryd.results40, go_sem]) rfl (AdR.bad ep.out (Below.trans bel3.out (Below.mono qq hB3)))
        · have hb5 : (d.b.kind == 5) = false := by simp [h5]
          have ep : Hid (Lb.stepS d.b s = .ok { s2 with pg := Lb.more s2.i s2.pg, i := s2.i + 1, op := s2.op, mate := s2.mate ++ [-1] }) := Lib.hid (by rw [step.out]; unfold Lb.loopS; rw [if_neg h4, if_neg h5])
          have r := Lib.hid (ad_fin (op := s2.op) e1 BM3 e3 mlen (fun q hq => by have := e5 q hq; omega) e6 (by omega) e8 e9)
          clear BM3 e1 e2 e3 e4 e5 e6 e7 e8 e9 h4 h5
          go_wp2_with (at_builtin; refine Lib.wpList_append_run _ rfl (.tmp 59) (.tmp 60) 23 23 rfl _ _ (by rfl) (by rfl) _ w2 hr'.out ?_)
          exact bodyPost_ret (v := .tuple #[.int .i64 (s.i : Nat), .int .i64 0]) (by simp [results, Tryd.results40, go_sem]) rfl (AdR.ok ep.out r.out bel3.out)
end
end Go.Proofs.YtfijmdaeaahodaaDoor

