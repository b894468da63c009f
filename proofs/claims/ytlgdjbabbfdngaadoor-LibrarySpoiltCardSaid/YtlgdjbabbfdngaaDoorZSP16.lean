import Derived.Test.YtlgdjbabbfdngaaDoorZSP4
import Derived.Test.YtlgdjbabbfdngaaDoorZSP6
import Derived.Test.YtlgdjbabbfdngaaDoorZSP12
import Derived.Test.YtlgdjbabbfdngaaDoorZSP14
import Derived.Test.YtlgdjbabbfdngaaDoorZSP15
import Derived.Deep.DeepCutAuto
import Derived.WalkSpells
set_option linter.unusedVariables false
set_option linter.unusedSimpArgs false
namespace Go.Proofs.YtlgdjbabbfdngaaDoor
open Go.RowKit
namespace Lb
open Sy
theorem fnd_yes : ∀ (l : List Pg) (n : Int) (i : Nat), l.any (fun p => p.num == n) = true → ∃ k, fnd l n i = some k
  | [], _, _, h => by simp at h
  | p :: l, n, i, h => by
    unfold fnd
    by_cases e : p.num = n
    · exact ⟨i, by rw [if_pos e]⟩
    · rw [if_neg e]
      refine fnd_yes l n (i + 1) ?_
      rw [List.any_cons, Bool.or_eq_true] at h
      rcases h with h | h
      · exact absurd (by simpa using h) e
      · exact h
theorem fnd_no (l : List Pg) (n : Int) (i : Nat) (h : l.any (fun p => p.num == n) = false) : fnd l n i = none :=
  fnd_none l n i fun p hp e => by
    rw [List.any_eq_false] at h
    exact h p hp (by simpa using e)
theorem stepS_len {b : Bl} {s s' : St} (h : stepS b s = .ok s') : s'.op.length ≤ s.op.length + 1 ∧ s'.pg.length ≤ s.pg.length + 1 := by
  have ml : ∀ (i : Nat) (l : List Pg), (more i l).length = l.length := fun i l => by have := congrArg List.length (more_nums i l); simpa using this
  unfold stepS at h
  cases h1 : pgS b s with
  | bad j e => rw [h1] at h; cases h
  | ok s1 =>
    rw [h1] at h
    simp only at h
    have a1 : s1.op = s.op ∧ s1.pg.length ≤ s.pg.length + 1 := by
      unfold pgS at h1
      split at h1
      · split at h1
        · cases h1
        · split at h1
          · cases h1
          · injection h1 with h1; rw [← h1]; exact ⟨by simp_all, by simp⟩
      · injection h1 with h1; rw [← h1]; exact ⟨rfl, by omega⟩
    cases h2 : labS b s1 with
    | bad j e => rw [h2] at h; cases h
    | ok s2 =>
      rw [h2] at h
      simp only at h
      have a2 : s2.op = s1.op ∧ s2.pg = s1.pg := by
        unfold labS at h2
        split at h2
        · split at h2
          · cases h2
          · injection h2 with h2; rw [← h2]; exact ⟨rfl, rfl⟩
        · injection h2 with h2; rw [← h2]; exact ⟨rfl, rfl⟩
      have a3 : s'.op.length ≤ s2.op.length + 1 ∧ s'.pg = more s2.i s2.pg := by
        unfold loopS at h
        split at h
        · split at h
          · cases h
          · injection h with h; rw [← h]; exact ⟨by simp, rfl⟩
        · split at h
          · split at h
            · cases h
            · rename_i q r ho
              split at h
              · injection h with h; rw [← h]; refine ⟨?_, rfl⟩
                have ho' : s2.op = _ :: r := ho
                show r.length ≤ s2.op.length + 1
                rw [ho']; simp only [List.length_cons]; omega
              · cases h
          · injection h with h; rw [← h]; exact ⟨Nat.le_succ _, rfl⟩
      rw [a2.1, a1.1] at a3
      refine ⟨a3.1, ?_⟩
      rw [a3.2, ml, a2.2]; exact a1.2
theorem run_len : ∀ {l : List Bl} {s s' : St}, run l s = .ok s' → s'.op.length ≤ s.op.length + l.length ∧ s'.pg.length ≤ s.pg.length + l.length
  | [], s, s', h => by cases h; exact ⟨Nat.le_refl _, Nat.le_refl _⟩
  | b :: l, s, s', h => by
    unfold run at h
    split at h
    · cases h
    · rename_i s1 h1
      have k := stepS_len h1
      have m := run_len h
      simp only [List.length_cons]
      exact ⟨by omega, by omega⟩
theorem op_cases (s : St) : (∃ t r, s.op = t :: r) ∨ s.op = [] := by
  cases s.op with
  | nil => exact .inr rfl
  | cons t r => exact .inl ⟨t, r, rfl⟩
def opi (s : St) : List Int := s.op.reverse.map (fun q => (q.1 : Int))
theorem opi_len (s : St) : (opi s).length = s.op.length := by unfold opi; simp
theorem nnL_take {l : List Bl} {k i : Nat} (h : k < i) : nnL (l.take i) k = nnL l k := by unfold nnL; rw [List.getElem?_take, if_pos h]
theorem nnL_get {bs : List Bl} {i : Nat} (h : i < bs.length) : nnL bs i = bs[i].n := by unfold nnL; rw [List.getElem?_eq_getElem h]
theorem op_at {bs : List Bl} {i : Nat} {s : St} (h : run (bs.take i) st0 = .ok s) : ∀ q ∈ s.op, q.1 < s.i ∧ nnL bs q.1 = q.2 := fun q hq => by
  have m := Mi.run Mi.start h
  rw [List.nil_append] at m
  obtain ⟨h1, _, h3, _⟩ := m.op q hq
  have hi := m.hi
  refine ⟨by rw [hi]; exact h1, ?_⟩
  rw [← h3, nnL_take (by rw [List.length_take] at h1; omega)]
theorem run_mate {bs : List Bl} {i : Nat} {s : St} (h : run (bs.take i) st0 = .ok s) (hi : i ≤ bs.length) : s.mate.length = i ∧ s.i = i ∧ s.op.length ≤ i ∧ s.pg.length ≤ i + 1 := by
  have m := Mi.run Mi.start h
  rw [List.nil_append] at m
  have h1 := m.hi
  have h2 := m.hm
  have h3 := run_len h
  rw [List.length_take, Nat.min_eq_left hi] at h1 h2 h3
  have e1 : st0.op.length = 0 := rfl
  have e2 : st0.pg.length = 1 := rfl
  exact ⟨h2, h1, by omega, by omega⟩
theorem more_lastL (i : Nat) (p : Pg) : ∀ l : List Pg, more i (l ++ [p]) = l ++ [{ p with fin := i + 1 }]
  | [] => rfl
  | [q] => rfl
  | q :: r :: l => by
    show q :: more i ((r :: l) ++ [p]) = _
    rw [more_lastL i p (r :: l)]; rfl
theorem labS_keep {b : Bl} {s s1 : St} (h : labS b s = .ok s1) : s1.i = s.i ∧ s1.op = s.op ∧ s1.pg = s.pg ∧ s1.mate = s.mate ∧ s1.lab = if 0 < b.label then b.label :: s.lab else s.lab := by
  unfold labS at h
  by_cases c : 0 < b.label
  · rw [if_pos c] at h
    split at h
    · cases h
    · injection h with h; rw [← h, if_pos c]; exact ⟨rfl, rfl, rfl, rfl, rfl⟩
  · rw [if_neg c] at h
    injection h with h; rw [← h, if_neg c]; exact ⟨rfl, rfl, rfl, rfl, rfl⟩
theorem loopS_kept {b : Bl} {s s' : St} (h : loopS b s = .ok s') : s'.i = s.i + 1 ∧ s'.pg = s.pg ∧ s'.lab = s.lab := by
  unfold loopS at h
  split at h
  · split at h
    · cases h
    · injection h with h; rw [← h]; exact ⟨rfl, rfl, rfl⟩
  · split at h
    · split at h
      · cases h
      · split at h
        · injection h with h; rw [← h]; exact ⟨rfl, rfl, rfl⟩
        · cases h
    · injection h with h; rw [← h]; exact ⟨rfl, rfl, rfl⟩
theorem stepS_of {b : Bl} {s s1 s2 : St} (hp : pgS b s = .ok s1) (hl : labS b s1 = .ok s2) : stepS b s = loopS b { s2 with pg := more s2.i s2.pg } := by
  unfold stepS
  rw [hp]; simp only
  rw [hl]
theorem stepS_pg {b : Bl} {s : St} {j : Nat} {e : Int} (hp : pgS b s = .bad j e) : stepS b s = .bad j e := by unfold stepS; rw [hp]
theorem stepS_lab {b : Bl} {s s1 : St} {j : Nat} {e : Int} (hp : pgS b s = .ok s1) (hl : labS b s1 = .bad j e) : stepS b s = .bad j e := by unfold stepS; rw [hp]; simp only; rw [hl]
theorem pgS_keep {b : Bl} {s s1 : St} (h : pgS b s = .ok s1) : s1.mate = s.mate ∧ s1.op = s.op := by
  unfold pgS at h
  split at h
  · split at h
    · cases h
    · split at h
      · cases h
      · injection h with h; rw [← h]; exact ⟨rfl, rfl⟩
  · injection h with h; rw [← h]; exact ⟨rfl, rfl⟩
theorem opi_cons {s s' : St} {i : Nat} {n : Int} (h : s'.op = (i, n) :: s.op) : opi s' = opi s ++ [(i : Int)] := by unfold opi; rw [h]; simp
theorem opi_pop {s s' : St} {t : Nat × Int} (h : s.op = t :: s'.op) : opi s = opi s' ++ [(t.1 : Int)] := by unfold opi; rw [h]; simp
theorem opi_at {s : St} {k : Nat} (h : k < s.op.length) : (opi s)[k]'(by rw [opi_len]; exact h) = ((s.op.reverse[k]'(by simpa using h)).1 : Int) := by unfold opi; rw [List.getElem_map]
theorem step_end {bs : List Bl} {i : Nat} {s s1 s2 s' : St} {p1 : Pg} {l1 : List Pg} (hlt : i < bs.length) (hr : run (bs.take i) st0 = .ok s) (hi : s1.i = i) (hp : pgS bs[i] s = .ok s1) (h1 : s1.pg = l1 ++ [p1]) (hL : Lab bs s1 p1) (hl : labS bs[i] s1 = .ok s2) (h0 : 0 ≤ bs[i].label)
    (hs : loopS bs[i] { s2 with pg := more s2.i s2.pg } = .ok s') : run (bs.take (i + 1)) st0 = .ok s' ∧ s'.pg = l1 ++ [{ p1 with fin := i + 1 }] ∧ Lab bs s' { p1 with fin := i + 1 } := by
  obtain ⟨e1, e2, e3, e4, e5⟩ := labS_keep hl
  obtain ⟨f1, f2, f3⟩ := loopS_kept hs
  have hpg : s'.pg = l1 ++ [{ p1 with fin := i + 1 }] := by
    rw [f2]
    show more s2.i s2.pg = _
    rw [e3, h1, more_lastL, e1, hi]
  refine ⟨(run_take hlt hr).2 s' (by rw [stepS_of hp hl]; exact hs), hpg, ?_⟩
  refine hL.grow (b := bs[i]) (by rw [hi]; exact lbL_get hlt) h0 ?_ ⟨l1, hpg⟩ rfl ?_
  · rw [f1]; show s2.i + 1 = _; rw [e1]
  · rw [f3]; show s2.lab = _; rw [e5]
end Lb
theorem res_libQ {w : World} {tm : Array Value} {R : Nat} {x y z : Value} {j er : Int} (h2 : tm[2]?.getD undef = .pointer (some ⟨R, 0, none⟩)) (h3 : tm[3]?.getD undef = .int .i64 j) (h4 : tm[4]?.getD undef = .int .i64 er) (X : Bx w R #[x, y, z] 41) : (results Tryd.f18 tm).run Tryd.prog w = .ok (.tuple #[.agg #[x, y, z], .int .i64 j, .int .i64 er]) w := by
  have h := run_loadVar_row (P := Tryd.prog) w R 41 41 #[x, y, z] (0, 0) _ X Tryd.underlying41 rfl (by kernel_rfl)
  simp [results, Tryd.results18, h2, h3, h4, asAddr, h]
theorem validR (d : Bi) (S : Nat → Prop) (w : World) (hB : BiB w S d) : Calls Tryd.prog 41 #[.agg #[.int .i64 d.b.kind, .int .i64 d.b.label, .bool d.b.skip, .slice d.wa d.b.words.length d.wc, .int .i64 d.b.left.op, .int .i64 d.b.left.n, .slice d.la d.b.left.ks.length d.lc, .int .i64 d.b.x.op, .int .i64 d.b.x.n, .slice d.xa d.b.x.ks.length d.xc, .int .i64 d.b.n]] w fun e w' => e = .returned (.bool (Sy.vldb d.b)) ∧ Qw w w' := rw_valid d.b _ S w ⟨d.wa, d.wc, d.la, d.lc, d.xa, d.xc, rfl, hB.1, hB.2.1, hB.2.2⟩
theorem OwnG.one {B : Nat} {w : World} {T : TypeId} {g : Nat} {x : List Value} (X : Bx w g x.toArray T) (hB : B ≤ g) : OwnG B w T x.length (.slice (some ⟨g, 0, none⟩) 1 1) [x] := by
  refine ⟨fun y hy => by rw [List.mem_singleton.1 hy], by simp, .inr ⟨g, 1, x.toArray, rfl, hB, X, by simp, by decide, by simp, by simp⟩⟩
structure Ms (w3 : World) (C : Nat) (bv : Value) (l : List Lb.Pg) (q : Lb.Pg) (mt op : List Int) (ov : Value) (wx : World) : Prop where
  S : ∃ pv mv col, Sq C (C + 1) wx (l ++ [q]) mt op bv pv mv ov col
  B : Below C w3 wx
  hC : C ≤ w3.heap.size
structure Mk (w3 : World) (C : Nat) (bv : Value) (l : List Lb.Pg) (q : Lb.Pg) (mt op : List Int) (ov : Value) (K : Nat) (d : Bi) (wx : World) : Prop where
  S : ∃ pv mv col, Sq C (C + 1) wx (l ++ [q]) mt op bv pv mv ov col ∧ 5 < col K
  X : Bx wx K (bicell d).toArray 37
  B : Below C w3 wx
  hC : C ≤ w3.heap.size
section
variable {w3 wx w' : World} {C K : Nat} {bv ov : Value} {l : List Lb.Pg} {q : Lb.Pg} {mt op : List Int} {d : Bi}
theorem Ms.kept (h : Ms w3 C bv l q mt op ov wx) (k : Qw wx w') : Ms w3 C bv l q mt op ov w' := by
  obtain ⟨⟨pv, mv, col, h1⟩, h2, h3⟩ := h
  exact ⟨⟨pv, mv, col, h1.kept k⟩, Below.trans h2 (Below.mono k (Nat.le_trans h3 h2.size)), h3⟩
theorem Mk.kept (h : Mk w3 C bv l q mt op ov K d wx) (k : Qw wx w') : Mk w3 C bv l q mt op ov K d w' := by
  obtain ⟨⟨pv, mv, col, h1, h4⟩, hX, h2, h3⟩ := h
  exact ⟨⟨pv, mv, col, h1.kept k, h4⟩, hX.kept k, Below.trans h2 (Below.mono k (Nat.le_trans h3 h2.size)), h3⟩
theorem Ms.box (h : Ms w3 C bv l q mt op ov wx) (d : Bi) : Mk w3 C bv l q mt op ov wx.heap.size d (wx.alloc (.cells (bicell d).toArray 37)) := by
  obtain ⟨⟨pv, mv, col, h1⟩, h2, h3⟩ := h
  refine ⟨⟨pv, mv, fun b => if b = wx.heap.size then 9 else col b, (h1.recol fun b hb => if_neg (by omega)).kept (Qw.al (Qw.refl wx) _), by simp⟩, Bx.new _ _ _, Below.alloc h2 (Nat.le_trans h3 h2.size) _, h3⟩
theorem Mk.un (h : Mk w3 C bv l q mt op ov K d wx) : Ms w3 C bv l q mt op ov wx := by
  obtain ⟨⟨pv, mv, col, h1, _⟩, _, h2, h3⟩ := h
  exact ⟨⟨pv, mv, col, h1⟩, h2, h3⟩
theorem Mk.lt (h : Mk w3 C bv l q mt op ov K d wx) : K < wx.heap.size ∧ C + 1 < wx.heap.size ∧ C ≤ wx.heap.size := by
  obtain ⟨⟨pv, mv, col, h1, _⟩, hX, h2, h3⟩ := h
  exact ⟨hX.lt, h1.ltR, Nat.le_trans h3 h2.size⟩
theorem Sq.shapes {B R : Nat} {w : World} {pg : List Lb.Pg} {mt op : List Int} {bv pv mv ov : Value} {col : Nat → Nat} (h : Sq B R w pg mt op bv pv mv ov col) : ∃ pa pc ma mc oa oc, pv = .slice pa pg.length pc ∧ mv = .slice ma mt.length mc ∧ ov = .slice oa op.length oc ∧ pc ≤ 9223372036854775807 ∧ mc ≤ 9223372036854775807 ∧ oc ≤ 9223372036854775807 ∧ pg.length ≤ pc ∧ mt.length ≤ mc ∧ op.length ≤ oc := by
  obtain ⟨pa, pc, e1, a1, b1, _⟩ := h.G.form
  obtain ⟨ma, mc, e2, a2, b2, _⟩ := h.M.form
  obtain ⟨oa, oc, e3, a3, b3, _⟩ := h.O.form
  simp only [List.length_map] at *
  exact ⟨pa, pc, ma, mc, oa, oc, e1, e2, e3, b1, b2, b3, a1, a2, a3⟩
theorem Sq.opAt {B R : Nat} {w : World} {pg : List Lb.Pg} {mt op : List Int} {bv pv mv ov : Value} {col : Nat → Nat} (h : Sq B R w pg mt op bv pv mv ov col) {k : Nat} (hk : k < op.length) : ∃ g c, ov = .slice (some ⟨g, 0, none⟩) op.length c ∧ g < w.heap.size ∧ w.cell? ⟨g, k, none⟩ = some (.int .i64 op[k]) := by
  obtain ⟨a, c, e, _, _, hh⟩ := h.O.form
  obtain ⟨g, rfl, _, gl⟩ := hh (by intro e; have := congrArg List.length e; simp at this; subst this; simp at hk)
  have c0 := h.O.at (g := g) (by rw [e]; rfl) (i := k) (by simpa using hk) (j := 0) (u := .int .i64 op[k]) (by rw [List.getElem_map]; rfl)
  rw [Nat.mul_one, Nat.add_zero] at c0
  rw [List.length_map] at e
  exact ⟨g, c, e, gl, c0⟩
end
end Go.Proofs.YtlgdjbabbfdngaaDoor
set_option linter.unusedVariables false
set_option linter.unusedSimpArgs false
namespace Go.Proofs.YtlgdjbabbfdngaaDoor
open Go.RowKit
theorem below_qw {w w3 wx : World} {C : Nat} (q : Qw w w3) (b : Below C w3 wx) (h : w.heap.size ≤ C) : Qw w wx := Below.trans q (Below.mono b h)
theorem below_bx {w3 wx : World} {C K : Nat} {cs : Array Value} {t : TypeId} (X : Bx w3 K cs t) (b : Below C w3 wx) (h : K < C) : Bx wx K cs t := (b.block K h).trans X
set_option maxRecDepth 100000 in
set_option maxHeartbeats 4000000 in
theorem rb_build (bs : List Sy.Bl) (a : Option Addr) (cap : Nat) (S : Nat → Prop) (w : World) (h : BlksB w S a cap bs) : Calls Tryd.prog 18 #[.slice a bs.length cap] w (LbR w bs) := by
  have l1 : bs.length ≤ cap := h.1
  have l2 : cap ≤ 9223372036854775807 := h.2.1
  have HK := Lib.hid h
  clear h
  have sz0 : ∀ o : Obj, (w.alloc o).heap.size = w.heap.size + 1 := fun o => by simp
  obtain ⟨w1, hw1⟩ : ∃ w1, w1 = (w.alloc (.cells #[.slice none 0 0, .slice none 0 0, .slice none 0 0] 41)).alloc (.cells #[.slice none 0 0, .slice none 0 0, .slice none 0 0] 41) := ⟨_, rfl⟩
  have X0 : Bx w1 w.heap.size #[.slice none 0 0, .slice none 0 0, .slice none 0 0] 41 := by rw [hw1]; exact (Bx.new w _ _).alloc _
  have X1 : Bx w1 (w.heap.size + 1) #[.slice none 0 0, .slice none 0 0, .slice none 0 0] 41 := by
    have := Bx.new (w.alloc (.cells #[.slice none 0 0, .slice none 0 0, .slice none 0 0] 41)) #[.slice none 0 0, .slice none 0 0, .slice none 0 0] 41
    rw [sz0] at this
    rw [hw1]; exact this
  have qa : Qw w w1 := by rw [hw1]; exact Qw.al (Qw.al (Qw.refl w) _) _
  have HX := Lib.hid (And.intro X0 X1)
  have QA := Lib.hid qa
  have sz : w1.heap.size = w.heap.size + 2 := by rw [hw1]; simp
  clear X0 X1 qa sz0
  -- an error: the result is the empty library
  have fin : ∀ (wx : World) (tm : Array Value) (j : Nat) (er : Int), Lb.build bs = .bad j er → Qw w wx → Bx wx w.heap.size #[.slice none 0 0, .slice none 0 0, .slice none 0 0] 41 → tm[2]?.getD undef = .pointer (some ⟨w.heap.size, 0, none⟩) → tm[3]?.getD undef = .int .i64 (j : Nat) → tm[4]?.getD undef = .int .i64 er →
      bodyPost Tryd.prog Tryd.f18 (LbR w bs) .ret { tmps := tm, defers := [] } (((wx.setCell ⟨w.heap.size, 0, none⟩ (.slice none 0 0)).setCell ⟨w.heap.size, 1, none⟩ (.slice none 0 0)).setCell ⟨w.heap.size, 2, none⟩ (.slice none 0 0)) := fun wx tm j er hb q X t2 t3 t4 =>
    bodyPost_ret (res_libQ (x := .slice none 0 0) (y := .slice none 0 0) (z := .slice none 0 0) (j := (j : Nat)) (er := er) t2 t3 t4 (((X.set 0 _).set 1 _).set 2 _)) rfl (LbR.bad hb (Qw.sc (Qw.sc (Qw.sc q (Nat.le_refl _) _) (Nat.le_refl _) _) (Nat.le_refl _) _))
  have FIN := Lib.hid fin
  clear fin
  by_cases hbig : 2000 < bs.length
  · have hb : Hid (Lb.build bs = .bad 0 10) := Lib.hid (by unfold Lb.build; rw [if_pos hbig])
    have hbi : (2000 : Int) < (bs.length : Int) := by omega
    have x0 := HX.out.1.cell' 0 _ rfl
    have x1 := HX.out.1.cell' 1 _ rfl
    have x2 := HX.out.1.cell' 2 _ rfl
    have f0 := HX.out.1.free 0
    have f1 := HX.out.1.free 1
    have f2 := HX.out.1.free 2
    have y0 := HX.out.2.cell' 0 _ rfl
    have y1 := HX.out.2.cell' 1 _ rfl
    have y2 := HX.out.2.cell' 2 _ rfl
    go_enter Tryd.func18, Tryd.ntmps18
    go_upto_if 20 with fail
    rw [← hw1]
    clear hw1
    go_wp2
    exact FIN.out _ _ 0 10 hb.out QA.out HX.out.1 rfl rfl rfl
  · have hbi : ¬ (2000 : Int) < (bs.length : Int) := by omega
    go_enter Tryd.func18, Tryd.ntmps18
    go_upto_if 20 with fail
    rw [← hw1]
    clear hw1
    go_wp2
    go_loopw [6] (fun iv wr => ∃ i : Nat, i ≤ bs.length ∧ iv = .int .i64 (i : Int) ∧ Hid (∀ j (h : j < i) (hn : j < bs.length), Sy.vldb bs[j] = true) ∧ Hid (Qw w1 wr)) (fun iv _ => bs.length - (intOf iv).toNat)
    case atStart => exact ⟨0, by omega, rfl, Lib.hid (by intro j h; omega), Lib.hid (Qw.refl _)⟩
    case round =>
      obtain ⟨i, hi, rfl, HV, HQ⟩ := hrel
      have h63 : (i : Int) ≤ 9223372036854775806 := by omega
      by_cases hlt : i < bs.length
      · rcases (HK.out.kept (Qw.trans QA.out HQ.out)).2.2 with h0 | ⟨b, off, f, rfl, hS, hc⟩
        · rw [h0] at hlt; simp at hlt
        obtain ⟨hb, kk, hz⟩ := hc i hlt
        obtain ⟨d, hd⟩ : ∃ d, d = f i := ⟨_, rfl⟩
        rw [← hd] at hb kk hz
        have z0 : wr.cell? ⟨b, off + i * 11, none⟩ = some (.int .i64 d.b.kind) := hz 0 (.int .i64 d.b.kind) rfl
        have z1 := hz 1 (.int .i64 d.b.label) rfl
        have z2 := hz 2 (.bool d.b.skip) rfl
        have z3 := hz 3 (.slice d.wa d.b.words.length d.wc) rfl
        have z4 := hz 4 (.int .i64 d.b.left.op) rfl
        have z5 := hz 5 (.int .i64 d.b.left.n) rfl
        have z6 := hz 6 (.slice d.la d.b.left.ks.length d.lc) rfl
        have z7 := hz 7 (.int .i64 d.b.x.op) rfl
        have z8 := hz 8 (.int .i64 d.b.x.n) rfl
        have z9 := hz 9 (.slice d.xa d.b.x.ks.length d.xc) rfl
        have z10 := hz 10 (.int .i64 d.b.n) rfl
        have hi2 : (i : Int) < (bs.length : Int) := by omega
        have bl := cell_lt z0
        have CV := Lib.hid (validR d S wr kk)
        have HB := Lib.hid hb
        clear hz hc kk hd hb
        cases hv : Sy.vldb d.b with
        | true =>
          rw [hv] at CV
          have hv' : Hid (∀ j (h : j < i + 1) (hn : j < bs.length), Sy.vldb bs[j] = true) := Lib.hid fun j h hn => by
            rcases Nat.lt_or_ge j i with k | k
            · exact HV.out j k hn
            · obtain rfl : j = i := by omega
              rw [← HB.out]; exact hv
          clear hv HV
          go_wp2_with (go_at_call 41; with_reducible refine CV.out.mono ?_)
          rintro e w' ⟨rfl, q⟩
          have Q' : Hid (Qw w1 w') := Lib.hid (Qw.trans HQ.out q)
          go_wp2
          go_roundw
          case measure => simp [intOf]; omega
          case rel => exact ⟨i + 1, by omega, by go_num, hv', Q'⟩
        | false =>
          rw [hv] at CV
          have hbd : Hid (Lb.build bs = .bad i 1) := Lib.hid (by
            unfold Lb.build
            rw [if_neg hbig, Lb.inv_some bs 0 i hlt (fun j h => HV.out j h (by omega)) (by rw [← HB.out]; exact hv), Nat.zero_add])
          clear hv HV
          go_wp2_with (go_at_call 41; with_reducible refine CV.out.mono ?_)
          rintro e w' ⟨rfl, q⟩
          have q' : Qw w1 w' := Qw.trans HQ.out q
          have XX := Lib.hid (HX.out.1.kept q')
          have x0 := XX.out.cell' 0 _ rfl
          have x1 := XX.out.cell' 1 _ rfl
          have x2 := XX.out.cell' 2 _ rfl
          have f0 := XX.out.free 0
          have f1 := XX.out.free 1
          have f2 := XX.out.free 2
          have XY := HX.out.2.kept q'
          have y0 := XY.cell' 0 _ rfl
          have y1 := XY.cell' 1 _ rfl
          have y2 := XY.cell' 2 _ rfl
          clear XY
          go_wp2
          exact FIN.out _ _ i 1 hbd.out (Qw.trans QA.out q') XX.out rfl rfl rfl
      · obtain rfl : i = bs.length := by omega
        have hb : ¬ (bs.length : Int) < (bs.length : Int) := by omega
        have hval : ∀ b ∈ bs, Sy.vldb b = true := fun b hb => by
          obtain ⟨j, hj, rfl⟩ := List.mem_iff_getElem.1 hb
          exact HV.out j hj hj
        have HVA := Lib.hid hval
        have CC := Lib.hid (cq_blocks bs (by omega) (fun b hb => (Lb.vld_all (hval b hb)).1) a cap S wr (HK.out.kept (Qw.trans QA.out HQ.out)))
        clear HV hval
        go_wp2_with (go_at_call 42; with_reducible refine CC.out.mono ?_)
        rintro e w2 ⟨ba, bc, rfl, kb, q2⟩
        have Q2 := Lib.hid (Qw.trans HQ.out q2)
        have KB := Lib.hid (kb.go (w' := w2) (T := fun b => w.heap.size + 2 ≤ b ∧ b < w2.heap.size) fun b hb hl => ⟨rfl, by have := QA.out.size; have := HQ.out.size; omega, hl⟩)
        clear kb q2 CC HQ
        obtain ⟨w3, hw3⟩ : ∃ w3, w3 = (w2.alloc (.cells #[.int .i64 0, .int .i64 0, .int .i64 0] 76)).alloc (.cells #[.slice ba bs.length bc, .slice (some ⟨w2.heap.size, 0, none⟩) 1 1, .slice none 0 0] 41) := ⟨_, rfl⟩
        have s2 : w1.heap.size ≤ w2.heap.size := Q2.out.size
        have sa : ∀ o : Obj, (w2.alloc o).heap.size = w2.heap.size + 1 := fun o => by simp
        have s3 : w2.heap.size ≤ w3.heap.size := by rw [hw3, World.size_alloc, sa]; omega
        have M0 : Hid (Ms w3 w2.heap.size (.slice ba bs.length bc) [] ⟨0, 0, 0⟩ [] [] (.slice none 0 0) w3) := Lib.hid (by
          refine ⟨⟨.slice (some ⟨w2.heap.size, 0, none⟩) 1 1, .slice none 0 0, fun b => if b = w2.heap.size then 1 else 0, ?_, ?_, OwnG.nil .., OwnG.nil .., if_neg (by omega), fun g hg => ?_, fun g hg => (by cases hg), fun g hg => (by cases hg)⟩, Below.refl _ _, s3⟩
          · have := Bx.new (w2.alloc (.cells #[.int .i64 0, .int .i64 0, .int .i64 0] 76)) #[.slice ba bs.length bc, .slice (some ⟨w2.heap.size, 0, none⟩) 1 1, .slice none 0 0] 41
            rw [sa] at this
            rw [hw3]; exact this
          · rw [hw3]
            exact OwnG.one (x := [.int .i64 0, .int .i64 0, .int .i64 0]) ((Bx.new w2 _ _).alloc _) (Nat.le_refl _)
          · have e : w2.heap.size = g := by simpa [Value.ownBlock] using hg
            exact if_pos e.symm)
        have q3 : Qw w2 w3 := by rw [hw3]; exact Qw.al (Qw.al (Qw.refl _) _) _
        have Q3 := Lib.hid (Qw.trans Q2.out q3)
        replace KB := Lib.hid (KB.out.kept q3)
        have C0 : w.heap.size + 2 ≤ w2.heap.size := by omega
        clear q3 Q2
        go_wp2
        try rw [← hw3]
        clear hw3
        have NONE := Lib.hid (fun wx (b : Below w2.heap.size w3 wx) => And.intro (below_bx (HX.out.1.kept Q3.out) b (by omega)) (below_bx (HX.out.2.kept Q3.out) b (by omega)))
        have QW := Lib.hid (fun wx (b : Below w2.heap.size w3 wx) => below_qw (Qw.trans QA.out Q3.out) b (by omega))
        have KBW := Lib.hid (fun wx (b : Below w2.heap.size w3 wx) => KB.out.go (w' := wx) (T := fun b => w.heap.size + 2 ≤ b ∧ b < w2.heap.size) fun k hk _ => ⟨b.block k hk.2, hk⟩)
        clear Q3 HX KB
        generalize w2.heap.size = C at *
        go_loopw [9] (fun iv wr => ∃ i : Nat, i ≤ bs.length ∧ iv = .int .i64 (i : Int) ∧ Hid (Ms w3 C (.slice ba bs.length bc) [] ⟨0, 0, 0⟩ (List.replicate i (-1)) [] (.slice none 0 0) wr)) (fun iv _ => bs.length - (intOf iv).toNat)
        case atStart => exact ⟨0, by omega, rfl, M0⟩
        case round =>
          clear M0
          obtain ⟨i, hi, rfl, M⟩ := hrel
          have h63 : (i : Int) ≤ 9223372036854775806 := by omega
          by_cases hlt : i < bs.length
          · have hi2 : (i : Int) < (bs.length : Int) := by omega
            obtain ⟨⟨pv, mv, col, hs⟩, hB, hCw⟩ := M.out
            have r2 := hs.X.cell' 2 mv rfl
            have g2 := hs.X.free 2
            have hRl := hs.ltR
            have hCr : C ≤ wr.heap.size := Nat.le_trans hCw hB.size
            have q1 : Qw wr (wr.alloc (.cells #[.int .i64 (-1)] 3)) := Qw.al (Qw.refl wr) _
            have H1 := hs.kept q1
            have B1 : Bx (wr.alloc (.cells #[.int .i64 (-1)] 3)) wr.heap.size (icell (-1)).toArray 3 := Bx.new wr _ _
            obtain ⟨mv', w4, hr, ho, hg, hn⟩ := g_append (ty := 23) 3 23 1 8 _ _ wr.heap.size info_int Tryd.underlying23 rfl (by decide) (by decide) B1 rfl (by intro u hu; simp [icell] at hu; rcases hu with rfl; rfl) H1.M (by rw [List.length_map, List.length_replicate]; omega) (le_al C wr _ hCr)
            have H2 := H1.newM (mt' := List.replicate (i + 1) (-1)) (by rw [List.replicate_succ', List.map_append]; exact ho) hg hn
            have X2 := H1.px1 (by decide) H1.c2 hg
            have y1 := X2.cell' 2 mv rfl
            have y2 := X2.free 2
            have bel2 := Below.setCell (p := ⟨C + 1, 2, none⟩) (bel_own q1 hCr (fun g hg => (hs.M.lt hg).1) hg) (show C ≤ C + 1 by omega) mv'
            have MN : Hid (Ms w3 C (.slice ba bs.length bc) [] ⟨0, 0, 0⟩ (List.replicate (i + 1) (-1)) [] (.slice none 0 0) (w4.setCell ⟨C + 1, 2, none⟩ mv')) := Lib.hid ⟨⟨_, _, _, H2⟩, Below.trans hB bel2, hCw⟩
            obtain ⟨ma, mc, em, _⟩ := hs.M.form
            rw [List.length_map, List.length_replicate] at em
            subst em
            obtain ⟨ma', mc', em, _⟩ := ho.form
            simp only [List.length_append, List.length_map, List.length_replicate, List.length_cons, List.length_nil, Nat.zero_add] at em
            subst em
            have hr' := Lib.hid hr
            clear H1 B1 q1 H2 X2 bel2 hg hn ho hr hs hB M
            go_wp2_with (at_builtin; refine Lib.wpList_append_run _ rfl (.tmp 48) (.tmp 49) 23 23 rfl _ _ (by rfl) (by rfl) _ w4 hr'.out ?_)
            go_roundw
            case measure => simp [intOf]; omega
            case rel => exact ⟨i + 1, by omega, by go_num, MN⟩
          · obtain rfl : i = bs.length := by omega
            have hb : ¬ (bs.length : Int) < (bs.length : Int) := by omega
            have M1 : Hid (Ms w3 C (.slice ba bs.length bc) [] ⟨0, 0, 0⟩ (Lb.mtf bs.length Lb.st0) (Lb.opi Lb.st0) (.slice none 0 0) wr) := M
            clear M
            go_wp2
            generalize wr = w4 at *
            go_loopw [8, 10] (fun ov iv wr => ∃ (i : Nat) (s : Lb.St) (l : List Lb.Pg) (q : Lb.Pg), i ≤ bs.length ∧ iv = .int .i64 (i : Int) ∧ Hid (Lb.run (bs.take i) Lb.st0 = .ok s ∧ s.pg = l ++ [q] ∧ Lb.Lab bs s q) ∧ Hid (Ms w3 C (.slice ba bs.length bc) l q (Lb.mtf bs.length s) (Lb.opi s) ov wr)) (fun _ iv _ => bs.length - (intOf iv).toNat)
            case atStart => exact ⟨0, Lb.st0, [], ⟨0, 0, 0⟩, by omega, rfl, Lib.hid ⟨rfl, rfl, Lb.Lab.start bs⟩, M1⟩
            case round =>
              clear M1
              obtain ⟨i, s, l, q, hi, rfl, HR, M⟩ := hrel
              have h63 : (i : Int) ≤ 9223372036854775806 := by omega
              obtain ⟨lm, li, lo, lp⟩ := Lb.run_mate HR.out.1 hi
              by_cases hlt : i < bs.length
              · rcases HK.out.2.2 with h0 | ⟨b, off, f, rfl, hS, hc⟩
                · rw [h0] at hlt; simp at hlt
                have HCW : Hid (∀ wx, Qw w wx → ∀ j (hj : j < bs.length), wx.cell? ⟨b, off + j * 11 + 1, none⟩ = some (.int .i64 (Lb.lbL bs j)) ∧ wx.cell? ⟨b, off + j * 11 + 10, none⟩ = some (.int .i64 (Lb.nnL bs j))) := Lib.hid fun wx q j hj => by
                  obtain ⟨hb, _, hz⟩ := hc j hj
                  have c1 := hz 1 (.int .i64 (f j).b.label) rfl
                  have c2 := hz 10 (.int .i64 (f j).b.n) rfl
                  rw [hb] at c1 c2
                  rw [Lb.lbL_get hj, Lb.nnL_get hj]
                  exact ⟨(q.cell (p := ⟨b, off + j * 11 + 1, none⟩) (cell_lt c1)).trans c1, (q.cell (p := ⟨b, off + j * 11 + 10, none⟩) (cell_lt c2)).trans c2⟩
                obtain ⟨hb, _, hz⟩ := hc i hlt
                obtain ⟨d, hd⟩ : ∃ d, d = f i := ⟨_, rfl⟩
                rw [← hd] at hb hz
                have c0 := hz 0 (.int .i64 d.b.kind) rfl
                have bw := cell_lt c0
                have Q0 := QW.out _ M.out.B
                have zz : ∀ j u, (bicell d)[j]? = some u → wr.cell? ⟨b, off + i * 11 + j, none⟩ = some u := fun j u hj => (Q0.cell (p := ⟨b, off + i * 11 + j, none⟩) bw).trans (hz j u hj)
                have z0 : wr.cell? ⟨b, off + i * 11, none⟩ = some (.int .i64 d.b.kind) := zz 0 (.int .i64 d.b.kind) rfl
                have z1 := zz 1 (.int .i64 d.b.label) rfl
                have z2 := zz 2 (.bool d.b.skip) rfl
                have z3 := zz 3 (.slice d.wa d.b.words.length d.wc) rfl
                have z4 := zz 4 (.int .i64 d.b.left.op) rfl
                have z5 := zz 5 (.int .i64 d.b.left.n) rfl
                have z6 := zz 6 (.slice d.la d.b.left.ks.length d.lc) rfl
                have z7 := zz 7 (.int .i64 d.b.x.op) rfl
                have z8 := zz 8 (.int .i64 d.b.x.n) rfl
                have z9 := zz 9 (.slice d.xa d.b.x.ks.length d.xc) rfl
                have z10 := zz 10 (.int .i64 d.b.n) rfl
                have hi2 : (i : Int) < (bs.length : Int) := by omega
                have bl := cell_lt z0
                have hne : b ≠ wr.heap.size := by omega
                obtain ⟨_, l1', l2', n1', n2'⟩ := Lb.vld_all (b := d.b) (by rw [hb]; exact HVA.out _ (List.getElem_mem hlt))
                have HB := Lib.hid hb
                have RB : Hid (∀ j er, Lb.stepS d.b s = .bad j er → Lb.build bs = .bad j er) := Lib.hid fun j er hst => by
                  unfold Lb.build; rw [if_neg hbig, Lb.inv_none HVA.out, (Lb.run_take hlt HR.out.1).1 j er (by rw [← hb]; exact hst)]; rfl
                have hov : ∃ oa on oc, u8 = .slice oa on oc ∧ on = s.op.length := by
                  obtain ⟨⟨pv, mv, col, hs⟩, _⟩ := M.out
                  obtain ⟨pa, pc, ma, mc, oa, oc, _, _, e, _⟩ := hs.shapes
                  rw [Lb.opi_len] at e
                  exact ⟨oa, _, oc, e, rfl⟩
                obtain ⟨oa, on, oc, rfl, hon⟩ := hov
                have ON := Lib.hid hon
                have lon : on ≤ i := by omega
                clear hon
                have M2 := Lib.hid (M.out.box d)
                have hCr : C ≤ wr.heap.size := Nat.le_trans M.out.hC M.out.B.size
                have lpg : l.length + 1 ≤ i + 1 := by have := HR.out.2.1; rw [this] at lp; simpa using lp
                clear zz hz hc c0 hb hd Q0
                go_upto_if 64 with fail
                clear z0 z1 z2 z3 z4 z5 z6 z7 z8 z9 z10 M
                go_cut [] (fun wx => ∃ (s1 : Lb.St) (p1 : Lb.Pg) (l1 : List Lb.Pg) (f : Nat), Hid (Lb.pgS d.b s = .ok s1 ∧ s1.pg = l1 ++ [p1] ∧ Lb.Lab bs s1 p1 ∧ s1.i = i) ∧ l1.length ≤ i + 1 ∧ Hid (Mk w3 C (.slice ba bs.length bc) l1 { p1 with fin := f } (Lb.mtf bs.length s) (Lb.opi s) (.slice oa on oc) wr.heap.size d wx))
                case first =>
                  refine code_of (fun wx => Mk w3 C (.slice ba bs.length bc) l q (Lb.mtf bs.length s) (Lb.opi s) (.slice oa on oc) wr.heap.size d wx) M2.out ?_
                  clear M2
                  intro w5 h5
                  have H5 := Lib.hid h5
                  by_cases hk : d.b.kind = 6
                  · have hb6 : (d.b.kind == 6) = true := by simp [hk]
                    replace hk := Lib.hid hk
                    rcases Lb.op_cases s with ⟨t, r, hop⟩ | hop
                    · skip
                      have ep : Hid (Lb.build bs = .bad t.1 11) := Lib.hid (RB.out _ _ (Lb.stepS_pg (by unfold Lb.pgS; rw [if_pos hk.out, hop])))
                      obtain ⟨⟨pv, mv, col, hs, hcK⟩, hX, hBl, _⟩ := h5
                      have eo : Lb.opi s = (r.reverse.map (fun q => (q.1 : Int))) ++ [(t.1 : Int)] := by unfold Lb.opi; rw [hop]; simp
                      rw [eo] at hs
                      obtain ⟨g, cap2, e, k1, k2, gl, gR, gC, o0, _⟩ := hs.topO
                      obtain ⟨k, hk2⟩ : ∃ k, k = (r.reverse.map (fun q => ((q : Nat × Int).1 : Int))).length := ⟨_, rfl⟩
                      rw [← hk2] at e k1 o0
                      have e' : oa = some ⟨g, 0, none⟩ ∧ on = k + 1 ∧ oc = cap2 := by simpa using e
                      obtain ⟨rfl, rfl, rfl⟩ := e'
                      obtain ⟨E0, E1⟩ := NONE.out _ (hBl)
                      have x0 := E0.cell' 0 _ rfl
                      have x1 := E0.cell' 1 _ rfl
                      have x2 := E0.cell' 2 _ rfl
                      have f0 := E0.free 0
                      have f1 := E0.free 1
                      have f2 := E0.free 2
                      have y0 := E1.cell' 0 _ rfl
                      have y1 := E1.cell' 1 _ rfl
                      have y2 := E1.cell' 2 _ rfl
                      have E0H := Lib.hid E0
                      have EL := E0.lt
                      have EQ := Lib.hid (QW.out _ (hBl))
                      clear E0 E1
                      have ek : IntKind.i64.wrap (k : Int) = k := IntWalk.i64_in _ (by omega)
                      have e0 : 0 ≤ (k : Int) := by omega
                      have e1 : (k : Int) < (k : Int) + 1 := by omega
                      have e2 : (0 : Int) < (k : Int) + 1 := by omega
                      clear hs hX hBl e eo hop H5 hk2 HR
                      obtain ⟨S2, hS2⟩ : ∃ S2 : World → Prop, ∀ w', S2 w' ↔ (w'.cell? ⟨w.heap.size + 1, 0, none⟩ = some (.slice none 0 0) ∧ w'.cell? ⟨w.heap.size + 1, 1, none⟩ = some (.slice none 0 0) ∧ w'.cell? ⟨w.heap.size + 1, 2, none⟩ = some (.slice none 0 0) ∧ w'.cell? ⟨g, k, none⟩ = some (.int .i64 (t.1 : Int))) := ⟨_, fun _ => Iff.rfl⟩
                      have HS := Lib.hid hS2
                      have hSS : S2 (World.drew w5) := (hS2 _).2 ⟨y0, y1, y2, o0⟩
                      have hgR : g ≠ w.heap.size := by omega
                      have hNR : w.heap.size + 1 ≠ w.heap.size := by omega
                      clear hS2 y0 y1 y2 o0
                      go_wp2
                      refine wp_region_M S2 9 (by kernel_rfl) ?_
                      refine wpAnyM_take (i := 0) (v := ?_) rfl (by kernel_rfl) (fun _ _ _ h => h) (Or.inl ⟨by rfl, ?_⟩) hSS ?_
                      rotate_left 1
                      · intro wS hwS
                        obtain ⟨y0, y1, y2, o0⟩ := (HS.out wS).1 hwS; go_simp
                        try with_reducible rfl
                      simp only [List.getElem_toArray, List.getElem_cons_succ, List.getElem_cons_zero, Act.put, List.setIfInBounds_toArray, List.set_cons_zero, List.set_cons_succ]
                      refine wpAnyM_take (i := 1) (v := ?_) rfl (by kernel_rfl) (fun _ _ _ h => h) (Or.inl ⟨by rfl, ?_⟩) hSS ?_
                      rotate_left 1
                      · intro wS hwS
                        go_simp
                        try with_reducible rfl
                      simp only [List.getElem_toArray, List.getElem_cons_succ, List.getElem_cons_zero, Act.put, List.setIfInBounds_toArray, List.set_cons_zero, List.set_cons_succ]
                      refine wpAnyM_take (i := 2) (v := ?_) rfl (by kernel_rfl) (fun _ _ _ h => h) (Or.inl ⟨by rfl, ?_⟩) hSS ?_
                      rotate_left 1
                      · intro wS hwS
                        go_simp
                        try with_reducible rfl
                      simp only [List.getElem_toArray, List.getElem_cons_succ, List.getElem_cons_zero, Act.put, List.setIfInBounds_toArray, List.set_cons_zero, List.set_cons_succ]
                      refine wpAnyM_take (i := 3) (v := ?_) rfl (by kernel_rfl) (fun _ _ _ h => h) (Or.inl ⟨by rfl, ?_⟩) hSS ?_
                      rotate_left 1
                      · intro wS hwS
                        go_simp
                        try with_reducible rfl
                      simp only [List.getElem_toArray, List.getElem_cons_succ, List.getElem_cons_zero, Act.put, List.setIfInBounds_toArray, List.set_cons_zero, List.set_cons_succ]
                      refine wpAnyM_take (i := 4) (v := ?_) rfl (by kernel_rfl) (fun _ _ _ h => h) (Or.inl ⟨by rfl, ?_⟩) hSS ?_
                      rotate_left 1
                      · intro wS hwS
                        go_simp
                        try with_reducible rfl
                      simp only [List.getElem_toArray, List.getElem_cons_succ, List.getElem_cons_zero, Act.put, List.setIfInBounds_toArray, List.set_cons_zero, List.set_cons_succ]
                      refine wpAnyM_take (i := 5) (v := ?_) rfl (by kernel_rfl) (fun _ _ _ h => h) (Or.inl ⟨by rfl, ?_⟩) hSS ?_
                      rotate_left 1
                      · intro wS hwS
                        go_simp
                        try with_reducible rfl
                      simp only [List.getElem_toArray, List.getElem_cons_succ, List.getElem_cons_zero, Act.put, List.setIfInBounds_toArray, List.set_cons_zero, List.set_cons_succ]
                      refine wpAnyM_take (i := 6) (v := ?_) rfl (by kernel_rfl) (fun _ _ _ h => h) (Or.inl ⟨by rfl, ?_⟩) hSS ?_
                      rotate_left 1
                      · intro wS hwS
                        obtain ⟨y0, y1, y2, o0⟩ := (HS.out wS).1 hwS; go_simp
                        try with_reducible rfl
                      simp only [List.getElem_toArray, List.getElem_cons_succ, List.getElem_cons_zero, Act.put, List.setIfInBounds_toArray, List.set_cons_zero, List.set_cons_succ]
                      have ks : ∀ b o, b ≠ w.heap.size → ((((World.drew w5).setCell ⟨w.heap.size, 0, none⟩ (.slice none 0 0)).setCell ⟨w.heap.size, 1, none⟩ (.slice none 0 0)).setCell ⟨w.heap.size, 2, none⟩ (.slice none 0 0)).cell? ⟨b, o, none⟩ = (World.drew w5).cell? ⟨b, o, none⟩ := fun b o hb => World.cell?_of_block (w := World.drew w5) ((Below.heap_setCell _ _ _ b hb).trans ((Below.heap_setCell _ _ _ b hb).trans (Below.heap_setCell _ _ _ b hb)))
                      have hS3 : S2 ((((World.drew w5).setCell ⟨w.heap.size, 0, none⟩ (.slice none 0 0)).setCell ⟨w.heap.size, 1, none⟩ (.slice none 0 0)).setCell ⟨w.heap.size, 2, none⟩ (.slice none 0 0)) := by
                        obtain ⟨y0, y1, y2, o0⟩ := (HS.out _).1 hSS
                        exact (HS.out _).2 ⟨(ks _ _ hNR).trans y0, (ks _ _ hNR).trans y1, (ks _ _ hNR).trans y2, (ks _ _ hgR).trans o0⟩
                      refine wpAnyM_one (i := 7) rfl (by kernel_rfl) rfl (fun K hK => ?_)
                      go_simp
                      refine hK _ ((((World.drew w5).setCell ⟨w.heap.size, 0, none⟩ (.slice none 0 0)).setCell ⟨w.heap.size, 1, none⟩ (.slice none 0 0)).setCell ⟨w.heap.size, 2, none⟩ (.slice none 0 0)) (fun _ => hS3) ?_
                      clear hK K hSS ks
                      refine wpAnyM_one (i := 8) rfl (by kernel_rfl) rfl (fun K hK => ?_)
                      go_simp
                      refine hK _ _ (fun _ => hS3) ?_
                      clear hK K
                      refine wpAnyM_one (i := 9) rfl (by kernel_rfl) rfl (fun K hK => ?_)
                      go_simp
                      refine hK _ _ (fun h => absurd h (by decide)) ?_
                      clear hK K
                      refine wpAnyM_done (by kernel_rfl) ?_ _
                      clear hS3 x0 x1 x2 f0 f1 f2
                      go_wp2
                      exact FIN.out (World.drew w5) _ t.1 11 ep.out (Qw.dr EQ.out) E0H.out rfl rfl rfl
                    · skip
                      obtain ⟨⟨pv, mv, col, hs, hcK⟩, hX, hBl, hCw⟩ := h5
                      obtain ⟨pa, pc, ma, mc, oa2, oc2, e1, e2, _, b1, b2, _, a1, a2, _⟩ := hs.shapes
                      have lmt : (Lb.mtf bs.length s).length = bs.length := Lb.mtf_len (by omega)
                      have e00 : ¬ 0 < on := by rw [ON.out, hop]; simp
                      have e01 : ¬ (0 : Int) < (on : Int) := by omega
                      have epg : l ++ [q] = s.pg := HR.out.2.1.symm
                      have LX : LibX w5 (fun b => w.heap.size + 2 ≤ b ∧ b < C) C ba bc pa pc ma mc bs { s with mate := Lb.mtf bs.length s } := by
                        refine ⟨KBW.out _ hBl, ?_, ?_⟩
                        · show OwnG C w5 76 3 (.slice pa s.pg.length pc) (s.pg.map pcell)
                          rw [← epg, ← e1]; exact hs.G
                        · show OwnG C w5 3 1 (.slice ma (Lb.mtf bs.length s).length mc) _
                          rw [← e2]; exact hs.M
                      have CF := rf_find LX (by show s.pg.length ≤ 5000; rw [← epg]; simp; omega) d.b.n
                      have eF : (s.pg.length : Int) = (l.length : Int) + 1 := by rw [← epg]; simp
                      have eM : ((Lb.mtf bs.length s).length : Int) = bs.length := by rw [lmt]
                      change Calls Tryd.prog 21 #[.agg #[.slice ba bs.length bc, .slice pa s.pg.length pc, .slice ma (Lb.mtf bs.length s).length mc], .int .i64 d.b.n] w5 (fun e w' => e = .returned (fdV (Lb.fnd s.pg d.b.n 0)) ∧ Qw w5 w') at CF
                      rw [lmt, show s.pg.length = l.length + 1 by rw [← epg]; simp] at CF
                      rw [show (l ++ [q]).length = l.length + 1 by simp] at e1 a1
                      rw [lmt] at e2 a2
                      subst e1 e2
                      have r0 := hs.X.cell' 0 (.slice ba bs.length bc) rfl
                      have r1 := hs.X.cell' 1 (.slice pa (l.length + 1) pc) rfl
                      have r2 := hs.X.cell' 2 (.slice ma bs.length mc) rfl
                      have hRl := hs.ltR
                      have kN := hX.cell' 10 (.int .i64 d.b.n) rfl
                      clear eF eM
                      cases hd : s.pg.any (fun p => p.num == d.b.n) with
                      | true =>
                        have ep : Hid (Lb.build bs = .bad i 7) := Lib.hid (RB.out _ _ (Lb.stepS_pg (by unfold Lb.pgS; rw [if_pos hk.out, hop]; simp only; rw [if_pos hd, li])))
                        obtain ⟨kf, hkf⟩ := Lb.fnd_yes _ _ 0 hd
                        rw [hkf] at CF
                        have CF' : Calls Tryd.prog 21 #[.agg #[.slice ba bs.length bc, .slice pa (l.length + 1 : Nat) pc, .slice ma bs.length mc], .int .i64 d.b.n] w5 (fun e w' => e = .returned (.tuple #[.int .i64 (kf : Nat), .bool true]) ∧ Qw w5 w') := CF
                        have CFH := Lib.hid CF'
                        clear CF CF' hkf LX hd epg hop
                        go_upto_region 23 with (go_at_call 21; ((with_reducible refine CFH.out.mono ?_); rintro e w6 ⟨rfl, q6⟩))
                        obtain ⟨E0, E1⟩ := NONE.out _ (Below.trans hBl (Below.mono q6 (Nat.le_trans (by omega) hBl.size)))
                        have x0 := E0.cell' 0 _ rfl
                        have x1 := E0.cell' 1 _ rfl
                        have x2 := E0.cell' 2 _ rfl
                        have f0 := E0.free 0
                        have f1 := E0.free 1
                        have f2 := E0.free 2
                        have y0 := E1.cell' 0 _ rfl
                        have y1 := E1.cell' 1 _ rfl
                        have y2 := E1.cell' 2 _ rfl
                        have E0H := Lib.hid E0
                        have EL := E0.lt
                        have EQ := Lib.hid (QW.out _ (Below.trans hBl (Below.mono q6 (Nat.le_trans (by omega) hBl.size))))
                        clear E0 E1
                        go_wp2
                        exact FIN.out _ _ i 7 ep.out EQ.out E0H.out rfl rfl rfl
                      | false =>
                        have ep : Lb.pgS d.b s = .ok { s with pg := s.pg ++ [⟨d.b.n, i, i⟩], lab := [] } := by unfold Lb.pgS; rw [if_pos hk.out, hop]; simp only; rw [if_neg (by rw [hd]; decide), li]
                        have EP : Hid (Lb.pgS d.b s = .ok { s with pg := s.pg ++ [⟨d.b.n, i, i⟩], lab := [] } ∧ s.pg ++ [⟨d.b.n, i, i⟩] = (l ++ [q]) ++ [⟨d.b.n, i, i⟩] ∧ Lb.Lab bs { s with pg := s.pg ++ [⟨d.b.n, i, i⟩], lab := [] } ⟨d.b.n, i, i⟩ ∧ s.i = i) := Lib.hid ⟨ep, by rw [epg], by
                          rcases HR.out.2.2.pgs ep with ⟨h, _⟩ | ⟨_, _, L⟩
                          · exact absurd hk.out h
                          · rw [show (⟨d.b.n, s.i, s.i⟩ : Lb.Pg) = ⟨d.b.n, i, i⟩ by rw [li]] at L; exact L, li⟩
                        rw [Lb.fnd_no _ _ 0 hd] at CF
                        have CF' : Calls Tryd.prog 21 #[.agg #[.slice ba bs.length bc, .slice pa (l.length + 1 : Nat) pc, .slice ma bs.length mc], .int .i64 d.b.n] w5 (fun e w' => e = .returned (.tuple #[.int .i64 ((0 : Nat) : Int), .bool false]) ∧ Qw w5 w') := CF
                        have CFH := Lib.hid CF'
                        clear CF CF' LX hd epg hop ep
                        go_upto_region 23 with (go_at_call 21; ((with_reducible refine CFH.out.mono ?_); rintro e w6 ⟨rfl, q6⟩))
                        have hs6 := hs.kept q6
                        have X6 := hX.kept q6
                        have hC6 : C ≤ w6.heap.size := by have := q6.size; omega
                        have B6 : Below C w3 w6 := Below.trans hBl (Below.mono q6 (by omega))
                        have r1' := hs6.X.cell' 1 (.slice pa (l.length + 1) pc) rfl
                        have kN' := X6.cell' 10 (.int .i64 d.b.n) rfl
                        have hR6 := hs6.ltR
                        have hK6 := X6.lt
                        have q7 : Qw w6 (w6.alloc (.cells #[.int .i64 d.b.n, .int .i64 i, .int .i64 0] 76)) := Qw.al (Qw.refl w6) _
                        have H1 := hs6.kept q7
                        have B1 : Bx (w6.alloc (.cells #[.int .i64 d.b.n, .int .i64 i, .int .i64 0] 76)) w6.heap.size (pcell ⟨d.b.n, i, 0⟩).toArray 76 := Bx.new w6 _ _
                        obtain ⟨pv', w7, hr, ho, hg, hn⟩ := g_append (ty := 39) 76 39 3 24 _ _ w6.heap.size info_prog Tryd.underlying39 rfl (by decide) (by decide) B1 rfl (by intro u hu; simp [pcell] at hu; rcases hu with rfl | rfl | rfl <;> rfl) H1.G (by rw [List.length_map]; simp; omega) (le_al C w6 _ hC6)
                        have H2 := H1.newG (pg' := (l ++ [q]) ++ [⟨d.b.n, i, 0⟩]) (by rw [List.map_append]; exact ho) hg hn
                        have F2 := (Fc.of (col := col) q7).trans (Fc.grown H1.c0 (by decide) H1.c1 hg 1 pv')
                        have BXX := F2.bx X6 hcK
                        have X2 := H1.px1 (by decide) H1.c1 hg
                        have y1 := X2.cell' 1 (.slice pa (l.length + 1) pc) rfl
                        have y2 := X2.free 1
                        have bel2 := Below.setCell (p := ⟨C + 1, 1, none⟩) (bel_own q7 hC6 (fun g hg => (hs6.G.lt hg).1) hg) (show C ≤ C + 1 by omega) pv'
                        have MN : Hid (Mk w3 C (.slice ba bs.length bc) (l ++ [q]) ⟨d.b.n, i, 0⟩ (Lb.mtf bs.length s) (Lb.opi s) _ wr.heap.size d (w7.setCell ⟨C + 1, 1, none⟩ pv')) := Lib.hid ⟨⟨_, _, _, H2, BXX.2⟩, BXX.1, Below.trans B6 bel2, hCw⟩
                        obtain ⟨pa', pc', em, _⟩ := ho.form
                        simp only [List.length_append, List.length_map, List.length_cons, List.length_nil, Nat.zero_add] at em
                        subst em
                        have hr' := Lib.hid hr
                        clear r0 r1 r2 kN H1 H2 B1 q7 F2 BXX X2 bel2 hg hn ho hr hs6 X6 B6 hs hX hBl q6
                        go_wp2_with (at_builtin; refine Lib.wpList_append_run _ rfl (.tmp 86) (.tmp 91) 39 39 rfl _ _ (by rfl) (by rfl) _ w7 hr'.out ?_)
                        go_meet
                        exact ⟨{ s with pg := s.pg ++ [⟨d.b.n, i, i⟩], lab := [] }, ⟨d.b.n, i, i⟩, l ++ [q], 0, Lib.hid EP.out, by simp; omega, MN⟩
                  · have hb6 : (d.b.kind == 6) = false := by simp [hk]
                    go_wp2
                    go_meet
                    exact ⟨s, q, l, q.fin, Lib.hid ⟨by unfold Lb.pgS; rw [if_neg hk], HR.out.2.1, HR.out.2.2, li⟩, by omega, H5⟩
                case rest =>
                  clear M2
                  obtain ⟨s1, p1, l1, fi, hp, hl1, M⟩ := hcut
                  generalize wr.heap.size = K at *
                  have kl := M.out.X.cell' 1 (.int .i64 d.b.label) rfl
                  have hl0 : ∃ pa pc, (∃ mv col, Sq C (C + 1) wc (l1 ++ [{ p1 with fin := fi }]) (Lb.mtf bs.length s) (Lb.opi s) (.slice ba bs.length bc) (.slice pa (l1.length + 1) pc) mv (.slice oa on oc) col ∧ 5 < col K) ∧ l1.length + 1 ≤ pc ∧ pc ≤ 9223372036854775807 := by
                    obtain ⟨⟨pv, mv, col, hs, hcK⟩, hX, hBl, hCw⟩ := M.out
                    obtain ⟨pa, pc, _, _, _, _, e1, _, _, b1, _, _, a1, _, _⟩ := hs.shapes
                    simp only [List.length_append, List.length_cons, List.length_nil, Nat.zero_add] at e1 a1
                    subst e1
                    exact ⟨pa, pc, ⟨mv, col, hs, hcK⟩, a1, b1⟩
                  obtain ⟨pa, pc, ⟨mv, col, hs, hcK⟩, a1, b1⟩ := hl0
                  obtain ⟨g, hga, gC, gl⟩ : ∃ g, pa = some ⟨g, 0, none⟩ ∧ C ≤ g ∧ g < wc.heap.size := by
                    obtain ⟨a, c, e, _, _, h3⟩ := hs.G.form
                    obtain ⟨g, rfl, h4, h5⟩ := h3 (by simp)
                    exact ⟨g, by simpa using (by simpa using e : _ ∧ _).1, h4, h5⟩
                  subst hga
                  have r1 := hs.X.cell' 1 (.slice (some ⟨g, 0, none⟩) (l1.length + 1) pc) rfl
                  have p1c := hs.G.at (g := g) rfl (i := l1.length) (by simp) (j := 1) (u := .int .i64 (p1.first : Nat)) (by simp [pcell])
                  have ek : IntKind.i64.wrap (l1.length : Int) = l1.length := IntWalk.i64_in _ (by omega)
                  have e0 : 0 ≤ (l1.length : Int) := by omega
                  have e1 : (l1.length : Int) < (l1.length : Int) + 1 := by omega
                  have hRl := hs.ltR
                  have hKl := M.out.X.lt
                  have HSQ := Lib.hid (And.intro hs hcK)
                  have hfi : p1.first ≤ i := by have := hp.out.2.2.1.le; rw [hp.out.2.2.2] at this; exact this
                  clear hs hcK
                  obtain ⟨k1, hk1⟩ : ∃ k1, k1 = l1.length := ⟨_, rfl⟩
                  have HK1 := Lib.hid hk1
                  rw [← hk1] at r1 p1c ek e0 e1 a1
                  clear hk1
                  go_upto_if 100 with fail
                  go_cut [] (fun wx => ∃ (s2 : Lb.St), Hid (Lb.labS d.b s1 = .ok s2) ∧ Hid (Mk w3 C (.slice ba bs.length bc) l1 { p1 with fin := fi } (Lb.mtf bs.length s) (Lb.opi s) (.slice oa on oc) K d wx))
                  case first =>
                    clear HSQ
                    by_cases hl : d.b.label = 0
                    · have hb0 : ¬ (0 : Int) < d.b.label := by omega
                      have e : Hid (Lb.labS d.b s1 = .ok s1) := Lib.hid (by unfold Lb.labS; rw [if_neg hb0])
                      clear hl
                      go_wp2
                      go_meet
                      exact ⟨s1, e, M⟩
                    · have hb0 : (0 : Int) < d.b.label := by omega
                      have HL : Hid (s1.lab.contains d.b.label = true ↔ ∃ k, p1.first ≤ k ∧ k < i ∧ Lb.lbL bs k = d.b.label) := Lib.hid (by have := hp.out.2.2.1.lab d.b.label hb0; rw [hp.out.2.2.2] at this; exact this)
                      clear hl kl
                      go_wp2
                      clear r1 p1c ek e0 e1
                      rename World => wq
                      go_loopw [15] (fun kv wx => ∃ k : Nat, p1.first ≤ k ∧ k ≤ i ∧ kv = .int .i64 (k : Int) ∧ Hid (∀ j, p1.first ≤ j → j < k → Lb.lbL bs j ≠ d.b.label) ∧ Hid (Mk w3 C (.slice ba bs.length bc) l1 { p1 with fin := fi } (Lb.mtf bs.length s) (Lb.opi s) (.slice oa on oc) K d wx)) (fun kv _ => i - (intOf kv).toNat)
                      case atStart => exact ⟨p1.first, Nat.le_refl _, hfi, rfl, Lib.hid (by intro j h1 h2; omega), M⟩
                      case round =>
                        clear M
                        obtain ⟨k, hk1, hk2, rfl, HN, M⟩ := hrel
                        have k63 : (k : Int) ≤ 9223372036854775806 := by omega
                        by_cases hki : k < i
                        · have hki2 : (k : Int) < (i : Int) := by omega
                          have hkn : (k : Int) < (bs.length : Int) := by omega
                          have kl := M.out.X.cell' 1 (.int .i64 d.b.label) rfl
                          have bc1 := (HCW.out _ (QW.out _ M.out.B) k (by omega)).1
                          have hKl := M.out.X.lt
                          have bl2 := cell_lt bc1
                          by_cases e : Lb.lbL bs k = d.b.label
                          · have ep : Hid (Lb.build bs = .bad i 7) := Lib.hid (RB.out _ _ (Lb.stepS_lab hp.out.1 (by unfold Lb.labS; rw [if_pos hb0, if_pos (HL.out.2 ⟨k, hk1, hki, e⟩), hp.out.2.2.2])))
                            rw [e] at bc1
                            obtain ⟨E0, E1⟩ := NONE.out _ (M.out.B)
                            have x0 := E0.cell' 0 _ rfl
                            have x1 := E0.cell' 1 _ rfl
                            have x2 := E0.cell' 2 _ rfl
                            have f0 := E0.free 0
                            have f1 := E0.free 1
                            have f2 := E0.free 2
                            have y0 := E1.cell' 0 _ rfl
                            have y1 := E1.cell' 1 _ rfl
                            have y2 := E1.cell' 2 _ rfl
                            have E0H := Lib.hid E0
                            have EL := E0.lt
                            have EQ := Lib.hid (QW.out _ (M.out.B))
                            clear E0 E1
                            clear e HN HL
                            go_wp2
                            go_quiet (fail)
                            go_wp2
                            exact FIN.out _ _ i 7 ep.out (Qw.dn EQ.out _) E0H.out rfl rfl rfl
                          · have HN' : Hid (∀ j, p1.first ≤ j → j < k + 1 → Lb.lbL bs j ≠ d.b.label) := Lib.hid fun j h1 h2 => by
                              by_cases ej : j = k
                              · rw [ej]; exact e
                              · exact HN.out j h1 (by omega)
                            have eb : (Lb.lbL bs k == d.b.label) = false := beq_eq_false_iff_ne.2 e
                            generalize Lb.lbL bs k = lk at bc1 eb
                            clear e HN HL
                            go_wp2
                            go_quiet (fail)
                            go_wp2
                            go_roundw
                            case measure => simp [intOf]; omega
                            case rel => exact ⟨k + 1, by omega, by omega, by go_num, HN', Lib.hid (M.out.kept (Qw.dn (Qw.refl _) _))⟩
                        · obtain rfl : k = i := by omega
                          have hbk : ¬ (k : Int) < (k : Int) := by omega
                          have e : Hid (Lb.labS d.b s1 = .ok { s1 with lab := d.b.label :: s1.lab }) := Lib.hid (by
                            unfold Lb.labS
                            rw [if_pos hb0, if_neg]
                            intro hc
                            obtain ⟨j, h1, h2, h3⟩ := HL.out.1 hc
                            exact HN.out j h1 h2 h3)
                          clear HN HL
                          go_wp2
                          go_meet
                          exact ⟨_, e, M⟩
                  case rest =>
                    clear M kl
                    obtain ⟨s2, hl2, M⟩ := hcut
                    have hl0 : ∃ pa pc, (∃ mv col, Sq C (C + 1) wc (l1 ++ [{ p1 with fin := fi }]) (Lb.mtf bs.length s) (Lb.opi s) (.slice ba bs.length bc) (.slice pa (k1 + 1) pc) mv (.slice oa on oc) col ∧ 5 < col K) ∧ k1 + 1 ≤ pc ∧ pc ≤ 9223372036854775807 := by
                      obtain ⟨⟨pv, mv, col, hs, hcK⟩, hX, hBl, hCw⟩ := M.out
                      obtain ⟨pa, pc, _, _, _, _, e1, _, _, b1, _, _, a1, _, _⟩ := hs.shapes
                      simp only [List.length_append, List.length_cons, List.length_nil, Nat.zero_add] at e1 a1
                      rw [← HK1.out] at e1 a1
                      subst e1
                      exact ⟨pa, pc, ⟨mv, col, hs, hcK⟩, a1, b1⟩
                    obtain ⟨pa, pc, ⟨mv, col, hs, hcK⟩, a1, b1⟩ := hl0
                    obtain ⟨g, hga, gC, gl⟩ : ∃ g, pa = some ⟨g, 0, none⟩ ∧ C ≤ g ∧ g < wc.heap.size := by
                      obtain ⟨a, c, e, _, _, h3⟩ := hs.G.form
                      obtain ⟨g, rfl, h4, h5⟩ := h3 (by simp)
                      exact ⟨g, by simpa using (by simpa using e : _ ∧ _).1, h4, h5⟩
                    subst hga
                    have r1 := hs.X.cell' 1 (.slice (some ⟨g, 0, none⟩) (k1 + 1) pc) rfl
                    have hf := hs.setF (g := g) rfl (i + 1)
                    have p2c := hs.G.at (g := g) rfl (i := l1.length) (by simp) (j := 2) (u := .int .i64 (fi : Nat)) (by simp [pcell])
                    have p2f := hs.G.free (g := g) rfl (l1.length * 3 + 2)
                    have BXX := (Fc.own (w := wc) hs.c0 (by decide) (hs.c1 g rfl) (l1.length * 3 + 2) (.int .i64 ((i + 1 : Nat) : Int))).bx M.out.X hcK
                    have M3 : Hid (Mk w3 C (.slice ba bs.length bc) l1 { p1 with fin := i + 1 } (Lb.mtf bs.length s) (Lb.opi s) (.slice oa on oc) K d (wc.setCell ⟨g, l1.length * 3 + 2, none⟩ (.int .i64 ((i + 1 : Nat) : Int)))) := Lib.hid ⟨⟨_, _, _, hf, BXX.2⟩, BXX.1, Below.trans M.out.B (Below.setCell (p := ⟨g, l1.length * 3 + 2, none⟩) (Below.refl _ _) gC _), M.out.hC⟩
                    have ei : ((i + 1 : Nat) : Int) = (i : Int) + 1 := by omega
                    rw [ei, ← HK1.out] at M3
                    rw [← HK1.out] at p2c p2f
                    have kl := M.out.X.cell' 0 (.int .i64 d.b.kind) rfl
                    have hRl := hs.ltR
                    have hKl := M.out.X.lt
                    have hKg : K ≠ g := fun e => by have := hs.c1 g rfl; rw [e] at hcK; omega
                    have e0 : 0 ≤ (k1 : Int) := by omega
                    have e1 : (k1 : Int) < (k1 : Int) + 1 := by omega
                    clear hf BXX ei hs hcK M HSQ
                    go_upto_region 35 with fail
                    refine code_of (fun wx => Mk w3 C (.slice ba bs.length bc) l1 { p1 with fin := i + 1 } (Lb.mtf bs.length s) (Lb.opi s) (.slice oa on oc) K d wx) M3.out ?_
                    clear M3 r1 p2c p2f kl
                    intro w5 h5
                    have M5 := Lib.hid h5
                    obtain ⟨hi1, hi3⟩ : s2.i = i ∧ s2.op = s.op ∧ s2.mate = s.mate := by
                      obtain ⟨a1, a2, a3, a4, _⟩ := Lb.labS_keep hl2.out
                      obtain ⟨b1, b2⟩ := Lb.pgS_keep hp.out.1
                      exact ⟨a1.trans hp.out.2.2.2, a2.trans b2, a4.trans b1⟩
                    obtain ⟨hi4, hi5⟩ := hi3
                    have KEEP := Lib.hid (And.intro hi1 (And.intro hi4 hi5))
                    have STEP : Hid (∀ s', Lb.loopS d.b { s2 with pg := Lb.more s2.i s2.pg } = .ok s' → Lb.run (bs.take (i + 1)) Lb.st0 = .ok s' ∧ s'.pg = l1 ++ [{ p1 with fin := i + 1 }] ∧ Lb.Lab bs s' { p1 with fin := i + 1 }) := Lib.hid fun s' hs' => Lb.step_end hlt HR.out.1 hp.out.2.2.2 (by rw [← HB.out]; exact hp.out.1) hp.out.2.1 hp.out.2.2.1 (by rw [← HB.out]; exact hl2.out) (by rw [← HB.out]; exact l1') (by rw [← HB.out]; exact hs')
                    have SBAD : Hid (∀ j er, Lb.loopS d.b { s2 with pg := Lb.more s2.i s2.pg } = .bad j er → Lb.build bs = .bad j er) := Lib.hid fun j er hh => RB.out _ _ (by rw [Lb.stepS_of hp.out.1 hl2.out]; exact hh)
                    clear h5 hi1 hi4 hi5
                    by_cases h4 : d.b.kind = 4
                    · have hb4 : (d.b.kind == 4) = true := by simp [h4]
                      have H4 := Lib.hid h4
                      clear h4
                      go_wp2
                      rename World => wq
                      go_loopw [16] (fun kv wx => ∃ k : Nat, k ≤ on ∧ kv = .int .i64 (k : Int) ∧ Hid (∀ j (h : j < s.op.reverse.length), j < k → (s.op.reverse[j]).2 ≠ d.b.n) ∧ Hid (Mk w3 C (.slice ba bs.length bc) l1 { p1 with fin := i + 1 } (Lb.mtf bs.length s) (Lb.opi s) (.slice oa on oc) K d wx)) (fun kv _ => on - (intOf kv).toNat)
                      case atStart => exact ⟨0, by omega, rfl, Lib.hid (by intro j _ h; omega), M5⟩
                      case round =>
                        clear M5
                        obtain ⟨k, hk, rfl, HN, M5⟩ := hrel
                        have k63 : (k : Int) ≤ 9223372036854775806 := by omega
                        by_cases hko : k < on
                        · have hk' : k < s.op.length := by rw [← ON.out]; exact hko
                          have hkr : k < s.op.reverse.length := by simpa using hk'
                          obtain ⟨⟨pv, mv, col, hs, hcK⟩, hX, hBl, hCw⟩ := M5.out
                          obtain ⟨g, c, e, gl, c0⟩ := hs.opAt (k := k) (by rw [Lb.opi_len]; exact hk')
                          rw [Lb.opi_at hk'] at c0
                          have e' : oa = some ⟨g, 0, none⟩ := by simpa using (by simpa using e : _ ∧ _).1
                          subst e'
                          obtain ⟨o1, o2⟩ := Lb.op_at HR.out.1 s.op.reverse[k] (List.mem_reverse.1 (List.getElem_mem hkr))
                          have on1 : s.op.reverse[k].1 < bs.length := by omega
                          have bc1 := (HCW.out _ (QW.out _ hBl) _ on1).2
                          rw [o2] at bc1
                          have kn := hX.cell' 10 (.int .i64 d.b.n) rfl
                          have bl2 := cell_lt bc1
                          have on2 : ((s.op.reverse[k].1 : Nat) : Int) < (bs.length : Int) := by omega
                          have hko2 : (k : Int) < (on : Int) := by omega
                          by_cases ee : s.op.reverse[k].2 = d.b.n
                          · have ep : Hid (Lb.build bs = .bad i 11) := Lib.hid (SBAD.out _ _ (by
                              unfold Lb.loopS
                              rw [if_pos H4.out, if_pos]
                              · show Lb.Rs.bad s2.i 11 = _; rw [KEEP.out.1]
                              · show s2.op.any _ = true
                                rw [KEEP.out.2.1, List.any_eq_true]
                                exact ⟨_, List.mem_reverse.1 (List.getElem_mem hkr), by simpa using ee⟩))
                            rw [ee] at bc1
                            obtain ⟨E0, E1⟩ := NONE.out _ (hBl)
                            have x0 := E0.cell' 0 _ rfl
                            have x1 := E0.cell' 1 _ rfl
                            have x2 := E0.cell' 2 _ rfl
                            have f0 := E0.free 0
                            have f1 := E0.free 1
                            have f2 := E0.free 2
                            have y0 := E1.cell' 0 _ rfl
                            have y1 := E1.cell' 1 _ rfl
                            have y2 := E1.cell' 2 _ rfl
                            have E0H := Lib.hid E0
                            have EL := E0.lt
                            have EQ := Lib.hid (QW.out _ (hBl))
                            clear E0 E1
                            generalize s.op.reverse[k].1 = j1 at *
                            clear ee HN hs hX hBl e o1 o2 M5
                            go_wp2
                            go_quiet (fail)
                            go_wp2
                            exact FIN.out _ _ i 11 ep.out (Qw.dn EQ.out _) E0H.out rfl rfl rfl
                          · have HN' : Hid (∀ j (h : j < s.op.reverse.length), j < k + 1 → (s.op.reverse[j]).2 ≠ d.b.n) := Lib.hid fun j h1 h2 => by
                              by_cases ej : j = k
                              · subst ej; exact ee
                              · exact HN.out j h1 (by omega)
                            have eb : (s.op.reverse[k].2 == d.b.n) = false := beq_eq_false_iff_ne.2 ee
                            generalize s.op.reverse[k].2 = m1 at bc1 eb
                            clear o2 o1 ee
                            generalize s.op.reverse[k].1 = j1 at *
                            clear HN hs hX hBl e
                            go_wp2
                            go_quiet (fail)
                            go_wp2
                            go_roundw
                            case measure => simp [intOf]; omega
                            case rel => exact ⟨k + 1, by omega, by go_num, HN', Lib.hid (M5.out.kept (Qw.dn (Qw.refl _) _))⟩
                        · obtain rfl : k = on := by omega
                          have hbk : ¬ (k : Int) < (k : Int) := by omega
                          have e : Hid (Lb.loopS d.b { s2 with pg := Lb.more s2.i s2.pg } = .ok { s2 with pg := Lb.more s2.i s2.pg, i := s2.i + 1, op := (s2.i, d.b.n) :: s2.op, mate := s2.mate ++ [-1] }) := Lib.hid (by
                            unfold Lb.loopS
                            rw [if_pos H4.out, if_neg]
                            show ¬ s2.op.any _ = true
                            rw [KEEP.out.2.1, List.any_eq_true]
                            rintro ⟨t, ht, hn⟩
                            obtain ⟨j, hj, rfl⟩ := List.mem_iff_getElem.1 (List.mem_reverse.2 ht)
                            exact HN.out j hj (by have := ON.out; simp at hj; omega) (by simpa using hn))
                          have R1 := Lib.hid (STEP.out _ e.out)
                          obtain ⟨⟨pv, mv, col, hs, hcK⟩, hX, hBl, hCw⟩ := M5.out
                          have hCr : C ≤ wr.heap.size := Nat.le_trans hCw hBl.size
                          have q1 : Qw wr (wr.alloc (.cells #[.int .i64 i] 3)) := Qw.al (Qw.refl wr) _
                          have H1 := hs.kept q1
                          have B1 : Bx (wr.alloc (.cells #[.int .i64 i] 3)) wr.heap.size (icell i).toArray 3 := Bx.new wr _ _
                          obtain ⟨ov', w6, hr, ho, hg, hn⟩ := g_append (ty := 23) 3 23 1 8 _ _ wr.heap.size info_int Tryd.underlying23 rfl (by decide) (by decide) B1 rfl (by intro u hu; simp [icell] at hu; rcases hu with rfl; rfl) H1.O (by rw [List.length_map, Lb.opi_len]; omega) (le_al C wr _ hCr)
                          have H2 := H1.newO (op' := Lb.opi s ++ [(i : Int)]) (by rw [List.map_append]; exact ho) hg hn
                          have MN : Hid (Ms w3 C (.slice ba bs.length bc) l1 { p1 with fin := i + 1 } (Lb.mtf bs.length { s2 with pg := Lb.more s2.i s2.pg, i := s2.i + 1, op := (s2.i, d.b.n) :: s2.op, mate := s2.mate ++ [-1] }) (Lb.opi { s2 with pg := Lb.more s2.i s2.pg, i := s2.i + 1, op := (s2.i, d.b.n) :: s2.op, mate := s2.mate ++ [-1] }) ov' w6) := Lib.hid (by
                            rw [Lb.mtf_more (n := bs.length) (s := s) (s' := { s2 with pg := Lb.more s2.i s2.pg, i := s2.i + 1, op := (s2.i, d.b.n) :: s2.op, mate := s2.mate ++ [-1] }) (by omega) (by show s2.mate ++ [-1] = _; rw [KEEP.out.2.2]), Lb.opi_cons (s := s) (i := i) (n := d.b.n) (by show (s2.i, d.b.n) :: s2.op = _; rw [KEEP.out.1, KEEP.out.2.1])]
                            exact ⟨⟨_, _, _, H2⟩, Below.trans hBl (bel_own q1 hCr (fun g hg => (hs.O.lt hg).1) hg), hCw⟩)
                          obtain ⟨oa', oc', em, _⟩ := ho.form
                          simp only [List.length_append, List.length_map, Lb.opi_len, List.length_cons, List.length_nil, Nat.zero_add] at em
                          rw [← ON.out] at em
                          subst em
                          have hr' := Lib.hid hr
                          clear H1 B1 q1 H2 hg hn ho hr hs hX hBl M5 HN
                          go_wp2_with (at_builtin; refine Lib.wpList_append_run _ rfl (.tmp 152) (.tmp 154) 23 23 rfl _ _ (by rfl) (by rfl) _ w6 hr'.out ?_)
                          go_roundw
                          case measure => simp [intOf]; omega
                          case rel => exact ⟨i + 1, _, _, _, by omega, by go_num, R1, MN⟩
                    · have hb4 : (d.b.kind == 4) = false := by simp [h4]
                      by_cases h5 : d.b.kind = 5
                      · have hb5 : (d.b.kind == 5) = true := by simp [h5]
                        have H45 := Lib.hid (And.intro h4 h5)
                        clear h4 h5
                        rcases Lb.op_cases s with ⟨t, r, hop⟩ | hop
                        · obtain ⟨⟨pv, mv, col, hs, hcK⟩, hX, hBl, hCw⟩ := M5.out
                          have eo := Lb.opi_pop (s' := { s with op := r }) hop
                          rw [eo] at hs
                          obtain ⟨g, cap2, e, k1', k2', gl, gR, gC, o0, _⟩ := hs.topO
                          obtain ⟨k, hk2⟩ : ∃ k, k = (Lb.opi { s with op := r }).length := ⟨_, rfl⟩
                          rw [← hk2] at e k1' o0
                          have e' : oa = some ⟨g, 0, none⟩ ∧ on = k + 1 ∧ oc = cap2 := by simpa using e
                          obtain ⟨rfl, rfl, rfl⟩ := e'
                          obtain ⟨o1, o2⟩ := Lb.op_at HR.out.1 t (by rw [hop]; exact List.mem_cons_self ..)
                          have on1 : t.1 < bs.length := by omega
                          have bc1 := (HCW.out _ (QW.out _ hBl) _ on1).2
                          rw [o2] at bc1
                          have kn := hX.cell' 10 (.int .i64 d.b.n) rfl
                          have bl2 := cell_lt bc1
                          have on2 : ((t.1 : Nat) : Int) < (bs.length : Int) := by omega
                          have gz : ((k : Int) + 1 == 0) = false := beq_eq_false_iff_ne.2 (by omega)
                          have ek : IntKind.i64.wrap (k : Int) = k := IntWalk.i64_in _ (by omega)
                          have e0 : 0 ≤ (k : Int) := by omega
                          have e1 : (k : Int) < (k : Int) + 1 := by omega
                          have kg := hX.lt
                          have HK2 := Lib.hid hk2
                          clear hk2
                          by_cases ee : t.2 = d.b.n
                          · have eb : (d.b.n != d.b.n) = false := by simp
                            have es : Hid (Lb.loopS d.b { s2 with pg := Lb.more s2.i s2.pg } = .ok { s2 with pg := Lb.more s2.i s2.pg, i := s2.i + 1, op := r, mate := (s2.mate ++ [((t.1 : Nat) : Int)]).set t.1 (s2.i : Nat) }) := Lib.hid (by
                              unfold Lb.loopS
                              rw [if_neg H45.out.1, if_pos H45.out.2]
                              show (match s2.op with | [] => Lb.Rs.bad s2.i 11 | (j, n) :: r => _) = _
                              rw [KEEP.out.2.1, hop]
                              simp only
                              rw [if_pos ee])
                            have R1 := Lib.hid (STEP.out _ es.out)
                            have EOP : Hid (Lb.opi { s2 with pg := Lb.more s2.i s2.pg, i := s2.i + 1, op := r, mate := (s2.mate ++ [((t.1 : Nat) : Int)]).set t.1 (s2.i : Nat) } = Lb.opi { s with op := r }) := Lib.hid rfl
                            have EMT : Hid (Lb.mtf bs.length { s2 with pg := Lb.more s2.i s2.pg, i := s2.i + 1, op := r, mate := (s2.mate ++ [((t.1 : Nat) : Int)]).set t.1 (s2.i : Nat) } = ((Lb.mtf bs.length s).set t.1 (i : Int)).set i ((t.1 : Nat) : Int)) := Lib.hid (by
                              have := Lb.mtf_set (n := bs.length) (s := s) (s' := { s2 with pg := Lb.more s2.i s2.pg, i := s2.i + 1, op := r, mate := (s2.mate ++ [((t.1 : Nat) : Int)]).set t.1 (s2.i : Nat) }) (j := t.1) (by omega) (by omega) (i : Int) (by show (s2.mate ++ [((t.1 : Nat) : Int)]).set t.1 (s2.i : Nat) = _; rw [KEEP.out.2.2, KEEP.out.1])
                              rw [lm] at this; exact this)
                            have lmt : (Lb.mtf bs.length s).length = bs.length := Lb.mtf_len (by omega)
                            have lti : t.1 < i := by omega
                            have LMT := Lib.hid lmt
                            clear lmt
                            rw [ee] at bc1
                            have HS5 := Lib.hid (And.intro hs (And.intro hcK (And.intro hX (And.intro hBl o0))))
                            clear ee o1 o2 es hs hcK hX hBl M5 hop eo e SBAD STEP RB
                            go_wp2
                            go_quiet (fail)
                            go_upto_region 45 with fail
                            refine code_of (fun wx => Sq C (C + 1) wx (l1 ++ [{ p1 with fin := i + 1 }]) (Lb.mtf bs.length s) (Lb.opi { s with op := r } ++ [((t.1 : Nat) : Int)]) (.slice ba bs.length bc) pv mv (.slice (some ⟨g, 0, none⟩) (k + 1) oc) col ∧ 5 < col K ∧ Bx wx K (bicell d).toArray 37 ∧ Below C w3 wx ∧ wx.cell? ⟨g, k, none⟩ = some (.int .i64 ((t.1 : Nat) : Int))) ⟨HS5.out.1.kept (Qw.dn (Qw.refl _) _), HS5.out.2.1, HS5.out.2.2.1.kept (Qw.dn (Qw.refl _) _), Below.trans HS5.out.2.2.2.1 (Below.mono (Qw.dn (Qw.refl _) _) (by omega)), HS5.out.2.2.2.2⟩ ?_
                            clear HS5 bc1 kn o0
                            rintro w6 ⟨hs, hcK, hX, hBl, o0⟩
                            have lmt := LMT.out
                            obtain ⟨ma, mc, em, b2, a2⟩ : ∃ ma mc, mv = .slice ma bs.length mc ∧ mc ≤ 9223372036854775807 ∧ bs.length ≤ mc := by
                              obtain ⟨_, _, ma, mc, _, _, _, em, _, _, b2, _, _, a2, _⟩ := hs.shapes
                              rw [lmt] at em a2
                              exact ⟨ma, mc, em, b2, a2⟩
                            obtain ⟨gm, hgm, gmC, gml⟩ : ∃ gm, ma = some ⟨gm, 0, none⟩ ∧ C ≤ gm ∧ gm < w6.heap.size := by
                              obtain ⟨a, c, e, _, _, h3⟩ := hs.M.form
                              obtain ⟨gm, rfl, h4, h5⟩ := h3 (by intro e; have := congrArg List.length e; rw [List.length_map, lmt] at this; simp at this; subst this; simp at hlt)
                              rw [em] at e
                              exact ⟨gm, by simpa using (by simpa using e : _ ∧ _).1, h4, h5⟩
                            subst hgm em
                            have r2 := hs.X.cell' 2 (.slice (some ⟨gm, 0, none⟩) bs.length mc) rfl
                            have hRl := hs.ltR
                            have gmR : gm ≠ C + 1 := fun e => by have := hs.c2 gm rfl; rw [e, hs.c0] at this; cases this
                            have lt1 : t.1 < ((Lb.mtf bs.length s).map icell).length := by rw [List.length_map, lmt]; exact on1
                            have lti' : i < ((Lb.mtf bs.length s).map icell).length := by rw [List.length_map, lmt]; exact hlt
                            obtain ⟨u9, c9⟩ : ∃ u, w6.cell? ⟨gm, t.1, none⟩ = some u := by
                              have := hs.M.at (g := gm) rfl (i := t.1) lt1 (j := 0) (u := .int .i64 ((Lb.mtf bs.length s)[t.1]'(by rw [lmt]; exact on1))) (by rw [List.getElem_map]; rfl)
                              rw [Nat.mul_one, Nat.add_zero] at this
                              exact ⟨_, this⟩
                            have d9 := hs.M.free (g := gm) rfl t.1
                            have hm1 := hs.setM (g := gm) rfl (i := t.1) (by rw [lmt]; exact on1) (i : Int)
                            obtain ⟨u11, c11⟩ : ∃ u, (w6.setCell ⟨gm, t.1, none⟩ (.int .i64 (i : Int))).cell? ⟨gm, i, none⟩ = some u := by
                              have := hm1.M.at (g := gm) rfl (i := i) (by rw [List.length_map, List.length_set, lmt]; exact hlt) (j := 0) (u := .int .i64 (((Lb.mtf bs.length s).set t.1 (i : Int))[i]'(by rw [List.length_set, lmt]; exact hlt))) (by rw [List.getElem_map]; rfl)
                              rw [Nat.mul_one, Nat.add_zero] at this
                              exact ⟨_, this⟩
                            have d11 := hm1.M.free (g := gm) rfl i
                            have hm2 := hm1.setM (g := gm) rfl (i := i) (by rw [List.length_set, lmt]; exact hlt) ((t.1 : Nat) : Int)
                            obtain ⟨g'', cap'', e2, _, _, _, _, _, _, hm3⟩ := hm2.topO
                            rw [← HK2.out] at e2 hm3
                            have e3 : g = g'' ∧ oc = cap'' := by simpa using e2
                            obtain ⟨rfl, rfl⟩ := e3
                            have bel := Below.setCell (p := ⟨gm, i, none⟩) (Below.setCell (p := ⟨gm, t.1, none⟩) hBl gmC (.int .i64 (i : Int))) gmC (.int .i64 ((t.1 : Nat) : Int))
                            have MN : Hid (Ms w3 C (.slice ba bs.length bc) l1 { p1 with fin := i + 1 } (Lb.mtf bs.length { s2 with pg := Lb.more s2.i s2.pg, i := s2.i + 1, op := r, mate := (s2.mate ++ [((t.1 : Nat) : Int)]).set t.1 (s2.i : Nat) }) (Lb.opi { s2 with pg := Lb.more s2.i s2.pg, i := s2.i + 1, op := r, mate := (s2.mate ++ [((t.1 : Nat) : Int)]).set t.1 (s2.i : Nat) }) (.slice (some ⟨g, 0, none⟩) k oc) ((w6.setCell ⟨gm, t.1, none⟩ (.int .i64 (i : Int))).setCell ⟨gm, i, none⟩ (.int .i64 ((t.1 : Nat) : Int)))) := Lib.hid (by
                              rw [EMT.out, EOP.out]
                              exact ⟨⟨_, _, _, hm3⟩, bel, hCw⟩)
                            obtain ⟨S2, hS2⟩ : ∃ S2 : World → Prop, ∀ w', S2 w' ↔ w'.cell? ⟨C + 1, 2, none⟩ = some (.slice (some ⟨gm, 0, none⟩) bs.length mc) := ⟨_, fun _ => Iff.rfl⟩
                            have HS := Lib.hid hS2
                            have i63 : (i : Int) < 9223372036854775807 := by omega
                            have t63 : ((t.1 : Nat) : Int) < 9223372036854775807 := by omega
                            clear hS2 hm1 hm2 hm3 bel e2 EMT EOP hs hcK hX hBl lmt
                            go_wp2
                            refine wp_region_M S2 11 (by kernel_rfl) ?_
                            have hSS : S2 (World.drew w6) := (HS.out _).2 r2
                            clear r2
                            refine wpAnyM_take (i := 0) (v := ?_) rfl (by kernel_rfl) (fun _ _ _ h => h) (Or.inl ⟨by rfl, ?_⟩) hSS ?_
                            rotate_left 1
                            · intro wS hwS
                              go_simp
                              try with_reducible rfl
                            simp only [List.getElem_toArray, List.getElem_cons_succ, List.getElem_cons_zero, Act.put, List.setIfInBounds_toArray, List.set_cons_zero, List.set_cons_succ]
                            refine wpAnyM_take (i := 1) (v := ?_) rfl (by kernel_rfl) (fun _ _ _ h => h) (Or.inl ⟨by rfl, ?_⟩) hSS ?_
                            rotate_left 1
                            · intro wS hwS
                              have r2 := (HS.out wS).1 hwS; go_simp
                              try with_reducible rfl
                            simp only [List.getElem_toArray, List.getElem_cons_succ, List.getElem_cons_zero, Act.put, List.setIfInBounds_toArray, List.set_cons_zero, List.set_cons_succ]
                            refine wpAnyM_take (i := 2) (v := ?_) rfl (by kernel_rfl) (fun _ _ _ h => h) (Or.inl ⟨by rfl, ?_⟩) hSS ?_
                            rotate_left 1
                            · intro wS hwS
                              go_simp
                              try with_reducible rfl
                            simp only [List.getElem_toArray, List.getElem_cons_succ, List.getElem_cons_zero, Act.put, List.setIfInBounds_toArray, List.set_cons_zero, List.set_cons_succ]
                            refine wpAnyM_take (i := 3) (v := ?_) rfl (by kernel_rfl) (fun _ _ _ h => h) (Or.inl ⟨by rfl, ?_⟩) hSS ?_
                            rotate_left 1
                            · intro wS hwS
                              go_simp
                              try with_reducible rfl
                            simp only [List.getElem_toArray, List.getElem_cons_succ, List.getElem_cons_zero, Act.put, List.setIfInBounds_toArray, List.set_cons_zero, List.set_cons_succ]
                            refine wpAnyM_take (i := 4) (v := ?_) rfl (by kernel_rfl) (fun _ _ _ h => h) (Or.inl ⟨by rfl, ?_⟩) hSS ?_
                            rotate_left 1
                            · intro wS hwS
                              have r2 := (HS.out wS).1 hwS; go_simp
                              try with_reducible rfl
                            simp only [List.getElem_toArray, List.getElem_cons_succ, List.getElem_cons_zero, Act.put, List.setIfInBounds_toArray, List.set_cons_zero, List.set_cons_succ]
                            refine wpAnyM_take (i := 5) (v := ?_) rfl (by kernel_rfl) (fun _ _ _ h => h) (Or.inl ⟨by rfl, ?_⟩) hSS ?_
                            rotate_left 1
                            · intro wS hwS
                              go_simp
                              try with_reducible rfl
                            simp only [List.getElem_toArray, List.getElem_cons_succ, List.getElem_cons_zero, Act.put, List.setIfInBounds_toArray, List.set_cons_zero, List.set_cons_succ]
                            refine wpAnyM_take (i := 6) (v := ?_) rfl (by kernel_rfl) (fun _ _ _ h => h) (Or.inl ⟨by rfl, ?_⟩) hSS ?_
                            rotate_left 1
                            · intro wS hwS
                              go_simp
                              try with_reducible rfl
                            simp only [List.getElem_toArray, List.getElem_cons_succ, List.getElem_cons_zero, Act.put, List.setIfInBounds_toArray, List.set_cons_zero, List.set_cons_succ]
                            refine wpAnyM_take (i := 7) (v := ?_) rfl (by kernel_rfl) (fun _ _ _ h => h) (Or.inl ⟨by rfl, ?_⟩) hSS ?_
                            rotate_left 1
                            · intro wS hwS
                              go_simp
                              try with_reducible rfl
                            simp only [List.getElem_toArray, List.getElem_cons_succ, List.getElem_cons_zero, Act.put, List.setIfInBounds_toArray, List.set_cons_zero, List.set_cons_succ]
                            refine wpAnyM_take (i := 8) (v := ?_) rfl (by kernel_rfl) (fun _ _ _ h => h) (Or.inl ⟨by rfl, ?_⟩) hSS ?_
                            rotate_left 1
                            · intro wS hwS
                              go_simp
                              try with_reducible rfl
                            simp only [List.getElem_toArray, List.getElem_cons_succ, List.getElem_cons_zero, Act.put, List.setIfInBounds_toArray, List.set_cons_zero, List.set_cons_succ]
                            have hS3 : S2 ((World.drew w6).setCell ⟨gm, t.1, none⟩ (.int .i64 (i : Int))) := (HS.out _).2 ((World.cell?_of_block (w := World.drew w6) (Below.heap_setCell _ _ _ (C + 1) (by show C + 1 ≠ gm; omega))).trans ((HS.out _).1 hSS))
                            refine wpAnyM_one (i := 9) rfl (by kernel_rfl) rfl (fun K hK => ?_)
                            go_simp
                            refine hK _ ((World.drew w6).setCell ⟨gm, t.1, none⟩ (.int .i64 (i : Int))) (fun _ => hS3) ?_
                            clear hK K hSS c9 d9
                            have hSS := hS3
                            refine wpAnyM_take (i := 10) (v := ?_) rfl (by kernel_rfl) (fun _ _ _ h => h) (Or.inl ⟨by rfl, ?_⟩) hSS ?_
                            rotate_left 1
                            · intro wS hwS
                              go_simp
                              try with_reducible rfl
                            simp only [List.getElem_toArray, List.getElem_cons_succ, List.getElem_cons_zero, Act.put, List.setIfInBounds_toArray, List.set_cons_zero, List.set_cons_succ]
                            refine wpAnyM_one (i := 11) rfl (by kernel_rfl) rfl (fun K hK => ?_)
                            go_simp
                            refine hK _ (((World.drew w6).setCell ⟨gm, t.1, none⟩ (.int .i64 (i : Int))).setCell ⟨gm, i, none⟩ (.int .i64 ((t.1 : Nat) : Int))) (fun h => absurd h (by decide)) ?_
                            clear hK K hSS hS3 c11 d11
                            refine wpAnyM_done (by kernel_rfl) ?_ _
                            have MN' : Hid (Ms w3 C (.slice ba bs.length bc) l1 { p1 with fin := i + 1 } (Lb.mtf bs.length { s2 with pg := Lb.more s2.i s2.pg, i := s2.i + 1, op := r, mate := (s2.mate ++ [((t.1 : Nat) : Int)]).set t.1 (s2.i : Nat) }) (Lb.opi { s2 with pg := Lb.more s2.i s2.pg, i := s2.i + 1, op := r, mate := (s2.mate ++ [((t.1 : Nat) : Int)]).set t.1 (s2.i : Nat) }) (.slice (some ⟨g, 0, none⟩) k oc) (((World.drew w6).setCell ⟨gm, t.1, none⟩ (.int .i64 (i : Int))).setCell ⟨gm, i, none⟩ (.int .i64 ((t.1 : Nat) : Int)))) := Lib.hid (MN.out.kept ⟨rfl, rfl, rfl, Nat.le_refl _, fun _ _ => rfl⟩)
                            go_wp2
                            go_roundw
                            case measure => simp [intOf]; omega
                            case rel => exact ⟨i + 1, _, _, _, by omega, by go_num, R1, MN'⟩
                          · have ep : Hid (Lb.build bs = .bad i 11) := Lib.hid (SBAD.out _ _ (by
                              unfold Lb.loopS
                              rw [if_neg H45.out.1, if_pos H45.out.2]
                              show (match s2.op with | [] => Lb.Rs.bad s2.i 11 | (j, n) :: r => _) = _
                              rw [KEEP.out.2.1, hop]
                              simp only
                              rw [if_neg ee]
                              show Lb.Rs.bad s2.i 11 = _; rw [KEEP.out.1]))
                            have eb : (t.2 != d.b.n) = true := bne_iff_ne.2 ee
                            obtain ⟨E0, E1⟩ := NONE.out _ (hBl)
                            have x0 := E0.cell' 0 _ rfl
                            have x1 := E0.cell' 1 _ rfl
                            have x2 := E0.cell' 2 _ rfl
                            have f0 := E0.free 0
                            have f1 := E0.free 1
                            have f2 := E0.free 2
                            have y0 := E1.cell' 0 _ rfl
                            have y1 := E1.cell' 1 _ rfl
                            have y2 := E1.cell' 2 _ rfl
                            have E0H := Lib.hid E0
                            have EL := E0.lt
                            have EQ := Lib.hid (QW.out _ (hBl))
                            clear E0 E1
                            clear ee o1 o2 hs hcK hX hBl M5 hop eo e SBAD STEP RB
                            generalize t.2 = m1 at bc1 eb
                            generalize t.1 = j1 at bc1 o0 on1 on2
                            go_wp2
                            go_quiet (fail)
                            go_wp2
                            exact FIN.out _ _ i 11 ep.out (Qw.dn EQ.out _) E0H.out rfl rfl rfl
                        · have ep : Hid (Lb.build bs = .bad i 11) := Lib.hid (SBAD.out _ _ (by
                            unfold Lb.loopS
                            rw [if_neg H45.out.1, if_pos H45.out.2]
                            show (match s2.op with | [] => Lb.Rs.bad s2.i 11 | (j, n) :: r => _) = _
                            rw [KEEP.out.2.1, hop]
                            show Lb.Rs.bad s2.i 11 = _; rw [KEEP.out.1]))
                          obtain rfl : on = 0 := by rw [ON.out, hop]; rfl
                          obtain ⟨E0, E1⟩ := NONE.out _ (M5.out.B)
                          have x0 := E0.cell' 0 _ rfl
                          have x1 := E0.cell' 1 _ rfl
                          have x2 := E0.cell' 2 _ rfl
                          have f0 := E0.free 0
                          have f1 := E0.free 1
                          have f2 := E0.free 2
                          have y0 := E1.cell' 0 _ rfl
                          have y1 := E1.cell' 1 _ rfl
                          have y2 := E1.cell' 2 _ rfl
                          have E0H := Lib.hid E0
                          have EL := E0.lt
                          have EQ := Lib.hid (QW.out _ (M5.out.B))
                          clear E0 E1
                          clear M5 hop SBAD STEP RB
                          go_wp2
                          go_quiet (fail)
                          go_wp2
                          exact FIN.out _ _ i 11 ep.out (Qw.dn EQ.out _) E0H.out rfl rfl rfl
                      · have hb5 : (d.b.kind == 5) = false := by simp [h5]
                        have e : Hid (Lb.loopS d.b { s2 with pg := Lb.more s2.i s2.pg } = .ok { s2 with pg := Lb.more s2.i s2.pg, i := s2.i + 1, mate := s2.mate ++ [-1] }) := Lib.hid (by unfold Lb.loopS; rw [if_neg h4, if_neg h5])
                        have R1 := Lib.hid (STEP.out _ e.out)
                        clear h4 h5
                        go_wp2
                        go_roundw
                        case measure => simp [intOf]; omega
                        case rel => exact ⟨i + 1, _, _, _, by omega, by go_num, R1, Lib.hid (by
                            have := M5.out.un
                            rw [← Lb.mtf_more (n := bs.length) (s' := { s2 with pg := Lb.more s2.i s2.pg, i := s2.i + 1, mate := s2.mate ++ [-1] }) (by omega) (by show s2.mate ++ [-1] = _; rw [KEEP.out.2.2])] at this
                            have eo : Lb.opi { s2 with pg := Lb.more s2.i s2.pg, i := s2.i + 1, mate := s2.mate ++ [-1] } = Lb.opi s := by unfold Lb.opi; show s2.op.reverse.map _ = _; rw [KEEP.out.2.1]
                            rw [eo]; exact this)⟩
              · obtain rfl : i = bs.length := by omega
                have hb' : ¬ (bs.length : Int) < (bs.length : Int) := by omega
                have hrun : Lb.run bs Lb.st0 = .ok s := by have := HR.out.1; rwa [List.take_length] at this
                have hov : ∃ oa on oc, u8 = .slice oa on oc ∧ on = s.op.length := by
                  obtain ⟨⟨pv, mv, col, hs⟩, _⟩ := M.out
                  obtain ⟨pa, pc, ma, mc, oa, oc, _, _, e, _⟩ := hs.shapes
                  rw [Lb.opi_len] at e
                  exact ⟨oa, _, oc, e, rfl⟩
                obtain ⟨oa, on, oc, rfl, hon⟩ := hov
                have lon : on ≤ bs.length := by omega
                rcases Lb.op_cases s with ⟨t, r, hop⟩ | hop
                · have ep : Hid (Lb.build bs = .bad t.1 11) := Lib.hid (by unfold Lb.build; rw [if_neg hbig, Lb.inv_none HVA.out, hrun]; unfold Lb.fin; simp only [hop])
                  obtain ⟨⟨pv, mv, col, hs⟩, hBl, _⟩ := M.out
                  have eo : Lb.opi s = (r.reverse.map (fun q => (q.1 : Int))) ++ [(t.1 : Int)] := by unfold Lb.opi; rw [hop]; simp
                  rw [eo] at hs
                  obtain ⟨g, cap2, e, k1, k2, gl, gR, gC, o0, _⟩ := hs.topO
                  obtain ⟨k, hk2⟩ : ∃ k, k = (r.reverse.map (fun q => ((q : Nat × Int).1 : Int))).length := ⟨_, rfl⟩
                  rw [← hk2] at e k1 o0
                  have e' : oa = some ⟨g, 0, none⟩ ∧ on = k + 1 ∧ oc = cap2 := by simpa using e
                  obtain ⟨rfl, rfl, rfl⟩ := e'
                  clear hon hrun
                  obtain ⟨E0, E1⟩ := NONE.out _ (hBl)
                  have x0 := E0.cell' 0 _ rfl
                  have x1 := E0.cell' 1 _ rfl
                  have x2 := E0.cell' 2 _ rfl
                  have f0 := E0.free 0
                  have f1 := E0.free 1
                  have f2 := E0.free 2
                  have y0 := E1.cell' 0 _ rfl
                  have y1 := E1.cell' 1 _ rfl
                  have y2 := E1.cell' 2 _ rfl
                  have E0H := Lib.hid E0
                  have EL := E0.lt
                  have EQ := Lib.hid (QW.out _ (hBl))
                  clear E0 E1
                  have ek : IntKind.i64.wrap (k : Int) = k := IntWalk.i64_in _ (by omega)
                  have e0 : 0 ≤ (k : Int) := by omega
                  have e1 : (k : Int) < (k : Int) + 1 := by omega
                  have e2 : (0 : Int) < (k : Int) + 1 := by omega
                  clear hs hBl e eo hop hk2 HR M
                  obtain ⟨S2, hS2⟩ : ∃ S2 : World → Prop, ∀ w', S2 w' ↔ (w'.cell? ⟨w.heap.size + 1, 0, none⟩ = some (.slice none 0 0) ∧ w'.cell? ⟨w.heap.size + 1, 1, none⟩ = some (.slice none 0 0) ∧ w'.cell? ⟨w.heap.size + 1, 2, none⟩ = some (.slice none 0 0) ∧ w'.cell? ⟨g, k, none⟩ = some (.int .i64 (t.1 : Int))) := ⟨_, fun _ => Iff.rfl⟩
                  have HS := Lib.hid hS2
                  have hSS : S2 (World.drew wr) := (hS2 _).2 ⟨y0, y1, y2, o0⟩
                  have hgR : g ≠ w.heap.size := by omega
                  have hNR : w.heap.size + 1 ≠ w.heap.size := by omega
                  clear hS2 y0 y1 y2 o0
                  go_wp2
                  refine wp_region_M S2 9 (by kernel_rfl) ?_
                  refine wpAnyM_take (i := 0) (v := ?_) rfl (by kernel_rfl) (fun _ _ _ h => h) (Or.inl ⟨by rfl, ?_⟩) hSS ?_
                  rotate_left 1
                  · intro wS hwS
                    obtain ⟨y0, y1, y2, o0⟩ := (HS.out wS).1 hwS; go_simp
                    try with_reducible rfl
                  simp only [List.getElem_toArray, List.getElem_cons_succ, List.getElem_cons_zero, Act.put, List.setIfInBounds_toArray, List.set_cons_zero, List.set_cons_succ]
                  refine wpAnyM_take (i := 1) (v := ?_) rfl (by kernel_rfl) (fun _ _ _ h => h) (Or.inl ⟨by rfl, ?_⟩) hSS ?_
                  rotate_left 1
                  · intro wS hwS
                    go_simp
                    try with_reducible rfl
                  simp only [List.getElem_toArray, List.getElem_cons_succ, List.getElem_cons_zero, Act.put, List.setIfInBounds_toArray, List.set_cons_zero, List.set_cons_succ]
                  refine wpAnyM_take (i := 2) (v := ?_) rfl (by kernel_rfl) (fun _ _ _ h => h) (Or.inl ⟨by rfl, ?_⟩) hSS ?_
                  rotate_left 1
                  · intro wS hwS
                    go_simp
                    try with_reducible rfl
                  simp only [List.getElem_toArray, List.getElem_cons_succ, List.getElem_cons_zero, Act.put, List.setIfInBounds_toArray, List.set_cons_zero, List.set_cons_succ]
                  refine wpAnyM_take (i := 3) (v := ?_) rfl (by kernel_rfl) (fun _ _ _ h => h) (Or.inl ⟨by rfl, ?_⟩) hSS ?_
                  rotate_left 1
                  · intro wS hwS
                    go_simp
                    try with_reducible rfl
                  simp only [List.getElem_toArray, List.getElem_cons_succ, List.getElem_cons_zero, Act.put, List.setIfInBounds_toArray, List.set_cons_zero, List.set_cons_succ]
                  refine wpAnyM_take (i := 4) (v := ?_) rfl (by kernel_rfl) (fun _ _ _ h => h) (Or.inl ⟨by rfl, ?_⟩) hSS ?_
                  rotate_left 1
                  · intro wS hwS
                    go_simp
                    try with_reducible rfl
                  simp only [List.getElem_toArray, List.getElem_cons_succ, List.getElem_cons_zero, Act.put, List.setIfInBounds_toArray, List.set_cons_zero, List.set_cons_succ]
                  refine wpAnyM_take (i := 5) (v := ?_) rfl (by kernel_rfl) (fun _ _ _ h => h) (Or.inl ⟨by rfl, ?_⟩) hSS ?_
                  rotate_left 1
                  · intro wS hwS
                    go_simp
                    try with_reducible rfl
                  simp only [List.getElem_toArray, List.getElem_cons_succ, List.getElem_cons_zero, Act.put, List.setIfInBounds_toArray, List.set_cons_zero, List.set_cons_succ]
                  refine wpAnyM_take (i := 6) (v := ?_) rfl (by kernel_rfl) (fun _ _ _ h => h) (Or.inl ⟨by rfl, ?_⟩) hSS ?_
                  rotate_left 1
                  · intro wS hwS
                    obtain ⟨y0, y1, y2, o0⟩ := (HS.out wS).1 hwS; go_simp
                    try with_reducible rfl
                  simp only [List.getElem_toArray, List.getElem_cons_succ, List.getElem_cons_zero, Act.put, List.setIfInBounds_toArray, List.set_cons_zero, List.set_cons_succ]
                  have ks : ∀ b o, b ≠ w.heap.size → ((((World.drew wr).setCell ⟨w.heap.size, 0, none⟩ (.slice none 0 0)).setCell ⟨w.heap.size, 1, none⟩ (.slice none 0 0)).setCell ⟨w.heap.size, 2, none⟩ (.slice none 0 0)).cell? ⟨b, o, none⟩ = (World.drew wr).cell? ⟨b, o, none⟩ := fun b o hb => World.cell?_of_block (w := World.drew wr) ((Below.heap_setCell _ _ _ b hb).trans ((Below.heap_setCell _ _ _ b hb).trans (Below.heap_setCell _ _ _ b hb)))
                  have hS3 : S2 ((((World.drew wr).setCell ⟨w.heap.size, 0, none⟩ (.slice none 0 0)).setCell ⟨w.heap.size, 1, none⟩ (.slice none 0 0)).setCell ⟨w.heap.size, 2, none⟩ (.slice none 0 0)) := by
                    obtain ⟨y0, y1, y2, o0⟩ := (HS.out _).1 hSS
                    exact (HS.out _).2 ⟨(ks _ _ hNR).trans y0, (ks _ _ hNR).trans y1, (ks _ _ hNR).trans y2, (ks _ _ hgR).trans o0⟩
                  refine wpAnyM_one (i := 7) rfl (by kernel_rfl) rfl (fun K hK => ?_)
                  go_simp
                  refine hK _ ((((World.drew wr).setCell ⟨w.heap.size, 0, none⟩ (.slice none 0 0)).setCell ⟨w.heap.size, 1, none⟩ (.slice none 0 0)).setCell ⟨w.heap.size, 2, none⟩ (.slice none 0 0)) (fun _ => hS3) ?_
                  clear hK K hSS ks
                  refine wpAnyM_one (i := 8) rfl (by kernel_rfl) rfl (fun K hK => ?_)
                  go_simp
                  refine hK _ _ (fun _ => hS3) ?_
                  clear hK K
                  refine wpAnyM_one (i := 9) rfl (by kernel_rfl) rfl (fun K hK => ?_)
                  go_simp
                  refine hK _ _ (fun h => absurd h (by decide)) ?_
                  clear hK K
                  refine wpAnyM_done (by kernel_rfl) ?_ _
                  clear hS3 x0 x1 x2 f0 f1 f2
                  go_wp2
                  exact FIN.out (World.drew wr) _ t.1 11 ep.out (Qw.dr EQ.out) E0H.out rfl rfl rfl
                · have ep : Hid (Lb.build bs = .ok s) := Lib.hid (by unfold Lb.build; rw [if_neg hbig, Lb.inv_none HVA.out, hrun]; unfold Lb.fin; simp only [hop])
                  obtain rfl : on = 0 := by rw [hon, hop]; rfl
                  obtain ⟨⟨pv, mv, col, hs⟩, hBl, _⟩ := M.out
                  have em : Lb.mtf bs.length s = s.mate := by unfold Lb.mtf; rw [lm, Nat.sub_self, List.replicate_zero, List.append_nil]
                  rw [em, ← HR.out.2.1] at hs
                  have r0 := hs.X.cell' 0 (.slice ba bs.length bc) rfl
                  have r1 := hs.X.cell' 1 pv rfl
                  have r2 := hs.X.cell' 2 mv rfl
                  have hRl := hs.ltR
                  obtain ⟨E0, _⟩ := NONE.out _ hBl
                  have x0 := E0.cell' 0 _ rfl
                  have x1 := E0.cell' 1 _ rfl
                  have x2 := E0.cell' 2 _ rfl
                  have f0 := E0.free 0
                  have f1 := E0.free 1
                  have f2 := E0.free 2
                  have EL := E0.lt
                  have XF := ((E0.set 0 (.slice ba bs.length bc)).set 1 pv).set 2 mv
                  have ef : ∀ b, b ≠ w.heap.size → (((wr.setCell ⟨w.heap.size, 0, none⟩ (.slice ba bs.length bc)).setCell ⟨w.heap.size, 1, none⟩ pv).setCell ⟨w.heap.size, 2, none⟩ mv).heap[b]? = wr.heap[b]? := fun b hb => (Below.heap_setCell _ _ _ b hb).trans ((Below.heap_setCell _ _ _ b hb).trans (Below.heap_setCell _ _ _ b hb))
                  have QF : Qw w (((wr.setCell ⟨w.heap.size, 0, none⟩ (.slice ba bs.length bc)).setCell ⟨w.heap.size, 1, none⟩ pv).setCell ⟨w.heap.size, 2, none⟩ mv) := Qw.sc (Qw.sc (Qw.sc (QW.out _ hBl) (Nat.le_refl _) _) (Nat.le_refl _) _) (Nat.le_refl _) _
                  have own : ∀ {T : TypeId} {z : Nat} {v : Value} {xs : List (List Value)}, OwnG C wr T z v xs → OwnG w.heap.size (((wr.setCell ⟨w.heap.size, 0, none⟩ (.slice ba bs.length bc)).setCell ⟨w.heap.size, 1, none⟩ pv).setCell ⟨w.heap.size, 2, none⟩ mv) T z v xs := fun {T z v xs} h => (h.go fun g hg hl => ef g (by have := (h.lt hg).1; omega)).base (by omega)
                  have bk := (KBW.out _ hBl).go (w' := ((wr.setCell ⟨w.heap.size, 0, none⟩ (.slice ba bs.length bc)).setCell ⟨w.heap.size, 1, none⟩ pv).setCell ⟨w.heap.size, 2, none⟩ mv) (T := fun b => w.heap.size ≤ b) fun b hb hl => ⟨ef b (by omega), by omega⟩
                  have FN : Hid (Bx (((wr.setCell ⟨w.heap.size, 0, none⟩ (.slice ba bs.length bc)).setCell ⟨w.heap.size, 1, none⟩ pv).setCell ⟨w.heap.size, 2, none⟩ mv) w.heap.size #[.slice ba bs.length bc, pv, mv] 41 ∧ LbR w bs (.returned (.tuple #[.agg #[.slice ba bs.length bc, pv, mv], .int .i64 (bs.length : Nat), .int .i64 0])) (((wr.setCell ⟨w.heap.size, 0, none⟩ (.slice ba bs.length bc)).setCell ⟨w.heap.size, 1, none⟩ pv).setCell ⟨w.heap.size, 2, none⟩ mv)) := Lib.hid ⟨XF, LbR.ok ep.out ⟨ba, bc, pv, mv, rfl, bk, own hs.G, own hs.M⟩ QF⟩
                  have hpv : ∃ a n c, pv = .slice a n c := by obtain ⟨a, c, e, _⟩ := hs.G.form; exact ⟨a, _, c, e⟩
                  have hmv : ∃ a n c, mv = .slice a n c := by obtain ⟨a, c, e, _⟩ := hs.M.form; exact ⟨a, _, c, e⟩
                  obtain ⟨pa, pn, pc, rfl⟩ := hpv
                  obtain ⟨ma, mn, mc, rfl⟩ := hmv
                  clear hs hBl E0 XF ef QF own bk em hrun hop hon M HR
                  go_wp2
                  exact bodyPost_ret (res_libQ (x := .slice ba bs.length bc) (y := .slice pa pn pc) (z := .slice ma mn mc) (j := (bs.length : Nat)) (er := 0) rfl rfl rfl FN.out.1) rfl FN.out.2
end Go.Proofs.YtlgdjbabbfdngaaDoor

