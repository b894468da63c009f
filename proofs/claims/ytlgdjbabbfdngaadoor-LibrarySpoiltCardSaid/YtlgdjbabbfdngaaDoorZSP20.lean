import Derived.Test.YtlgdjbabbfdngaaDoorZSP19
import Derived.Deep.DeepCutAuto
import Derived.Deep.LoopGhost
set_option linter.unusedVariables false
set_option linter.unusedSimpArgs false
namespace Go.Proofs.YtlgdjbabbfdngaaDoor
open Go.RowKit
namespace Lb
open Sy
theorem Fl.end0 {p : Nat} {lab : Int} {k : Nat} {l : List Bl} {s : St} (h : Fl p lab (k + 1) l s) {b : Bl} (hk : b.kind = 5) (hn : b.n = (k : Int) + 1) (hb : b.label = 0) (h0 : 0 ≤ lab) (hv : vldb b = true) : ∃ s', Fl p lab k (l ++ [b]) s' := by
  have hop := h.op
  cases hs : s.op with
  | nil => rw [hs] at hop; cases hop
  | cons q r =>
    obtain ⟨j, m⟩ := q
    rw [hs] at hop
    have hop' : m :: r.map (·.2) = ((k + 1 : Nat) : Int) :: down k := hop
    obtain ⟨hm, hr⟩ := List.cons.inj hop'
    refine ⟨_, ⟨run_one h.run (s' := { s with pg := more s.i s.pg, i := s.i + 1, op := r, mate := (s.mate ++ [(j : Int)]).set j s.i }) ?_, hr, more_mem h.pg, h.lo, vld_app h.vld hv, by show (more s.i s.pg).map _ = _; rw [more_nums]; exact h.nm, lay_more h.ne h.ly, fun c hc => by
      rcases List.mem_append.1 hc with hc | hc
      · exact h.lb c hc
      · rw [List.mem_singleton.1 hc]; omega, inc_app h.inc h.lb (.inl hb)⟩⟩
    unfold stepS pgS
    rw [if_neg (by omega)]
    simp only
    unfold labS
    rw [if_neg (by omega)]
    simp only
    unfold loopS
    rw [if_neg (by omega), if_pos hk]
    simp only [hs]
    rw [if_pos (by omega)]
end Lb
theorem Sy.okx_x2 {b : Sy.Bl} (h : Sy.vldb b = true) (hk : b.kind = 2) : Sy.okx b.x = true := by
  obtain ⟨h1, _⟩ := Sy.vld_parts h
  unfold Sy.okb at h1
  simp only [Bool.and_eq_true] at h1
  have h3 := h1.2
  simp only [hk] at h3
  simp at h3
  exact h3.2.1.2
theorem Sy.okx_l3 {b : Sy.Bl} (h : Sy.vldb b = true) (hk : b.kind = 3) : Sy.okx b.left = true := by
  obtain ⟨h1, _⟩ := Sy.vld_parts h
  unfold Sy.okb at h1
  simp only [Bool.and_eq_true] at h1
  have h3 := h1.2
  simp only [hk] at h3
  simp at h3
  exact h3.2.1.1
def pgB (p : Nat) : Bi := ⟨⟨6, 0, false, [], Sy.zx, Sy.zx, (p : Int)⟩, none, 0, none, 0, none, 0⟩
def enB (k : Nat) : Bi := ⟨⟨5, 0, false, [], Sy.zx, Sy.zx, (k : Int) + 1⟩, none, 0, none, 0, none, 0⟩
def zeB : Bi := ⟨⟨0, 0, false, [], Sy.zx, Sy.zx, 0⟩, none, 0, none, 0, none, 0⟩
theorem bib_z {w : World} {S : Nat → Prop} {d : Bi} (h : d.b.words = [] ∧ d.b.left.ks = [] ∧ d.b.x.ks = []) (h' : d.wa = none ∧ d.wc = 0 ∧ d.la = none ∧ d.lc = 0 ∧ d.xa = none ∧ d.xc = 0) : BiB w S d := by
  obtain ⟨b, wa, wc, la, lc, xa, xc⟩ := d
  simp only at h h'
  obtain ⟨h1, h2, h3⟩ := h
  obtain ⟨rfl, rfl, rfl, rfl, rfl, rfl⟩ := h'
  unfold BiB
  simp only
  rw [h1, h2, h3]
  exact ⟨WordsB.nil _ _, KidsB.nl none 0 (by decide), KidsB.nl none 0 (by decide)⟩
theorem Fx.prog {p : Nat} {lab : Int} {ds : List Bi} (h : Fx (p - 1) lab 0 ds) (h0 : 0 < p) (h3 : p ≤ 3) (l0 : 0 ≤ lab) : Fx p lab 0 (ds ++ [pgB p]) :=
  h.app (Sy.fwn_prog (by omega) (by omega)) fun s hs => by
    obtain ⟨s', k⟩ := hs.prog (b := (pgB p).b) rfl (by show (p : Int) = _; omega) rfl (Sy.fwn_prog (by omega) (by omega)).v l0
    rw [show p - 1 + 1 = p by omega] at k
    exact ⟨s', k⟩
theorem Fx.end_ {p : Nat} {lab : Int} {k : Nat} {ds : List Bi} (h : Fx p lab (k + 1) ds) (h3 : k ≤ 2) (l0 : 0 ≤ lab) : Fx p lab k (ds ++ [enB k]) :=
  h.app (Sy.fwn_end (by omega) (by omega)) fun s hs => hs.end0 (b := (enB k).b) rfl rfl rfl l0 (Sy.fwn_end (by omega) (by omega)).v
section
variable {B : Nat} {v : Value} {zs : List Int} {w wr w' : World} {lv ov : Value} {k : Nat} {ds : List Bi} {b0 : Nat} {d : Bi}
theorem Fk.cells (h : Fk B v zs w lv ov k ds b0 d wr) : wr.cell? ⟨b0, 0, none⟩ = some (.int .i64 d.b.kind) ∧ wr.cell? ⟨b0, 1, none⟩ = some (.int .i64 d.b.label) ∧ wr.cell? ⟨b0, 2, none⟩ = some (.bool d.b.skip) ∧ wr.cell? ⟨b0, 3, none⟩ = some (.slice d.wa d.b.words.length d.wc) ∧ wr.cell? ⟨b0, 4, none⟩ = some (.int .i64 d.b.left.op) ∧ wr.cell? ⟨b0, 5, none⟩ = some (.int .i64 d.b.left.n) ∧ wr.cell? ⟨b0, 6, none⟩ = some (.slice d.la d.b.left.ks.length d.lc) ∧ wr.cell? ⟨b0, 7, none⟩ = some (.int .i64 d.b.x.op) ∧ wr.cell? ⟨b0, 8, none⟩ = some (.int .i64 d.b.x.n) ∧ wr.cell? ⟨b0, 9, none⟩ = some (.slice d.xa d.b.x.ks.length d.xc) ∧ wr.cell? ⟨b0, 10, none⟩ = some (.int .i64 d.b.n) := ⟨h.X.cell' 0 _ rfl, h.X.cell' 1 _ rfl, h.X.cell' 2 _ rfl, h.X.cell' 3 _ rfl, h.X.cell' 4 _ rfl, h.X.cell' 5 _ rfl, h.X.cell' 6 _ rfl, h.X.cell' 7 _ rfl, h.X.cell' 8 _ rfl, h.X.cell' 9 _ rfl, h.X.cell' 10 _ rfl⟩
theorem Fk.put (h : Fk B v zs w lv ov k ds b0 d wr) (t : TpB w' B v zs) (q : Px B wr w') {d' : Bi} (hd : BiB w' (fun b => (((w.heap.size ≤ b ∧ lv.ownBlock ≠ some b ∧ ov.ownBlock ≠ some b) ∧ b ≠ b0) ∨ wr.heap.size ≤ b)) d') : Fk B v zs w lv ov k ds b0 d' (putB w' b0 (.int .i64 d'.b.kind) (.int .i64 d'.b.label) (.bool d'.b.skip) (.slice d'.wa d'.b.words.length d'.wc) (.int .i64 d'.b.left.op) (.int .i64 d'.b.left.n) (.slice d'.la d'.b.left.ks.length d'.lc) (.int .i64 d'.b.x.op) (.int .i64 d'.b.x.n) (.slice d'.xa d'.b.x.ks.length d'.xc) (.int .i64 d'.b.n)) := by
  have h1 := h.px t q
  have hB := h.F.hB
  have hb := h.hb
  have xl := h.X.lt
  have keep : ∀ b, b ≠ b0 → (putB w' b0 (.int .i64 d'.b.kind) (.int .i64 d'.b.label) (.bool d'.b.skip) (.slice d'.wa d'.b.words.length d'.wc) (.int .i64 d'.b.left.op) (.int .i64 d'.b.left.n) (.slice d'.la d'.b.left.ks.length d'.lc) (.int .i64 d'.b.x.op) (.int .i64 d'.b.x.n) (.slice d'.xa d'.b.x.ks.length d'.xc) (.int .i64 d'.b.n)).heap[b]? = w'.heap[b]? := fun b hne => putB_heap _ _ _ _ _ _ _ _ _ _ _ _ _ _ hne
  refine ⟨⟨?_, putB_px h1.F.q hb.1 .., hB, h1.F.O.go fun g hg _ => keep g (fun e => hb.2.1 (e ▸ hg)), fun x hx => (h1.D x hx).go fun b hS _ => ⟨keep b hS.2, hS.1⟩, h1.F.N.go fun g hg _ => keep g (fun e => hb.2.2 (e ▸ hg)), h1.F.ne⟩, putB_bx _ _ _ _ _ _ _ _ _ _ _ h1.X, hd.go fun b hS _ => ?_, fun x hx => (h1.D x hx).go fun b hS _ => ⟨keep b hS.2, hS⟩, hb⟩
  · have c : B < b0 := by omega
    unfold putB
    exact (((((((((((t.other c _ _).other c _ _).other c _ _).other c _ _).other c _ _).other c _ _).other c _ _).other c _ _).other c _ _).other c _ _).other c _ _)
  · rcases hS with hS | hS
    · exact ⟨keep b hS.2, hS⟩
    · have hne : b ≠ b0 := by omega
      exact ⟨keep b hne, ⟨by have := h.F.q.size; omega, fun e => by have := (h.F.O.lt e).2.1; omega, fun e => by have := (h.F.N.lt e).2; omega⟩, hne⟩
end
theorem fk_new {B : Nat} {v : Value} {zs : List Int} {w wr w1 : World} {lv ov : Value} {k : Nat} {ds : List Bi} {d : Bi} (h : Fi B v zs w lv ov k ds wr) (t : TpB w1 B v zs) (q : Px B wr w1) (hd : BiB w1 (fun b => wr.heap.size ≤ b) d) : Fk B v zs w lv ov k ds w1.heap.size d (w1.alloc (.cells (bicell d).toArray 37)) := by
  have h1 := h.px t q
  have le : wr.heap.size ≤ w1.heap.size := q.size
  have lw : w.heap.size ≤ w1.heap.size := Nat.le_trans h.q.size le
  have keep : ∀ b, b < w1.heap.size → (w1.alloc (.cells (bicell d).toArray 37)).heap[b]? = w1.heap[b]? := fun b hl => Below.heap_alloc w1 _ b hl
  refine ⟨h1.kept ((Qw.refl w1).al _), Bx.new w1 _ _, hd.go fun b hS hl => ⟨keep b hl, ⟨by have := h.q.size; omega, fun e => by have := (h.O.lt e).2.1; omega, fun e => by have := (h.N.lt e).2; omega⟩, by omega⟩, fun x hx => (h1.D x hx).go fun b hS hl => ⟨keep b hl, hS, by omega⟩, lw, fun e => by have := (h.O.lt e).2.1; omega, fun e => by have := (h.N.lt e).2; omega⟩
theorem blockC {B : Nat} {v : Value} {zs : List Int} (w : World) (hT : TpB w B v zs) : Calls Tryd.prog 32 #[.pointer (some ⟨B, 0, none⟩)] w fun e w' => ∃ (b : Sy.Bl) (wa la xa : Option Addr) (wc lc xc : Nat), e = .returned (.agg #[.int .i64 b.kind, .int .i64 b.label, .bool b.skip, .slice wa b.words.length wc, .int .i64 b.left.op, .int .i64 b.left.n, .slice la b.left.ks.length lc, .int .i64 b.x.op, .int .i64 b.x.n, .slice xa b.x.ks.length xc, .int .i64 b.n]) ∧ Sy.Dwn b ∧ BiB w' (fun k => w.heap.size ≤ k) ⟨b, wa, wc, la, lc, xa, xc⟩ ∧ TpB w' B v zs ∧ Px B w w' := by
  refine (blockA w hT).mono ?_
  rintro e w' ⟨b, cs, rfl, dw, hb, tp, q⟩
  obtain ⟨wa, wc, la, lc, xa, xc, rfl, hW, hL, hX⟩ := hb
  exact ⟨b, wa, la, xa, wc, lc, xc, rfl, dw, ⟨hW, hL, hX⟩, tp, q⟩
theorem calledC {B : Nat} {v : Value} {zs : List Int} {w wr : World} {lv ov : Value} {k : Nat} {ds : List Bi} {b0 : Nat} {c : Sy.Bl} {wa la xa : Option Addr} {wc lc xc : Nat} (h : Fk B v zs w lv ov k ds b0 ⟨c, wa, wc, la, lc, xa, xc⟩ wr) (hf : Sy.Fwn c) (hk : c.kind = 0) : Calls Tryd.prog 34 #[.pointer (some ⟨B, 0, none⟩), .agg #[.int .i64 c.kind, .int .i64 c.label, .bool c.skip, .slice wa c.words.length wc, .int .i64 c.left.op, .int .i64 c.left.n, .slice la c.left.ks.length lc, .int .i64 c.x.op, .int .i64 c.x.n, .slice xa c.x.ks.length xc, .int .i64 c.n]] wr fun e w' => ∃ (c' : Sy.Bl) (wa' la' xa' : Option Addr) (wc' lc' xc' : Nat), e = .returned (.agg #[.int .i64 c'.kind, .int .i64 c'.label, .bool c'.skip, .slice wa' c'.words.length wc', .int .i64 c'.left.op, .int .i64 c'.left.n, .slice la' c'.left.ks.length lc', .int .i64 c'.x.op, .int .i64 c'.x.n, .slice xa' c'.x.ks.length xc', .int .i64 c'.n]) ∧ (Sy.Fwn c' ∧ c'.kind = 0 ∧ c'.label = c.label) ∧ BiB w' (fun b => (((w.heap.size ≤ b ∧ lv.ownBlock ≠ some b ∧ ov.ownBlock ≠ some b) ∧ b ≠ b0) ∨ wr.heap.size ≤ b)) ⟨c', wa', wc', la', lc', xa', xc'⟩ ∧ TpB w' B v zs ∧ Px B wr w' := by
  have hB := h.F.hB
  refine (calledA (S := fun b => (w.heap.size ≤ b ∧ lv.ownBlock ≠ some b ∧ ov.ownBlock ≠ some b) ∧ b ≠ b0) wr h.F.T hf hk (fun b hS => by omega) ⟨wa, wc, la, lc, xa, xc, rfl, h.H.1, h.H.2.1, h.H.2.2⟩).mono ?_
  rintro e w' ⟨c', cs, rfl, hp, hb, tp, q⟩
  obtain ⟨wa', wc', la', lc', xa', xc', rfl, hW, hL, hX⟩ := hb
  exact ⟨c', wa', la', xa', wc', lc', xc', rfl, hp, ⟨hW, hL, hX⟩, tp, q⟩
def FwK (B : Nat) (v : Value) (zs : List Int) (w : World) (e : Ending) (w' : World) : Prop :=
  ∃ (a : Option Addr) (cap : Nat) (ds : List Bi) (lab : Int), e = .returned (.slice a ds.length cap) ∧ ds.length ≤ 40 ∧ OwnK w.heap.size w' (.slice a ds.length cap) ds ∧ (∀ d ∈ ds, BiB w' (fun k => w.heap.size ≤ k ∧ (Value.slice a ds.length cap).ownBlock ≠ some k) d) ∧ (∃ s, Lb.Fl 2 lab 0 (bis ds) s) ∧ (∀ b ∈ bis ds, Sy.Fwn b) ∧ TpB w' B v zs ∧ Px B w w'
set_option maxRecDepth 100000 in
set_option maxHeartbeats 4000000 in
theorem flowK {B : Nat} {v : Value} {zs : List Int} (w : World) (hT : TpB w B v zs) : Calls Tryd.prog 15 #[.pointer (some ⟨B, 0, none⟩)] w (FwK B v zs w) := by
  have hBl := hT.lt
  have c1 := fun n n1 n2 w h => nextA (B := B) (v := v) (zs := zs) n n1 n2 w h
  have c2 := fun lo hi l0 l1 l2 w h => rangeA (B := B) (v := v) (zs := zs) lo hi l0 l1 l2 w h
  have c3 := fun w h => blockC (B := B) (v := v) (zs := zs) w h
  have C := Lib.hid c1
  have RG := Lib.hid c2
  have BL := Lib.hid c3
  have FI := Lib.hid (Fi.start hT)
  have FX := Lib.hid Fx.start
  clear c1 c2 c3 hT
  go_enter Tryd.func15, Tryd.ntmps15
  go_wp2_with fail
  go_loopg [3, 4, 5] 3 (fun g lv labv pv wr => ∃ (p : Nat) (lab : Int) (ds : List Bi), g = 3 - p ∧ pv = .int .i64 (p : Int) ∧ labv = .int .i64 lab ∧ p ≤ 3 ∧ 0 ≤ lab ∧ lab ≤ 7 * (p : Int) ∧ (ds.length : Int) ≤ lab + 4 * (p : Int) ∧ Hid (Fi B v zs w lv (.slice none 0 0) 0 ds wr) ∧ Hid (Fx (p - 1) lab 0 ds))
  case atStart => exact ⟨0, 0, [], rfl, rfl, rfl, by omega, by omega, by omega, by simp, FI, FX⟩
  case round =>
    clear FI FX
    obtain ⟨p, lab, ds, rfl, rfl, rfl, hp, l0, l1, hl, FI, FX⟩ := hrel
    by_cases hlt : p < 3
    · have hpi : (p : Int) < 3 := by omega
      go_upto_if 14 with fail
      go_cut [3] (fun lv2 wx => ∃ ds2 : List Bi, (ds2.length : Int) ≤ lab + 4 * (p : Int) + 1 ∧ Hid (Fi B v zs w lv2 (.slice none 0 0) 0 ds2 wx) ∧ Hid (Fx p lab 0 ds2))
      case first =>
        by_cases h0 : p = 0
        · subst h0
          go_wp2_with fail
          go_meet
          exact ⟨ds, by omega, FI, FX⟩
        · have hp0 : (0 : Int) < (p : Int) := by omega
          go_wp2_with (at_builtin; refine block_append 15 18 (pgB p) w.heap.size _ ds _ (by rfl) (by rfl) (Bx.new _ _ _) (FI.out.kept ((Qw.refl _).al _)).O (by omega) (by have := FI.out.q.size; simp; omega) ?_; intro v' w2 ho hg hn; have FJ := Lib.hid ((FI.out.kept ((Qw.refl _).al _)).app (bib_z ⟨rfl, rfl, rfl⟩ ⟨rfl, rfl, rfl, rfl, rfl, rfl⟩) ho hg hn); clear ho hg hn)
          go_meet
          exact ⟨ds ++ [pgB p], by simp; omega, FJ, Lib.hid (FX.out.prog (by omega) hp l0)⟩
      case rest =>
        clear FI FX
        obtain ⟨ds2, hl2, FI, FX⟩ := hcut
        go_wp2_with (go_at_call 33; with_reducible refine (RG.out _ _ (by decide) (by decide) (by decide) _ FI.out.T).mono ?_; rintro e w' ⟨n, rfl, n0, n1, tp, q⟩; replace FI := Lib.hid (FI.out.px tp q); clear tp q)
        go_loopg [3, 4, 6, 7] n.toNat (fun g2 lv labv ov nv wr => ∃ (lab2 n : Int) (k : Nat) (oa : Option Addr) (oc : Nat) (ds3 : List Bi), g2 = n.toNat ∧ labv = .int .i64 lab2 ∧ nv = .int .i64 n ∧ ov = .slice oa k oc ∧ k ≤ 3 ∧ 0 ≤ n ∧ 0 ≤ lab2 ∧ lab2 + n ≤ 7 * (p : Int) + 7 ∧ (ds3.length : Int) ≤ lab2 + 4 * (p : Int) + 1 ∧ Hid (Fi B v zs w lv (.slice oa k oc) k ds3 wr) ∧ Hid (Fx p lab2 k ds3))
        case atStart => exact ⟨lab, n, 0, none, 0, ds2, rfl, rfl, rfl, rfl, by omega, by omega, by omega, by omega, by omega, FI, FX⟩
        case round =>
          clear FI FX n0 n1 hl hl2 l0 l1
          obtain ⟨lab2, n, k, oa, oc, ds3, rfl, rfl, rfl, rfl, hk3, n0, l0, l1, hl, FI, FX⟩ := hrel
          by_cases hn : 0 < n
          · have hni : 0 < n := hn
            go_upto_region 13 with (go_at_call 32; (with_reducible refine (BL.out _ (FI.out.kept (show Qw _ _ by repeat (first | exact Qw.refl _ | refine Qw.al ?_ _ | refine Qw.dr ?_ | refine Qw.dn ?_ _))).T).mono ?_; rintro e w1 ⟨b, wa, la, xa, wn, lc, xc, rfl, dw, hb, tp, q⟩; have FK0 := Lib.hid (fk_new (FI.out.kept (show Qw _ _ by repeat (first | exact Qw.refl _ | refine Qw.al ?_ _ | refine Qw.dr ?_ | refine Qw.dn ?_ _))) tp q hb); have DW := Lib.hid dw; clear dw tp q hb))
            refine code_of (fun w2 => Hid (Fk B v zs w u3 (.slice oa k oc) k ds3 w1.heap.size ⟨b, wa, wn, la, lc, xa, xc⟩ w2)) FK0 ?_
            clear FK0 FI
            generalize w1.heap.size = b0
            intro w2 FK
            replace FK : Hid (Fk B v zs w u3 (.slice oa k oc) k ds3 b0 ⟨b, wa, wn, la, lc, xa, xc⟩ w2) := FK
            replace xl := FK.out.X.lt
            try clear x0 x1 x2 x3 x4 x5 x6 x7 x8 x9 x10
            obtain ⟨x0, x1, x2, x3, x4, x5, x6, x7, x8, x9, x10⟩ := FK.out.cells
            try dsimp only at x0 x1 x2 x3 x4 x5 x6 x7 x8 x9 x10
            replace f0 := FK.out.X.free 0
            replace f1 := FK.out.X.free 1
            replace f2 := FK.out.X.free 2
            replace f3 := FK.out.X.free 3
            replace f4 := FK.out.X.free 4
            replace f5 := FK.out.X.free 5
            replace f6 := FK.out.X.free 6
            replace f7 := FK.out.X.free 7
            replace f8 := FK.out.X.free 8
            replace f9 := FK.out.X.free 9
            replace f10 := FK.out.X.free 10
            go_upto_region 14 with fail
            refine code_of (fun w2 => Hid (Fk B v zs w u3 (.slice oa k oc) k ds3 b0 ⟨{ b with label := 0 }, wa, wn, la, lc, xa, xc⟩ w2)) (Lib.hid (FK.out.set 1 (.int .i64 0) ⟨{ b with label := 0 }, wa, wn, la, lc, xa, xc⟩ rfl (fun S h => h))) ?_
            clear FK xl x0 f0 x1 f1 x2 f2 x3 f3 x4 f4 x5 f5 x6 f6 x7 f7 x8 f8 x9 f9 x10 f10
            intro w2 FK
            replace FK : Hid (Fk B v zs w u3 (.slice oa k oc) k ds3 b0 ⟨{ b with label := 0 }, wa, wn, la, lc, xa, xc⟩ w2) := FK
            replace xl := FK.out.X.lt
            try clear x0 x1 x2 x3 x4 x5 x6 x7 x8 x9 x10
            obtain ⟨x0, x1, x2, x3, x4, x5, x6, x7, x8, x9, x10⟩ := FK.out.cells
            try dsimp only at x0 x1 x2 x3 x4 x5 x6 x7 x8 x9 x10
            replace f0 := FK.out.X.free 0
            replace f1 := FK.out.X.free 1
            replace f2 := FK.out.X.free 2
            replace f3 := FK.out.X.free 3
            replace f4 := FK.out.X.free 4
            replace f5 := FK.out.X.free 5
            replace f6 := FK.out.X.free 6
            replace f7 := FK.out.X.free 7
            replace f8 := FK.out.X.free 8
            replace f9 := FK.out.X.free 9
            replace f10 := FK.out.X.free 10
            go_upto_if 33 with (go_at_call 29; with_reducible refine (C.out _ (by decide) (by decide) _ (FK.out.kept (show Qw _ _ by repeat (first | exact Qw.refl _ | refine Qw.al ?_ _ | refine Qw.dr ?_ | refine Qw.dn ?_ _))).F.T).mono ?_; rintro e w' ⟨r2, rfl, r20, r21, tp, q⟩; replace FK := Lib.hid ((FK.out.kept (show Qw _ _ by repeat (first | exact Qw.refl _ | refine Qw.al ?_ _ | refine Qw.dr ?_ | refine Qw.dn ?_ _))).px tp q); clear tp q; replace xl := FK.out.X.lt; try clear x0 x1 x2 x3 x4 x5 x6 x7 x8 x9 x10; obtain ⟨x0, x1, x2, x3, x4, x5, x6, x7, x8, x9, x10⟩ := FK.out.cells; try dsimp only at x0 x1 x2 x3 x4 x5 x6 x7 x8 x9 x10; replace f0 := FK.out.X.free 0; replace f1 := FK.out.X.free 1; replace f2 := FK.out.X.free 2; replace f3 := FK.out.X.free 3; replace f4 := FK.out.X.free 4; replace f5 := FK.out.X.free 5; replace f6 := FK.out.X.free 6; replace f7 := FK.out.X.free 7; replace f8 := FK.out.X.free 8; replace f9 := FK.out.X.free 9; replace f10 := FK.out.X.free 10)
            go_cut [] (fun wx => ∃ c : Sy.Bl, Sy.Fwn c ∧ (c.kind = 2 → c.x.op = 0) ∧ (c.kind = 3 → c.left.op = 0) ∧ (c.label = 0 ∨ c.label = lab2 + 1) ∧ Hid (Fk B v zs w u3 (.slice oa k oc) k ds3 b0 ⟨c, wa, wn, la, lc, xa, xc⟩ wx))
            case first =>
              go_wp2_with fail
              · go_meet
                exact ⟨{ b with label := lab2 + 1 }, DW.out.lab _ (by omega), DW.out.k2, DW.out.k3, .inr rfl, Lib.hid (FK.out.set 1 (.int .i64 (lab2 + 1)) ⟨{ b with label := lab2 + 1 }, wa, wn, la, lc, xa, xc⟩ rfl (fun S h => h))⟩
              · go_meet
                exact ⟨{ b with label := 0 }, DW.out.lab _ (by omega), DW.out.k2, DW.out.k3, .inl rfl, FK⟩
            case rest =>
              clear FK DW xl x0 f0 x1 f1 x2 f2 x3 f3 x4 f4 x5 f5 x6 f6 x7 f7 x8 f8 x9 f9 x10 f10
              obtain ⟨c, FW, k2, k3, hlb, FK⟩ := hcut
              replace xl := FK.out.X.lt
              try clear x0 x1 x2 x3 x4 x5 x6 x7 x8 x9 x10
              obtain ⟨x0, x1, x2, x3, x4, x5, x6, x7, x8, x9, x10⟩ := FK.out.cells
              try dsimp only at x0 x1 x2 x3 x4 x5 x6 x7 x8 x9 x10
              replace f0 := FK.out.X.free 0
              replace f1 := FK.out.X.free 1
              replace f2 := FK.out.X.free 2
              replace f3 := FK.out.X.free 3
              replace f4 := FK.out.X.free 4
              replace f5 := FK.out.X.free 5
              replace f6 := FK.out.X.free 6
              replace f7 := FK.out.X.free 7
              replace f8 := FK.out.X.free 8
              replace f9 := FK.out.X.free 9
              replace f10 := FK.out.X.free 10
              by_cases h6 : c.kind = 6
              · have e6 : (c.kind == 6) = true := by simp [h6]
                replace h6 := Lib.hid h6
                go_upto_region 34 with fail
                refine code_of (fun w2 => Hid (Fk B v zs w u3 (.slice oa k oc) k ds3 b0 zeB w2)) (Lib.hid (FK.out.put FK.out.F.T (Px.refl B _) (d' := zeB) (bib_z ⟨rfl, rfl, rfl⟩ ⟨rfl, rfl, rfl, rfl, rfl, rfl⟩))) ?_
                clear FK xl x0 f0 x1 f1 x2 f2 x3 f3 x4 f4 x5 f5 x6 f6 x7 f7 x8 f8 x9 f9 x10 f10
                intro w2 FK
                replace FK : Hid (Fk B v zs w u3 (.slice oa k oc) k ds3 b0 zeB w2) := FK
                replace xl := FK.out.X.lt
                try clear x0 x1 x2 x3 x4 x5 x6 x7 x8 x9 x10
                obtain ⟨x0, x1, x2, x3, x4, x5, x6, x7, x8, x9, x10⟩ := FK.out.cells
                try dsimp only at x0 x1 x2 x3 x4 x5 x6 x7 x8 x9 x10
                replace f0 := FK.out.X.free 0
                replace f1 := FK.out.X.free 1
                replace f2 := FK.out.X.free 2
                replace f3 := FK.out.X.free 3
                replace f4 := FK.out.X.free 4
                replace f5 := FK.out.X.free 5
                replace f6 := FK.out.X.free 6
                replace f7 := FK.out.X.free 7
                replace f8 := FK.out.X.free 8
                replace f9 := FK.out.X.free 9
                replace f10 := FK.out.X.free 10
                go_wp2_with (at_builtin; refine block_append 95 97 zeB w.heap.size u3 ds3 _ (by rfl) (by rfl) (Bx.new _ _ _) (FK.out.kept ((Qw.refl _).al _)).F.O (by omega) (by have := FK.out.F.q.size; simp; omega) ?_; intro v' w9 ho hg hn'; have FJ := Lib.hid ((FK.out.kept ((Qw.refl _).al _)).app ho hg hn'); clear ho hg hn')
                go_roundg (n - 1).toNat
                case measure => omega
                case rel => exact ⟨lab2 + 1, n - 1, k, oa, oc, ds3 ++ [zeB], rfl, (by first | rfl | go_num), (by first | rfl | go_num), rfl, by omega, by omega, by omega, by omega, by simp; omega, FJ, Lib.hid (FX.out.app Sy.fwn_zero (fun s hs => hs.plain (b := zeB.b) ⟨by decide, by decide, by decide⟩ (.inl rfl) l0 Sy.fwn_zero.v))⟩
              · have e6 : (c.kind == 6) = false := beq_eq_false_iff_ne.2 h6
                by_cases h4 : c.kind = 4
                · have e4 : (c.kind == 4) = true := by simp [h4]
                  replace h4 := Lib.hid h4
                  have hk4 : k = 3 ∨ k = 0 ∨ k = 1 ∨ k = 2 := by omega
                  rcases hk4 with rfl | rfl | rfl | rfl
                  · go_wp2_with fail
                    go_roundg (n - 1).toNat
                    case measure => omega
                    case rel => exact ⟨lab2 + 1, n - 1, 3, oa, oc, ds3, rfl, (by first | rfl | go_num), (by first | rfl | go_num), rfl, by omega, by omega, by omega, by omega, by omega, Lib.hid FK.out.F, Lib.hid (FX.out.skip (by omega))⟩
                  · go_upto_region 23 with fail
                    refine code_of (fun w2 => Hid (Fk B v zs w u3 (.slice oa 0 oc) 0 ds3 b0 ⟨{ c with n := 1 }, wa, wn, la, lc, xa, xc⟩ w2)) (Lib.hid (FK.out.set 10 (.int .i64 1) ⟨{ c with n := 1 }, wa, wn, la, lc, xa, xc⟩ rfl (fun S h => h))) ?_
                    clear FK xl x0 f0 x1 f1 x2 f2 x3 f3 x4 f4 x5 f5 x6 f6 x7 f7 x8 f8 x9 f9 x10 f10
                    intro w2 FK
                    replace FK : Hid (Fk B v zs w u3 (.slice oa 0 oc) 0 ds3 b0 ⟨{ c with n := 1 }, wa, wn, la, lc, xa, xc⟩ w2) := FK
                    replace xl := FK.out.X.lt
                    try clear x0 x1 x2 x3 x4 x5 x6 x7 x8 x9 x10
                    obtain ⟨x0, x1, x2, x3, x4, x5, x6, x7, x8, x9, x10⟩ := FK.out.cells
                    try dsimp only at x0 x1 x2 x3 x4 x5 x6 x7 x8 x9 x10
                    replace f0 := FK.out.X.free 0
                    replace f1 := FK.out.X.free 1
                    replace f2 := FK.out.X.free 2
                    replace f3 := FK.out.X.free 3
                    replace f4 := FK.out.X.free 4
                    replace f5 := FK.out.X.free 5
                    replace f6 := FK.out.X.free 6
                    replace f7 := FK.out.X.free 7
                    replace f8 := FK.out.X.free 8
                    replace f9 := FK.out.X.free 9
                    replace f10 := FK.out.X.free 10
                    go_wp2_with (first
                        | (at_builtin; refine int_append 50 53 1 w.heap.size _ (ups 0) _ (by rfl) (by rfl) (Bx.new _ _ _) (FK.out.kept ((Qw.refl _).al _)).F.N (by rw [ups_len]; decide) (by have := FK.out.F.q.size; simp; omega) ?_; intro v' w9 ho hg hn'; replace FK := Lib.hid ((FK.out.kept ((Qw.refl _).al _)).iapp (k := 0) ho hg hn'); clear ho hg hn'; replace xl := FK.out.X.lt; try clear x0 x1 x2 x3 x4 x5 x6 x7 x8 x9 x10; obtain ⟨x0, x1, x2, x3, x4, x5, x6, x7, x8, x9, x10⟩ := FK.out.cells; try dsimp only at x0 x1 x2 x3 x4 x5 x6 x7 x8 x9 x10; replace f0 := FK.out.X.free 0; replace f1 := FK.out.X.free 1; replace f2 := FK.out.X.free 2; replace f3 := FK.out.X.free 3; replace f4 := FK.out.X.free 4; replace f5 := FK.out.X.free 5; replace f6 := FK.out.X.free 6; replace f7 := FK.out.X.free 7; replace f8 := FK.out.X.free 8; replace f9 := FK.out.X.free 9; replace f10 := FK.out.X.free 10)
                        | (at_builtin; refine block_append 95 97 ⟨{ c with n := 1 }, wa, wn, la, lc, xa, xc⟩ w.heap.size u3 ds3 _ (by rfl) (by rfl) (Bx.new _ _ _) (FK.out.kept ((Qw.refl _).al _)).F.O (by omega) (by have := FK.out.F.q.size; simp; omega) ?_; intro v'' w9 ho hg hn'; have FJ := Lib.hid ((FK.out.kept ((Qw.refl _).al _)).app ho hg hn'); clear ho hg hn'))
                    obtain ⟨oa', oc', rfl, _, _, _⟩ := FJ.out.N.form
                    go_roundg (n - 1).toNat
                    case measure => omega
                    case rel => exact ⟨lab2 + 1, n - 1, 1, oa', oc', ds3 ++ [⟨{ c with n := 1 }, wa, wn, la, lc, xa, xc⟩], rfl, (by first | rfl | go_num), (by first | rfl | go_num), (by rw [ups_len]), by omega, by omega, by omega, by omega, by simp; omega, Lib.hid (by have := FJ.out; rw [ups_len] at this; exact this), Lib.hid (FX.out.app (FW.loop (.inl h4.out) (by decide) (by decide)) (fun s hs => hs.while_ (b := { c with n := 1 }) h4.out rfl hlb l0 (FW.loop (.inl h4.out) (by decide) (by decide)).v))⟩
                  · go_upto_region 23 with fail
                    refine code_of (fun w2 => Hid (Fk B v zs w u3 (.slice oa 1 oc) 1 ds3 b0 ⟨{ c with n := 2 }, wa, wn, la, lc, xa, xc⟩ w2)) (Lib.hid (FK.out.set 10 (.int .i64 2) ⟨{ c with n := 2 }, wa, wn, la, lc, xa, xc⟩ rfl (fun S h => h))) ?_
                    clear FK xl x0 f0 x1 f1 x2 f2 x3 f3 x4 f4 x5 f5 x6 f6 x7 f7 x8 f8 x9 f9 x10 f10
                    intro w2 FK
                    replace FK : Hid (Fk B v zs w u3 (.slice oa 1 oc) 1 ds3 b0 ⟨{ c with n := 2 }, wa, wn, la, lc, xa, xc⟩ w2) := FK
                    replace xl := FK.out.X.lt
                    try clear x0 x1 x2 x3 x4 x5 x6 x7 x8 x9 x10
                    obtain ⟨x0, x1, x2, x3, x4, x5, x6, x7, x8, x9, x10⟩ := FK.out.cells
                    try dsimp only at x0 x1 x2 x3 x4 x5 x6 x7 x8 x9 x10
                    replace f0 := FK.out.X.free 0
                    replace f1 := FK.out.X.free 1
                    replace f2 := FK.out.X.free 2
                    replace f3 := FK.out.X.free 3
                    replace f4 := FK.out.X.free 4
                    replace f5 := FK.out.X.free 5
                    replace f6 := FK.out.X.free 6
                    replace f7 := FK.out.X.free 7
                    replace f8 := FK.out.X.free 8
                    replace f9 := FK.out.X.free 9
                    replace f10 := FK.out.X.free 10
                    go_wp2_with (first
                        | (at_builtin; refine int_append 50 53 2 w.heap.size _ (ups 1) _ (by rfl) (by rfl) (Bx.new _ _ _) (FK.out.kept ((Qw.refl _).al _)).F.N (by rw [ups_len]; decide) (by have := FK.out.F.q.size; simp; omega) ?_; intro v' w9 ho hg hn'; replace FK := Lib.hid ((FK.out.kept ((Qw.refl _).al _)).iapp (k := 1) ho hg hn'); clear ho hg hn'; replace xl := FK.out.X.lt; try clear x0 x1 x2 x3 x4 x5 x6 x7 x8 x9 x10; obtain ⟨x0, x1, x2, x3, x4, x5, x6, x7, x8, x9, x10⟩ := FK.out.cells; try dsimp only at x0 x1 x2 x3 x4 x5 x6 x7 x8 x9 x10; replace f0 := FK.out.X.free 0; replace f1 := FK.out.X.free 1; replace f2 := FK.out.X.free 2; replace f3 := FK.out.X.free 3; replace f4 := FK.out.X.free 4; replace f5 := FK.out.X.free 5; replace f6 := FK.out.X.free 6; replace f7 := FK.out.X.free 7; replace f8 := FK.out.X.free 8; replace f9 := FK.out.X.free 9; replace f10 := FK.out.X.free 10)
                        | (at_builtin; refine block_append 95 97 ⟨{ c with n := 2 }, wa, wn, la, lc, xa, xc⟩ w.heap.size u3 ds3 _ (by rfl) (by rfl) (Bx.new _ _ _) (FK.out.kept ((Qw.refl _).al _)).F.O (by omega) (by have := FK.out.F.q.size; simp; omega) ?_; intro v'' w9 ho hg hn'; have FJ := Lib.hid ((FK.out.kept ((Qw.refl _).al _)).app ho hg hn'); clear ho hg hn'))
                    obtain ⟨oa', oc', rfl, _, _, _⟩ := FJ.out.N.form
                    go_roundg (n - 1).toNat
                    case measure => omega
                    case rel => exact ⟨lab2 + 1, n - 1, 2, oa', oc', ds3 ++ [⟨{ c with n := 2 }, wa, wn, la, lc, xa, xc⟩], rfl, (by first | rfl | go_num), (by first | rfl | go_num), (by rw [ups_len]), by omega, by omega, by omega, by omega, by simp; omega, Lib.hid (by have := FJ.out; rw [ups_len] at this; exact this), Lib.hid (FX.out.app (FW.loop (.inl h4.out) (by decide) (by decide)) (fun s hs => hs.while_ (b := { c with n := 2 }) h4.out rfl hlb l0 (FW.loop (.inl h4.out) (by decide) (by decide)).v))⟩
                  · go_upto_region 23 with fail
                    refine code_of (fun w2 => Hid (Fk B v zs w u3 (.slice oa 2 oc) 2 ds3 b0 ⟨{ c with n := 3 }, wa, wn, la, lc, xa, xc⟩ w2)) (Lib.hid (FK.out.set 10 (.int .i64 3) ⟨{ c with n := 3 }, wa, wn, la, lc, xa, xc⟩ rfl (fun S h => h))) ?_
                    clear FK xl x0 f0 x1 f1 x2 f2 x3 f3 x4 f4 x5 f5 x6 f6 x7 f7 x8 f8 x9 f9 x10 f10
                    intro w2 FK
                    replace FK : Hid (Fk B v zs w u3 (.slice oa 2 oc) 2 ds3 b0 ⟨{ c with n := 3 }, wa, wn, la, lc, xa, xc⟩ w2) := FK
                    replace xl := FK.out.X.lt
                    try clear x0 x1 x2 x3 x4 x5 x6 x7 x8 x9 x10
                    obtain ⟨x0, x1, x2, x3, x4, x5, x6, x7, x8, x9, x10⟩ := FK.out.cells
                    try dsimp only at x0 x1 x2 x3 x4 x5 x6 x7 x8 x9 x10
                    replace f0 := FK.out.X.free 0
                    replace f1 := FK.out.X.free 1
                    replace f2 := FK.out.X.free 2
                    replace f3 := FK.out.X.free 3
                    replace f4 := FK.out.X.free 4
                    replace f5 := FK.out.X.free 5
                    replace f6 := FK.out.X.free 6
                    replace f7 := FK.out.X.free 7
                    replace f8 := FK.out.X.free 8
                    replace f9 := FK.out.X.free 9
                    replace f10 := FK.out.X.free 10
                    go_wp2_with (first
                        | (at_builtin; refine int_append 50 53 3 w.heap.size _ (ups 2) _ (by rfl) (by rfl) (Bx.new _ _ _) (FK.out.kept ((Qw.refl _).al _)).F.N (by rw [ups_len]; decide) (by have := FK.out.F.q.size; simp; omega) ?_; intro v' w9 ho hg hn'; replace FK := Lib.hid ((FK.out.kept ((Qw.refl _).al _)).iapp (k := 2) ho hg hn'); clear ho hg hn'; replace xl := FK.out.X.lt; try clear x0 x1 x2 x3 x4 x5 x6 x7 x8 x9 x10; obtain ⟨x0, x1, x2, x3, x4, x5, x6, x7, x8, x9, x10⟩ := FK.out.cells; try dsimp only at x0 x1 x2 x3 x4 x5 x6 x7 x8 x9 x10; replace f0 := FK.out.X.free 0; replace f1 := FK.out.X.free 1; replace f2 := FK.out.X.free 2; replace f3 := FK.out.X.free 3; replace f4 := FK.out.X.free 4; replace f5 := FK.out.X.free 5; replace f6 := FK.out.X.free 6; replace f7 := FK.out.X.free 7; replace f8 := FK.out.X.free 8; replace f9 := FK.out.X.free 9; replace f10 := FK.out.X.free 10)
                        | (at_builtin; refine block_append 95 97 ⟨{ c with n := 3 }, wa, wn, la, lc, xa, xc⟩ w.heap.size u3 ds3 _ (by rfl) (by rfl) (Bx.new _ _ _) (FK.out.kept ((Qw.refl _).al _)).F.O (by omega) (by have := FK.out.F.q.size; simp; omega) ?_; intro v'' w9 ho hg hn'; have FJ := Lib.hid ((FK.out.kept ((Qw.refl _).al _)).app ho hg hn'); clear ho hg hn'))
                    obtain ⟨oa', oc', rfl, _, _, _⟩ := FJ.out.N.form
                    go_roundg (n - 1).toNat
                    case measure => omega
                    case rel => exact ⟨lab2 + 1, n - 1, 3, oa', oc', ds3 ++ [⟨{ c with n := 3 }, wa, wn, la, lc, xa, xc⟩], rfl, (by first | rfl | go_num), (by first | rfl | go_num), (by rw [ups_len]), by omega, by omega, by omega, by omega, by simp; omega, Lib.hid (by have := FJ.out; rw [ups_len] at this; exact this), Lib.hid (FX.out.app (FW.loop (.inl h4.out) (by decide) (by decide)) (fun s hs => hs.while_ (b := { c with n := 3 }) h4.out rfl hlb l0 (FW.loop (.inl h4.out) (by decide) (by decide)).v))⟩
                · have e4 : (c.kind == 4) = false := beq_eq_false_iff_ne.2 h4
                  by_cases h5 : c.kind = 5
                  · have e5 : (c.kind == 5) = true := by simp [h5]
                    replace h5 := Lib.hid h5
                    have hk5 : k = 0 ∨ k = 1 ∨ k = 2 ∨ k = 3 := by omega
                    rcases hk5 with rfl | rfl | rfl | rfl
                    · go_wp2_with fail
                      go_roundg (n - 1).toNat
                      case measure => omega
                      case rel => exact ⟨lab2 + 1, n - 1, 0, oa, oc, ds3, rfl, (by first | rfl | go_num), (by first | rfl | go_num), rfl, by omega, by omega, by omega, by omega, by omega, Lib.hid FK.out.F, Lib.hid (FX.out.skip (by omega))⟩
                    · obtain ⟨g, cap, e, hc1, hc2, gl, gb, hcell, FC⟩ := Fk.cut (k := 0) FK.out
                      obtain ⟨rfl, rfl⟩ : oa = some ⟨g, 0, none⟩ ∧ oc = cap := by injection e with e1 e2 e3; exact ⟨e1, e3⟩
                      replace FK := Lib.hid FC
                      have hc0 : ((0 : Nat) : Int) + 1 ≤ (oc : Int) := by omega
                      have z0 := hcell _ rfl
                      clear FC hcell e
                      go_upto_region 27 with fail
                      refine code_of (fun w2 => Hid (Fk B v zs w u3 (.slice (some ⟨g, 0, none⟩) 0 oc) 0 ds3 b0 ⟨{ c with n := ((0 : Nat) : Int) + 1 }, wa, wn, la, lc, xa, xc⟩ w2)) (Lib.hid (FK.out.set 10 (.int .i64 (((0 : Nat) : Int) + 1)) ⟨{ c with n := ((0 : Nat) : Int) + 1 }, wa, wn, la, lc, xa, xc⟩ rfl (fun S h => h))) ?_
                      clear FK xl x0 f0 x1 f1 x2 f2 x3 f3 x4 f4 x5 f5 x6 f6 x7 f7 x8 f8 x9 f9 x10 f10
                      intro w2 FK
                      replace FK : Hid (Fk B v zs w u3 (.slice (some ⟨g, 0, none⟩) 0 oc) 0 ds3 b0 ⟨{ c with n := ((0 : Nat) : Int) + 1 }, wa, wn, la, lc, xa, xc⟩ w2) := FK
                      replace xl := FK.out.X.lt
                      try clear x0 x1 x2 x3 x4 x5 x6 x7 x8 x9 x10
                      obtain ⟨x0, x1, x2, x3, x4, x5, x6, x7, x8, x9, x10⟩ := FK.out.cells
                      try dsimp only at x0 x1 x2 x3 x4 x5 x6 x7 x8 x9 x10
                      replace f0 := FK.out.X.free 0
                      replace f1 := FK.out.X.free 1
                      replace f2 := FK.out.X.free 2
                      replace f3 := FK.out.X.free 3
                      replace f4 := FK.out.X.free 4
                      replace f5 := FK.out.X.free 5
                      replace f6 := FK.out.X.free 6
                      replace f7 := FK.out.X.free 7
                      replace f8 := FK.out.X.free 8
                      replace f9 := FK.out.X.free 9
                      replace f10 := FK.out.X.free 10
                      go_wp2_with (at_builtin; refine block_append 95 97 ⟨{ c with n := ((0 : Nat) : Int) + 1 }, wa, wn, la, lc, xa, xc⟩ w.heap.size u3 ds3 _ (by rfl) (by rfl) (Bx.new _ _ _) (FK.out.kept ((Qw.refl _).al _)).F.O (by omega) (by have := FK.out.F.q.size; simp; omega) ?_; intro v' w9 ho hg hn'; have FJ := Lib.hid ((FK.out.kept ((Qw.refl _).al _)).app ho hg hn'); clear ho hg hn')
                      go_roundg (n - 1).toNat
                      case measure => omega
                      case rel => exact ⟨lab2 + 1, n - 1, 0, some ⟨g, 0, none⟩, oc, ds3 ++ [⟨{ c with n := ((0 : Nat) : Int) + 1 }, wa, wn, la, lc, xa, xc⟩], rfl, (by first | rfl | go_num), (by first | rfl | go_num), rfl, by omega, by omega, by omega, by omega, by simp; omega, FJ, Lib.hid (FX.out.app (FW.loop (.inr h5.out) (by decide) (by decide)) (fun s hs => hs.end_ (b := { c with n := ((0 : Nat) : Int) + 1 }) h5.out rfl hlb l0 (FW.loop (.inr h5.out) (by decide) (by decide)).v))⟩
                    · obtain ⟨g, cap, e, hc1, hc2, gl, gb, hcell, FC⟩ := Fk.cut (k := 1) FK.out
                      obtain ⟨rfl, rfl⟩ : oa = some ⟨g, 0, none⟩ ∧ oc = cap := by injection e with e1 e2 e3; exact ⟨e1, e3⟩
                      replace FK := Lib.hid FC
                      have hc0 : ((1 : Nat) : Int) + 1 ≤ (oc : Int) := by omega
                      have z0 := hcell _ rfl
                      clear FC hcell e
                      go_upto_region 27 with fail
                      refine code_of (fun w2 => Hid (Fk B v zs w u3 (.slice (some ⟨g, 0, none⟩) 1 oc) 1 ds3 b0 ⟨{ c with n := ((1 : Nat) : Int) + 1 }, wa, wn, la, lc, xa, xc⟩ w2)) (Lib.hid (FK.out.set 10 (.int .i64 (((1 : Nat) : Int) + 1)) ⟨{ c with n := ((1 : Nat) : Int) + 1 }, wa, wn, la, lc, xa, xc⟩ rfl (fun S h => h))) ?_
                      clear FK xl x0 f0 x1 f1 x2 f2 x3 f3 x4 f4 x5 f5 x6 f6 x7 f7 x8 f8 x9 f9 x10 f10
                      intro w2 FK
                      replace FK : Hid (Fk B v zs w u3 (.slice (some ⟨g, 0, none⟩) 1 oc) 1 ds3 b0 ⟨{ c with n := ((1 : Nat) : Int) + 1 }, wa, wn, la, lc, xa, xc⟩ w2) := FK
                      replace xl := FK.out.X.lt
                      try clear x0 x1 x2 x3 x4 x5 x6 x7 x8 x9 x10
                      obtain ⟨x0, x1, x2, x3, x4, x5, x6, x7, x8, x9, x10⟩ := FK.out.cells
                      try dsimp only at x0 x1 x2 x3 x4 x5 x6 x7 x8 x9 x10
                      replace f0 := FK.out.X.free 0
                      replace f1 := FK.out.X.free 1
                      replace f2 := FK.out.X.free 2
                      replace f3 := FK.out.X.free 3
                      replace f4 := FK.out.X.free 4
                      replace f5 := FK.out.X.free 5
                      replace f6 := FK.out.X.free 6
                      replace f7 := FK.out.X.free 7
                      replace f8 := FK.out.X.free 8
                      replace f9 := FK.out.X.free 9
                      replace f10 := FK.out.X.free 10
                      go_wp2_with (at_builtin; refine block_append 95 97 ⟨{ c with n := ((1 : Nat) : Int) + 1 }, wa, wn, la, lc, xa, xc⟩ w.heap.size u3 ds3 _ (by rfl) (by rfl) (Bx.new _ _ _) (FK.out.kept ((Qw.refl _).al _)).F.O (by omega) (by have := FK.out.F.q.size; simp; omega) ?_; intro v' w9 ho hg hn'; have FJ := Lib.hid ((FK.out.kept ((Qw.refl _).al _)).app ho hg hn'); clear ho hg hn')
                      go_roundg (n - 1).toNat
                      case measure => omega
                      case rel => exact ⟨lab2 + 1, n - 1, 1, some ⟨g, 0, none⟩, oc, ds3 ++ [⟨{ c with n := ((1 : Nat) : Int) + 1 }, wa, wn, la, lc, xa, xc⟩], rfl, (by first | rfl | go_num), (by first | rfl | go_num), rfl, by omega, by omega, by omega, by omega, by simp; omega, FJ, Lib.hid (FX.out.app (FW.loop (.inr h5.out) (by decide) (by decide)) (fun s hs => hs.end_ (b := { c with n := ((1 : Nat) : Int) + 1 }) h5.out rfl hlb l0 (FW.loop (.inr h5.out) (by decide) (by decide)).v))⟩
                    · obtain ⟨g, cap, e, hc1, hc2, gl, gb, hcell, FC⟩ := Fk.cut (k := 2) FK.out
                      obtain ⟨rfl, rfl⟩ : oa = some ⟨g, 0, none⟩ ∧ oc = cap := by injection e with e1 e2 e3; exact ⟨e1, e3⟩
                      replace FK := Lib.hid FC
                      have hc0 : ((2 : Nat) : Int) + 1 ≤ (oc : Int) := by omega
                      have z0 := hcell _ rfl
                      clear FC hcell e
                      go_upto_region 27 with fail
                      refine code_of (fun w2 => Hid (Fk B v zs w u3 (.slice (some ⟨g, 0, none⟩) 2 oc) 2 ds3 b0 ⟨{ c with n := ((2 : Nat) : Int) + 1 }, wa, wn, la, lc, xa, xc⟩ w2)) (Lib.hid (FK.out.set 10 (.int .i64 (((2 : Nat) : Int) + 1)) ⟨{ c with n := ((2 : Nat) : Int) + 1 }, wa, wn, la, lc, xa, xc⟩ rfl (fun S h => h))) ?_
                      clear FK xl x0 f0 x1 f1 x2 f2 x3 f3 x4 f4 x5 f5 x6 f6 x7 f7 x8 f8 x9 f9 x10 f10
                      intro w2 FK
                      replace FK : Hid (Fk B v zs w u3 (.slice (some ⟨g, 0, none⟩) 2 oc) 2 ds3 b0 ⟨{ c with n := ((2 : Nat) : Int) + 1 }, wa, wn, la, lc, xa, xc⟩ w2) := FK
                      replace xl := FK.out.X.lt
                      try clear x0 x1 x2 x3 x4 x5 x6 x7 x8 x9 x10
                      obtain ⟨x0, x1, x2, x3, x4, x5, x6, x7, x8, x9, x10⟩ := FK.out.cells
                      try dsimp only at x0 x1 x2 x3 x4 x5 x6 x7 x8 x9 x10
                      replace f0 := FK.out.X.free 0
                      replace f1 := FK.out.X.free 1
                      replace f2 := FK.out.X.free 2
                      replace f3 := FK.out.X.free 3
                      replace f4 := FK.out.X.free 4
                      replace f5 := FK.out.X.free 5
                      replace f6 := FK.out.X.free 6
                      replace f7 := FK.out.X.free 7
                      replace f8 := FK.out.X.free 8
                      replace f9 := FK.out.X.free 9
                      replace f10 := FK.out.X.free 10
                      go_wp2_with (at_builtin; refine block_append 95 97 ⟨{ c with n := ((2 : Nat) : Int) + 1 }, wa, wn, la, lc, xa, xc⟩ w.heap.size u3 ds3 _ (by rfl) (by rfl) (Bx.new _ _ _) (FK.out.kept ((Qw.refl _).al _)).F.O (by omega) (by have := FK.out.F.q.size; simp; omega) ?_; intro v' w9 ho hg hn'; have FJ := Lib.hid ((FK.out.kept ((Qw.refl _).al _)).app ho hg hn'); clear ho hg hn')
                      go_roundg (n - 1).toNat
                      case measure => omega
                      case rel => exact ⟨lab2 + 1, n - 1, 2, some ⟨g, 0, none⟩, oc, ds3 ++ [⟨{ c with n := ((2 : Nat) : Int) + 1 }, wa, wn, la, lc, xa, xc⟩], rfl, (by first | rfl | go_num), (by first | rfl | go_num), rfl, by omega, by omega, by omega, by omega, by simp; omega, FJ, Lib.hid (FX.out.app (FW.loop (.inr h5.out) (by decide) (by decide)) (fun s hs => hs.end_ (b := { c with n := ((2 : Nat) : Int) + 1 }) h5.out rfl hlb l0 (FW.loop (.inr h5.out) (by decide) (by decide)).v))⟩
                  · have e5 : (c.kind == 5) = false := beq_eq_false_iff_ne.2 h5
                    by_cases h2 : c.kind = 2
                    · have e2 : (c.kind == 2) = true := by simp [h2]
                      replace h2 := Lib.hid h2
                      go_upto_region 34 with (go_at_call 33; with_reducible refine (RG.out _ _ ?_ ?_ ?_ _ (FK.out.kept (show Qw _ _ by repeat (first | exact Qw.refl _ | refine Qw.al ?_ _ | refine Qw.dr ?_ | refine Qw.dn ?_ _))).F.T).mono ?_; omega; omega; omega; rintro e w' ⟨m, rfl, m0, m1, tp, q⟩; replace FK := Lib.hid ((FK.out.kept (show Qw _ _ by repeat (first | exact Qw.refl _ | refine Qw.al ?_ _ | refine Qw.dr ?_ | refine Qw.dn ?_ _))).px tp q); clear tp q; replace xl := FK.out.X.lt; try clear x0 x1 x2 x3 x4 x5 x6 x7 x8 x9 x10; obtain ⟨x0, x1, x2, x3, x4, x5, x6, x7, x8, x9, x10⟩ := FK.out.cells; try dsimp only at x0 x1 x2 x3 x4 x5 x6 x7 x8 x9 x10; replace f0 := FK.out.X.free 0; replace f1 := FK.out.X.free 1; replace f2 := FK.out.X.free 2; replace f3 := FK.out.X.free 3; replace f4 := FK.out.X.free 4; replace f5 := FK.out.X.free 5; replace f6 := FK.out.X.free 6; replace f7 := FK.out.X.free 7; replace f8 := FK.out.X.free 8; replace f9 := FK.out.X.free 9; replace f10 := FK.out.X.free 10)
                      obtain ⟨m9, hx⟩ := Sy.num_of (Sy.okx_x2 FW.v h2.out) (k2 h2.out)
                      refine code_of (fun w2 => Hid (Fk B v zs w u3 (.slice oa k oc) k ds3 b0 ⟨{ c with x := Sy.num (m * 1000000) }, wa, wn, la, lc, xa, xc⟩ w2)) (Lib.hid (FK.out.set 8 (.int .i64 (m * 1000000)) ⟨{ c with x := Sy.num (m * 1000000) }, wa, wn, la, lc, xa, xc⟩ (by obtain ⟨ck, cl, cs, cw, cf, cx, cn⟩ := c; simp only at hx; subst hx; rfl) (fun S h => ⟨h.1, h.2.1, by have h9 := h.2.2; simp only at h9 hx ⊢; rw [hx] at h9; exact h9⟩))) ?_
                      clear FK xl x0 f0 x1 f1 x2 f2 x3 f3 x4 f4 x5 f5 x6 f6 x7 f7 x8 f8 x9 f9 x10 f10
                      intro w2 FK
                      replace FK : Hid (Fk B v zs w u3 (.slice oa k oc) k ds3 b0 ⟨{ c with x := Sy.num (m * 1000000) }, wa, wn, la, lc, xa, xc⟩ w2) := FK
                      replace xl := FK.out.X.lt
                      try clear x0 x1 x2 x3 x4 x5 x6 x7 x8 x9 x10
                      obtain ⟨x0, x1, x2, x3, x4, x5, x6, x7, x8, x9, x10⟩ := FK.out.cells
                      try dsimp only at x0 x1 x2 x3 x4 x5 x6 x7 x8 x9 x10
                      replace f0 := FK.out.X.free 0
                      replace f1 := FK.out.X.free 1
                      replace f2 := FK.out.X.free 2
                      replace f3 := FK.out.X.free 3
                      replace f4 := FK.out.X.free 4
                      replace f5 := FK.out.X.free 5
                      replace f6 := FK.out.X.free 6
                      replace f7 := FK.out.X.free 7
                      replace f8 := FK.out.X.free 8
                      replace f9 := FK.out.X.free 9
                      replace f10 := FK.out.X.free 10
                      go_wp2_with (at_builtin; refine block_append 95 97 ⟨{ c with x := Sy.num (m * 1000000) }, wa, wn, la, lc, xa, xc⟩ w.heap.size u3 ds3 _ (by rfl) (by rfl) (Bx.new _ _ _) (FK.out.kept ((Qw.refl _).al _)).F.O (by omega) (by have := FK.out.F.q.size; simp; omega) ?_; intro v' w9 ho hg hn'; have FJ := Lib.hid ((FK.out.kept ((Qw.refl _).al _)).app ho hg hn'); clear ho hg hn')
                      go_roundg (n - 1).toNat
                      case measure => omega
                      case rel => exact ⟨lab2 + 1, n - 1, k, oa, oc, ds3 ++ [⟨{ c with x := Sy.num (m * 1000000) }, wa, wn, la, lc, xa, xc⟩], rfl, (by first | rfl | go_num), (by first | rfl | go_num), rfl, by omega, by omega, by omega, by omega, by simp; omega, FJ, Lib.hid (FX.out.app (FW.goto_ h2.out (by omega) (by omega)) (fun s hs => hs.plain (b := { c with x := Sy.num (m * 1000000) }) ⟨by simp [h2.out], by simp [h2.out], by simp [h2.out]⟩ hlb l0 (FW.goto_ h2.out (by omega) (by omega)).v))⟩
                    · have e2 : (c.kind == 2) = false := beq_eq_false_iff_ne.2 h2
                      by_cases h3 : c.kind = 3
                      · have e3 : (c.kind == 3) = true := by simp [h3]
                        replace h3 := Lib.hid h3
                        go_upto_region 34 with (go_at_call 33; with_reducible refine (RG.out _ _ ?_ ?_ ?_ _ (FK.out.kept (show Qw _ _ by repeat (first | exact Qw.refl _ | refine Qw.al ?_ _ | refine Qw.dr ?_ | refine Qw.dn ?_ _))).F.T).mono ?_; omega; omega; omega; rintro e w' ⟨m, rfl, m0, m1, tp, q⟩; replace FK := Lib.hid ((FK.out.kept (show Qw _ _ by repeat (first | exact Qw.refl _ | refine Qw.al ?_ _ | refine Qw.dr ?_ | refine Qw.dn ?_ _))).px tp q); clear tp q; replace xl := FK.out.X.lt; try clear x0 x1 x2 x3 x4 x5 x6 x7 x8 x9 x10; obtain ⟨x0, x1, x2, x3, x4, x5, x6, x7, x8, x9, x10⟩ := FK.out.cells; try dsimp only at x0 x1 x2 x3 x4 x5 x6 x7 x8 x9 x10; replace f0 := FK.out.X.free 0; replace f1 := FK.out.X.free 1; replace f2 := FK.out.X.free 2; replace f3 := FK.out.X.free 3; replace f4 := FK.out.X.free 4; replace f5 := FK.out.X.free 5; replace f6 := FK.out.X.free 6; replace f7 := FK.out.X.free 7; replace f8 := FK.out.X.free 8; replace f9 := FK.out.X.free 9; replace f10 := FK.out.X.free 10)
                        obtain ⟨m9, hx⟩ := Sy.num_of (Sy.okx_l3 FW.v h3.out) (k3 h3.out)
                        refine code_of (fun w2 => Hid (Fk B v zs w u3 (.slice oa k oc) k ds3 b0 ⟨{ c with left := Sy.num (m * 1000000) }, wa, wn, la, lc, xa, xc⟩ w2)) (Lib.hid (FK.out.set 5 (.int .i64 (m * 1000000)) ⟨{ c with left := Sy.num (m * 1000000) }, wa, wn, la, lc, xa, xc⟩ (by obtain ⟨ck, cl, cs, cw, cf, cx, cn⟩ := c; simp only at hx; subst hx; rfl) (fun S h => ⟨h.1, by have h9 := h.2.1; simp only at h9 hx ⊢; rw [hx] at h9; exact h9, h.2.2⟩))) ?_
                        clear FK xl x0 f0 x1 f1 x2 f2 x3 f3 x4 f4 x5 f5 x6 f6 x7 f7 x8 f8 x9 f9 x10 f10
                        intro w2 FK
                        replace FK : Hid (Fk B v zs w u3 (.slice oa k oc) k ds3 b0 ⟨{ c with left := Sy.num (m * 1000000) }, wa, wn, la, lc, xa, xc⟩ w2) := FK
                        replace xl := FK.out.X.lt
                        try clear x0 x1 x2 x3 x4 x5 x6 x7 x8 x9 x10
                        obtain ⟨x0, x1, x2, x3, x4, x5, x6, x7, x8, x9, x10⟩ := FK.out.cells
                        try dsimp only at x0 x1 x2 x3 x4 x5 x6 x7 x8 x9 x10
                        replace f0 := FK.out.X.free 0
                        replace f1 := FK.out.X.free 1
                        replace f2 := FK.out.X.free 2
                        replace f3 := FK.out.X.free 3
                        replace f4 := FK.out.X.free 4
                        replace f5 := FK.out.X.free 5
                        replace f6 := FK.out.X.free 6
                        replace f7 := FK.out.X.free 7
                        replace f8 := FK.out.X.free 8
                        replace f9 := FK.out.X.free 9
                        replace f10 := FK.out.X.free 10
                        go_wp2_with (at_builtin; refine block_append 95 97 ⟨{ c with left := Sy.num (m * 1000000) }, wa, wn, la, lc, xa, xc⟩ w.heap.size u3 ds3 _ (by rfl) (by rfl) (Bx.new _ _ _) (FK.out.kept ((Qw.refl _).al _)).F.O (by omega) (by have := FK.out.F.q.size; simp; omega) ?_; intro v' w9 ho hg hn'; have FJ := Lib.hid ((FK.out.kept ((Qw.refl _).al _)).app ho hg hn'); clear ho hg hn')
                        go_roundg (n - 1).toNat
                        case measure => omega
                        case rel => exact ⟨lab2 + 1, n - 1, k, oa, oc, ds3 ++ [⟨{ c with left := Sy.num (m * 1000000) }, wa, wn, la, lc, xa, xc⟩], rfl, (by first | rfl | go_num), (by first | rfl | go_num), rfl, by omega, by omega, by omega, by omega, by simp; omega, FJ, Lib.hid (FX.out.app (FW.if_ h3.out (by omega) (by omega)) (fun s hs => hs.plain (b := { c with left := Sy.num (m * 1000000) }) ⟨by simp [h3.out], by simp [h3.out], by simp [h3.out]⟩ hlb l0 (FW.if_ h3.out (by omega) (by omega)).v))⟩
                      · have e3 : (c.kind == 3) = false := beq_eq_false_iff_ne.2 h3
                        by_cases h0 : c.kind = 0
                        · have e0 : (c.kind == 0) = true := by simp [h0]
                          replace h0 := Lib.hid h0
                          have cl := fun w1 (h : Fk B v zs w u3 (.slice oa k oc) k ds3 b0 ⟨c, wa, wn, la, lc, xa, xc⟩ w1) => calledC h FW h0.out
                          have CL := Lib.hid cl
                          clear cl
                          go_upto_region 34 with (go_at_call 34; with_reducible refine (CL.out _ (FK.out.kept (show Qw _ _ by repeat (first | exact Qw.refl _ | refine Qw.al ?_ _ | refine Qw.dr ?_ | refine Qw.dn ?_ _)))).mono ?_; rintro e w' ⟨c', wa', la', xa', wc', lc', xc', rfl, hp, hb, tp, q⟩; have FP := Lib.hid (Fk.put (FK.out.kept (show Qw _ _ by repeat (first | exact Qw.refl _ | refine Qw.al ?_ _ | refine Qw.dr ?_ | refine Qw.dn ?_ _))) tp q hb); replace FK := Lib.hid ((FK.out.kept (show Qw _ _ by repeat (first | exact Qw.refl _ | refine Qw.al ?_ _ | refine Qw.dr ?_ | refine Qw.dn ?_ _))).px tp q); have HP := Lib.hid hp; clear tp q hb hp; replace xl := FK.out.X.lt; try clear x0 x1 x2 x3 x4 x5 x6 x7 x8 x9 x10; obtain ⟨x0, x1, x2, x3, x4, x5, x6, x7, x8, x9, x10⟩ := FK.out.cells; try dsimp only at x0 x1 x2 x3 x4 x5 x6 x7 x8 x9 x10; replace f0 := FK.out.X.free 0; replace f1 := FK.out.X.free 1; replace f2 := FK.out.X.free 2; replace f3 := FK.out.X.free 3; replace f4 := FK.out.X.free 4; replace f5 := FK.out.X.free 5; replace f6 := FK.out.X.free 6; replace f7 := FK.out.X.free 7; replace f8 := FK.out.X.free 8; replace f9 := FK.out.X.free 9; replace f10 := FK.out.X.free 10)
                          have D' := HP
                          refine code_of (fun w2 => Hid (Fk B v zs w u3 (.slice oa k oc) k ds3 b0 ⟨c', wa', wc', la', lc', xa', xc'⟩ w2)) (Lib.hid FP.out) ?_
                          clear FK xl x0 f0 x1 f1 x2 f2 x3 f3 x4 f4 x5 f5 x6 f6 x7 f7 x8 f8 x9 f9 x10 f10
                          intro w2 FK
                          replace FK : Hid (Fk B v zs w u3 (.slice oa k oc) k ds3 b0 ⟨c', wa', wc', la', lc', xa', xc'⟩ w2) := FK
                          replace xl := FK.out.X.lt
                          try clear x0 x1 x2 x3 x4 x5 x6 x7 x8 x9 x10
                          obtain ⟨x0, x1, x2, x3, x4, x5, x6, x7, x8, x9, x10⟩ := FK.out.cells
                          try dsimp only at x0 x1 x2 x3 x4 x5 x6 x7 x8 x9 x10
                          replace f0 := FK.out.X.free 0
                          replace f1 := FK.out.X.free 1
                          replace f2 := FK.out.X.free 2
                          replace f3 := FK.out.X.free 3
                          replace f4 := FK.out.X.free 4
                          replace f5 := FK.out.X.free 5
                          replace f6 := FK.out.X.free 6
                          replace f7 := FK.out.X.free 7
                          replace f8 := FK.out.X.free 8
                          replace f9 := FK.out.X.free 9
                          replace f10 := FK.out.X.free 10
                          go_wp2_with (at_builtin; refine block_append 95 97 ⟨c', wa', wc', la', lc', xa', xc'⟩ w.heap.size u3 ds3 _ (by rfl) (by rfl) (Bx.new _ _ _) (FK.out.kept ((Qw.refl _).al _)).F.O (by omega) (by have := FK.out.F.q.size; simp; omega) ?_; intro v' w9 ho hg hn'; have FJ := Lib.hid ((FK.out.kept ((Qw.refl _).al _)).app ho hg hn'); clear ho hg hn')
                          go_roundg (n - 1).toNat
                          case measure => omega
                          case rel => exact ⟨lab2 + 1, n - 1, k, oa, oc, ds3 ++ [⟨c', wa', wc', la', lc', xa', xc'⟩], rfl, (by first | rfl | go_num), (by first | rfl | go_num), rfl, by omega, by omega, by omega, by omega, by simp; omega, FJ, Lib.hid (FX.out.app HP.out.1 (fun s hs => hs.plain (b := c') (by have := HP.out.2.1; omega) (by have := HP.out.2.2; rw [this]; exact hlb) l0 HP.out.1.v))⟩
                        · have e0 : (c.kind == 0) = false := beq_eq_false_iff_ne.2 h0
                          go_wp2_with (at_builtin; refine block_append 95 97 ⟨c, wa, wn, la, lc, xa, xc⟩ w.heap.size u3 ds3 _ (by rfl) (by rfl) (Bx.new _ _ _) (FK.out.kept ((Qw.refl _).al _)).F.O (by omega) (by have := FK.out.F.q.size; simp; omega) ?_; intro v' w9 ho hg hn'; have FJ := Lib.hid ((FK.out.kept ((Qw.refl _).al _)).app ho hg hn'); clear ho hg hn')
                          go_roundg (n - 1).toNat
                          case measure => omega
                          case rel => exact ⟨lab2 + 1, n - 1, k, oa, oc, ds3 ++ [⟨c, wa, wn, la, lc, xa, xc⟩], rfl, (by first | rfl | go_num), (by first | rfl | go_num), rfl, by omega, by omega, by omega, by omega, by simp; omega, FJ, Lib.hid (FX.out.app FW (fun s hs => hs.plain (b := c) ⟨h4, h5, h6⟩ hlb l0 FW.v))⟩
          · obtain rfl : n = 0 := by omega
            have hn0 : ¬ (0 : Int) < 0 := by omega
            go_wp2_with fail
            go_loopg [3, 6] k (fun g3 lv ov wr => ∃ (k : Nat) (oa : Option Addr) (oc : Nat) (ds4 : List Bi), k = g3 ∧ ov = .slice oa k oc ∧ k ≤ 3 ∧ (ds4.length : Int) + k ≤ lab2 + 4 * (p : Int) + 4 ∧ Hid (Fi B v zs w lv (.slice oa k oc) k ds4 wr) ∧ Hid (Fx p lab2 k ds4))
            case atStart => exact ⟨k, oa, oc, ds3, rfl, rfl, hk3, by omega, FI, FX⟩
            case round =>
              clear FI FX hl hk3
              obtain ⟨k, oa, oc, ds4, rfl, rfl, hk3, hl, FI, FX⟩ := hrel
              rcases k with _ | k
              · go_wp2_with fail
                go_roundg (3 - (p + 1))
                case measure => omega
                case rel => exact ⟨p + 1, lab2, ds4, rfl, by go_num, rfl, by omega, by omega, by omega, by simp at hl ⊢; omega, Lib.hid FI.out.open_, FX⟩
              · obtain ⟨g, cap, e, hc1, hc2, gl, gw, gne, hcell, FC⟩ := FI.out.cut
                have FD := Lib.hid FC
                have HC := Lib.hid hcell
                have h3 : k = 0 ∨ k = 1 ∨ k = 2 := by omega
                obtain ⟨rfl, rfl⟩ : oa = some ⟨g, 0, none⟩ ∧ oc = cap := by injection e with e1 e2 e3; exact ⟨e1, e3⟩
                have x0 := HC.out wr rfl
                have hc0 : (k : Int) + 1 ≤ (oc : Int) := by omega
                clear FC hcell e FI
                rcases h3 with rfl | rfl | rfl
                · go_wp2_with (at_builtin; refine block_append 102 110 (enB 0) w.heap.size _ ds4 _ (by rfl) (by rfl) (Bx.new _ _ _) (FD.out.kept ((Qw.refl _).al _)).O (by omega) (by have := FD.out.q.size; simp; omega) ?_; intro v' w2 ho hg hn; have FJ := Lib.hid ((FD.out.kept ((Qw.refl _).al _)).app (bib_z ⟨rfl, rfl, rfl⟩ ⟨rfl, rfl, rfl, rfl, rfl, rfl⟩) ho hg hn); clear ho hg hn)
                  go_roundg 0
                  case measure => omega
                  case rel => exact ⟨0, some ⟨g, 0, none⟩, oc, ds4 ++ [enB 0], rfl, rfl, by omega, by simp at hl ⊢; omega, FJ, Lib.hid (FX.out.end_ (by omega) l0)⟩
                · go_wp2_with (at_builtin; refine block_append 102 110 (enB 1) w.heap.size _ ds4 _ (by rfl) (by rfl) (Bx.new _ _ _) (FD.out.kept ((Qw.refl _).al _)).O (by omega) (by have := FD.out.q.size; simp; omega) ?_; intro v' w2 ho hg hn; have FJ := Lib.hid ((FD.out.kept ((Qw.refl _).al _)).app (bib_z ⟨rfl, rfl, rfl⟩ ⟨rfl, rfl, rfl, rfl, rfl, rfl⟩) ho hg hn); clear ho hg hn)
                  go_roundg 1
                  case measure => omega
                  case rel => exact ⟨1, some ⟨g, 0, none⟩, oc, ds4 ++ [enB 1], rfl, rfl, by omega, by simp at hl ⊢; omega, FJ, Lib.hid (FX.out.end_ (by omega) l0)⟩
                · go_wp2_with (at_builtin; refine block_append 102 110 (enB 2) w.heap.size _ ds4 _ (by rfl) (by rfl) (Bx.new _ _ _) (FD.out.kept ((Qw.refl _).al _)).O (by omega) (by have := FD.out.q.size; simp; omega) ?_; intro v' w2 ho hg hn; have FJ := Lib.hid ((FD.out.kept ((Qw.refl _).al _)).app (bib_z ⟨rfl, rfl, rfl⟩ ⟨rfl, rfl, rfl, rfl, rfl, rfl⟩) ho hg hn); clear ho hg hn)
                  go_roundg 2
                  case measure => omega
                  case rel => exact ⟨2, some ⟨g, 0, none⟩, oc, ds4 ++ [enB 2], rfl, rfl, by omega, by simp at hl ⊢; omega, FJ, Lib.hid (FX.out.end_ (by omega) l0)⟩
    · obtain rfl : p = 3 := by omega
      obtain ⟨a, cap, rfl, hb⟩ := FI.out.O.blocks (S := fun k => w.heap.size ≤ k) (fun g hg => (FI.out.O.lt hg).1) (fun d hd => (FI.out.D d hd).go fun b hS _ => ⟨rfl, hS.1⟩)
      have hlb : (bis ds).length = ds.length := List.length_map _
      go_wp2_with fail
      go_ret
      exact ⟨a, cap, ds, lab, rfl, by omega, FI.out.O, (fun d hd => (FI.out.D d hd).go fun b hS _ => ⟨rfl, hS.1, hS.2.1⟩), FX.out.1, (fun b hb => by obtain ⟨d, hd, rfl⟩ := List.mem_map.1 hb; exact FX.out.2 d hd), FI.out.T, FI.out.q⟩
end Go.Proofs.YtlgdjbabbfdngaaDoor

