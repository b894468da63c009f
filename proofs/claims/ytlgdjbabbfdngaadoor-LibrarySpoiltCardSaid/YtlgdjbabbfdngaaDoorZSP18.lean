import Derived.Test.YtlgdjbabbfdngaaDoorZSP13
import Derived.Test.YtlgdjbabbfdngaaDoorZSP17
import Derived.Deep.DeepCutAuto
set_option linter.unusedVariables false
set_option linter.unusedSimpArgs false
namespace Go.Proofs.YtlgdjbabbfdngaaDoor
open Go.RowKit
def BkA (B : Nat) (v : Value) (zs : List Int) (w : World) (e : Ending) (w' : World) : Prop :=
  ∃ (b : Sy.Bl) (cs : Array Value), e = .returned (.agg cs) ∧ Sy.Dwn b ∧ BlkB w' (fun k => w.heap.size ≤ k) b cs ∧ TpB w' B v zs ∧ Px B w w'
structure Bm (B : Nat) (v : Value) (zs : List Int) (w : World) (b0 : Nat) (cs : Array Value) (wr : World) : Prop where
  R : Bx wr w.heap.size blZ 37
  X : Bx wr b0 cs 37
  T : TpB wr B v zs
  q : Px B w wr
  hB : B < w.heap.size
  hb : w.heap.size < b0
section
variable {B : Nat} {v : Value} {zs : List Int} {w wr w' : World} {b0 : Nat} {cs : Array Value}
theorem Bm.px (h : Bm B v zs w b0 cs wr) (t : TpB w' B v zs) (q : Px B wr w') : Bm B v zs w b0 cs w' :=
  ⟨h.R.px q (by have := h.hB; omega), h.X.px q (by have := h.hB; have := h.hb; omega), t, h.q.trans q, h.hB, h.hb⟩
theorem Bm.kept (h : Bm B v zs w b0 cs wr) (q : Qw wr w') : Bm B v zs w b0 cs w' := h.px (h.T.kept q) (Px.of q)
theorem Bm.set (h : Bm B v zs w b0 cs wr) (i : Nat) (u : Value) : Bm B v zs w b0 (cs.setIfInBounds i u) (wr.setCell ⟨b0, i, none⟩ u) :=
  ⟨h.R.other (by have := h.hb; show w.heap.size ≠ b0; omega) _, h.X.set i u, h.T.other (by have := h.hB; have := h.hb; omega) _ _, h.q.setNew (by have := h.hb; show w.heap.size ≤ b0; omega) _, h.hB, h.hb⟩
end
theorem bmEnd {B : Nat} {v : Value} {zs : List Int} {w wr wf : World} {b0 : Nat} {fn : Func} {s : Nat} {act : Act} {b : Sy.Bl} {v0 v1 v2 v3 v4 v5 v6 v7 v8 v9 v10 : Value} (hr : fn.results = #[.cell s 37]) (hs : act.tmps[s]?.getD undef = .pointer (some ⟨w.heap.size, 0, none⟩)) (hd : act.defers = [])
    (h : Bm B v zs w b0 #[v0, v1, v2, v3, v4, v5, v6, v7, v8, v9, v10] wr) (hb : BlkB wr (fun k => w.heap.size < k) b #[v0, v1, v2, v3, v4, v5, v6, v7, v8, v9, v10]) (hv : Sy.Dwn b)
    (hw : wf = putB wr w.heap.size v0 v1 v2 v3 v4 v5 v6 v7 v8 v9 v10) : bodyPost Tryd.prog fn (BkA B v zs w) .ret act wf := by
  subst hw
  refine bodyPost_ret (ret_blk hr hs (putB_bx v0 v1 v2 v3 v4 v5 v6 v7 v8 v9 v10 h.R)) hd ⟨b, _, rfl, hv, ?_, ?_, putB_px h.q (Nat.le_refl _) ..⟩
  · exact hb.go fun k hk _ => ⟨putB_heap _ _ _ _ _ _ _ _ _ _ _ _ _ _ (by omega), by omega⟩
  · unfold putB
    have k := h.hB
    exact (((((((((((h.T.other k _ _).other k _ _).other k _ _).other k _ _).other k _ _).other k _ _).other k _ _).other k _ _).other k _ _).other k _ _).other k _ _)
theorem TpB.below {C : Nat} {w w' : World} {B : Nat} {v : Value} {zs : List Int} (h : TpB w B v zs) (q : Below C w w') (hC : B < C) : TpB w' B v zs := by
  obtain ⟨k, h1, h2, h3⟩ := h
  exact ⟨k, (q.block B hC).trans h1, h2.kept q (by omega), h3⟩
theorem Bm.grow {B : Nat} {v : Value} {zs : List Int} {w wr w' : World} {b0 : Nat} {cs : Array Value} {row : Option Nat} (h : Bm B v zs w b0 cs wr) (hg : wr.grownBy w' row) (hr : ∀ g, row = some g → b0 < g) : Bm B v zs w b0 cs w' := by
  have keep : ∀ b, b < wr.heap.size → b ≤ b0 → w'.heap[b]? = wr.heap[b]? := fun b hb hl => hg.block b hb (fun e => by have := hr b e.symm; omega)
  have hX := h.X.lt
  have hR := h.R.lt
  have hb := h.hb
  have hB := h.hB
  have hz := h.q.size
  refine ⟨(keep _ hR (by omega)).trans h.R, (keep _ hX (Nat.le_refl _)).trans h.X, h.T.below (C := b0) ⟨hg.os, hg.tape, hg.output, hg.size, fun k hk => keep k (by omega) (by omega)⟩ (by omega), ?_, hB, hb⟩
  exact ⟨hg.os.trans h.q.os, hg.tape.trans h.q.tape, hg.output.trans h.q.output, Nat.le_trans h.q.size hg.size, fun b hb' hP => (keep b (by omega) (by omega)).trans (h.q.block b hb' hP)⟩
theorem OwnW.shape {B : Nat} {w : World} {v : Value} {ds : List Wd} (h : OwnW B w v ds) : ∃ (a : Option Addr) (n cap : Nat), v = .slice a n cap := by
  rcases h.2 with ⟨rfl, _⟩ | ⟨g, cap, cur, rfl, _⟩
  · exact ⟨_, _, _, rfl⟩
  · exact ⟨_, _, _, rfl⟩
structure Bw (B : Nat) (v : Value) (zs : List Int) (w : World) (b0 : Nat) (lab : Int) (sk : Bool) (sv : Value) (ds : List Wd) (wr : World) : Prop where
  M : Bm B v zs w b0 #[.int .i64 0, .int .i64 lab, .bool sk, sv, .int .i64 0, .int .i64 0, .slice none 0 0, .int .i64 0, .int .i64 0, .slice none 0 0, .int .i64 0] wr
  O : OwnW (b0 + 1) wr sv ds
  D : ∀ d ∈ ds, KidsB wr (fun k => b0 < k ∧ sv.ownBlock ≠ some k) d.a d.n d.x.ks
  W : ∀ d ∈ ds, Sy.isw d.c = true ∧ Sy.okx d.x = true ∧ Sy.dpt d.x ≤ 2
section
variable {B : Nat} {v : Value} {zs : List Int} {w wr w' : World} {b0 : Nat} {lab : Int} {sk : Bool} {sv : Value} {ds : List Wd}
theorem Bw.px (h : Bw B v zs w b0 lab sk sv ds wr) (t : TpB w' B v zs) (q : Px B wr w') : Bw B v zs w b0 lab sk sv ds w' :=
  have hB := h.M.hB
  have hb := h.M.hb
  ⟨h.M.px t q, h.O.px (by omega) q, fun d hd => (h.D d hd).px (fun k hk => by omega) q, h.W⟩
theorem Bw.kept (h : Bw B v zs w b0 lab sk sv ds wr) (q : Qw wr w') : Bw B v zs w b0 lab sk sv ds w' := h.px (h.M.T.kept q) (Px.of q)
theorem Bw.kid {W : World} {a : Option Addr} {cap : Nat} {ks : List Sy.Ex} (h : Bw B v zs w b0 lab sk sv ds wr) (q : Qw wr W) (k : KidsB w' (fun k => W.heap.size ≤ k) a cap ks) : KidsB w' (fun k => b0 < k ∧ sv.ownBlock ≠ some k) a cap ks :=
  k.mono fun k hk => by
    have h1 := h.M.X.lt
    have h2 := q.le
    exact ⟨by omega, fun e => by have := (h.O.lt e).2.1; omega⟩
theorem Bw.app (h : Bw B v zs w b0 lab sk sv ds wr) {d : Wd} {v' : Value} (hd : KidsB wr (fun k => b0 < k ∧ sv.ownBlock ≠ some k) d.a d.n d.x.ks) (hw : Sy.isw d.c = true ∧ Sy.okx d.x = true ∧ Sy.dpt d.x ≤ 2) (ho : OwnW (b0 + 1) w' v' (ds ++ [d])) (hg : wr.grownBy w' sv.ownBlock)
    (hn : ∀ g, v'.ownBlock = some g → sv.ownBlock = some g ∨ wr.heap.size ≤ g) : Bw B v zs w b0 lab sk v' (ds ++ [d]) (w'.setCell ⟨b0, 3, none⟩ v') := by
  have hm := h.M.grow hg (fun g e => (h.O.lt e).1)
  have hX := h.M.X.lt
  have keep : ∀ b, b < wr.heap.size → sv.ownBlock ≠ some b → w'.heap[b]? = wr.heap[b]? := fun b hb hne => hg.block b hb (fun e => hne e.symm)
  have kid : ∀ d : Wd, KidsB wr (fun k => b0 < k ∧ sv.ownBlock ≠ some k) d.a d.n d.x.ks → KidsB (w'.setCell ⟨b0, 3, none⟩ v') (fun k => b0 < k ∧ v'.ownBlock ≠ some k) d.a d.n d.x.ks := fun d hd => hd.go fun b hS hb => ⟨(Below.heap_setCell _ _ _ _ (by show b ≠ b0; omega)).trans (keep b hb hS.2), hS.1, fun e => by
    rcases hn b e with k | k
    · exact hS.2 k
    · omega⟩
  refine ⟨hm.set 3 v', ho.go (fun g hg _ => Below.heap_setCell _ _ _ _ (by show g ≠ b0; have := (ho.lt hg).1; omega)), fun x hx => ?_, fun x hx => ?_⟩
  · rcases List.mem_append.1 hx with hx | hx
    · exact kid x (h.D x hx)
    · obtain rfl := List.mem_singleton.1 hx
      exact kid _ hd
  · rcases List.mem_append.1 hx with hx | hx
    · exact h.W x hx
    · obtain rfl := List.mem_singleton.1 hx
      exact hw
end
theorem idx13 (r : Int) (h0 : 0 ≤ r) (h1 : r < 13) : ∃ c : Int, Sy.isw c = true ∧ 0 ≤ c ∧ c ≤ 90 ∧ ∀ w, (Instr.index 9 (.string ⟨#[71, 88, 89, 90, 70, 77, 80, 76, 65, 66, 67, 73, 74]⟩) (.int .i64 r)).run Tryd.prog w = .ok (.int .u8 c) w := by
  have : r = 0 ∨ r = 1 ∨ r = 2 ∨ r = 3 ∨ r = 4 ∨ r = 5 ∨ r = 6 ∨ r = 7 ∨ r = 8 ∨ r = 9 ∨ r = 10 ∨ r = 11 ∨ r = 12 := by omega
  rcases this with rfl | rfl | rfl | rfl | rfl | rfl | rfl | rfl | rfl | rfl | rfl | rfl | rfl
  · exact ⟨71, by decide, by decide, by decide, fun w => by kernel_rfl⟩
  · exact ⟨88, by decide, by decide, by decide, fun w => by kernel_rfl⟩
  · exact ⟨89, by decide, by decide, by decide, fun w => by kernel_rfl⟩
  · exact ⟨90, by decide, by decide, by decide, fun w => by kernel_rfl⟩
  · exact ⟨70, by decide, by decide, by decide, fun w => by kernel_rfl⟩
  · exact ⟨77, by decide, by decide, by decide, fun w => by kernel_rfl⟩
  · exact ⟨80, by decide, by decide, by decide, fun w => by kernel_rfl⟩
  · exact ⟨76, by decide, by decide, by decide, fun w => by kernel_rfl⟩
  · exact ⟨65, by decide, by decide, by decide, fun w => by kernel_rfl⟩
  · exact ⟨66, by decide, by decide, by decide, fun w => by kernel_rfl⟩
  · exact ⟨67, by decide, by decide, by decide, fun w => by kernel_rfl⟩
  · exact ⟨73, by decide, by decide, by decide, fun w => by kernel_rfl⟩
  · exact ⟨74, by decide, by decide, by decide, fun w => by kernel_rfl⟩
set_option maxRecDepth 100000 in
set_option maxHeartbeats 4000000 in
theorem blockA {B : Nat} {v : Value} {zs : List Int} (w : World) (hT : TpB w B v zs) : Calls Tryd.prog 32 #[.pointer (some ⟨B, 0, none⟩)] w (BkA B v zs w) := by
  have hB := hT.lt
  have c1 := fun n n1 n2 w h => nextA (B := B) (v := v) (zs := zs) n n1 n2 w h
  have c2 := fun lo hi l0 l1 l2 w h => rangeA (B := B) (v := v) (zs := zs) lo hi l0 l1 l2 w h
  have c3 := fun w h => variableA (B := B) (v := v) (zs := zs) w h
  have e2 : ∀ w, TpB w B v zs → Calls Tryd.prog 46 #[.pointer (some ⟨B, 0, none⟩), .int .i64 2] w (ExA B v zs 2 w) := fun w h => exprA 2 w (by decide) (by decide) h
  have e3 : ∀ w, TpB w B v zs → Calls Tryd.prog 46 #[.pointer (some ⟨B, 0, none⟩), .int .i64 3] w (ExA B v zs 3 w) := fun w h => exprA 3 w (by decide) (by decide) h
  have e4 : ∀ w, TpB w B v zs → Calls Tryd.prog 46 #[.pointer (some ⟨B, 0, none⟩), .int .i64 4] w (ExA B v zs 4 w) := fun w h => exprA 4 w (by decide) (by decide) h
  have C := Lib.hid c1
  have RG := Lib.hid c2
  have CV := Lib.hid c3
  have EX2 := Lib.hid e2
  have EX3 := Lib.hid e3
  have EX4 := Lib.hid e4
  have T0 := Lib.hid hT
  have R0 : Hid (Bx (w.alloc (.cells blZ 37)) w.heap.size blZ 37) := Lib.hid (Bx.new w _ _)
  clear hT c1 c2 c3 e2 e3 e4
  go_enter Tryd.func32, Tryd.ntmps32
  go_upto_region 2 with (go_at_call 29; ((with_reducible refine (C.out _ (by decide) (by decide) _ (T0.out.kept ((Qw.refl w).al _))).mono ?_); rintro e w1 ⟨r, rfl, r0, r1, tp, q⟩; have T1 := Lib.hid tp; have R1 := Lib.hid (R0.out.px q (Nat.ne_of_gt hB)); have Q1 : Hid (Px B w w1) := Lib.hid (((Px.refl B w).alloc _).trans q); clear tp q R0 T0))
  -- GEN
  generalize (r == 0) = sk
  refine code_of (fun w2 => Hid (Bm B v zs w w1.heap.size #[.int .i64 0, .int .i64 0, .bool sk, .slice none 0 0, .int .i64 0, .int .i64 0, .slice none 0 0, .int .i64 0, .int .i64 0, .slice none 0 0, .int .i64 0] w2)) (Lib.hid ⟨R1.out.alloc _, Bx.new _ _ _, T1.out.kept ((Qw.refl _).al _), Q1.out.alloc _, hB, R1.out.lt⟩) ?_
  clear T1 R1 Q1
  generalize w1.heap.size = b0
  intro w2 M
  replace M : Hid (Bm B v zs w b0 #[.int .i64 0, .int .i64 0, .bool sk, .slice none 0 0, .int .i64 0, .int .i64 0, .slice none 0 0, .int .i64 0, .int .i64 0, .slice none 0 0, .int .i64 0] w2) := M
  replace xl := M.out.X.lt
  replace rl := M.out.R.lt
  replace x0 := M.out.X.cell' 0 _ rfl
  replace f0 := M.out.X.free 0
  replace x1 := M.out.X.cell' 1 _ rfl
  replace f1 := M.out.X.free 1
  replace x2 := M.out.X.cell' 2 _ rfl
  replace f2 := M.out.X.free 2
  replace x3 := M.out.X.cell' 3 _ rfl
  replace f3 := M.out.X.free 3
  replace x4 := M.out.X.cell' 4 _ rfl
  replace f4 := M.out.X.free 4
  replace x5 := M.out.X.cell' 5 _ rfl
  replace f5 := M.out.X.free 5
  replace x6 := M.out.X.cell' 6 _ rfl
  replace f6 := M.out.X.free 6
  replace x7 := M.out.X.cell' 7 _ rfl
  replace f7 := M.out.X.free 7
  replace x8 := M.out.X.cell' 8 _ rfl
  replace f8 := M.out.X.free 8
  replace x9 := M.out.X.cell' 9 _ rfl
  replace f9 := M.out.X.free 9
  replace x10 := M.out.X.cell' 10 _ rfl
  replace f10 := M.out.X.free 10
  go_upto_if 12 with (go_at_call 29; ((with_reducible refine (C.out _ (by decide) (by decide) _ M.out.T).mono ?_); rintro e w' ⟨r2, rfl, r20, r21, tp, q⟩; replace M := Lib.hid (M.out.px tp q); replace xl := M.out.X.lt; replace rl := M.out.R.lt; replace x0 := M.out.X.cell' 0 _ rfl; replace f0 := M.out.X.free 0; replace x1 := M.out.X.cell' 1 _ rfl; replace f1 := M.out.X.free 1; replace x2 := M.out.X.cell' 2 _ rfl; replace f2 := M.out.X.free 2; replace x3 := M.out.X.cell' 3 _ rfl; replace f3 := M.out.X.free 3; replace x4 := M.out.X.cell' 4 _ rfl; replace f4 := M.out.X.free 4; replace x5 := M.out.X.cell' 5 _ rfl; replace f5 := M.out.X.free 5; replace x6 := M.out.X.cell' 6 _ rfl; replace f6 := M.out.X.free 6; replace x7 := M.out.X.cell' 7 _ rfl; replace f7 := M.out.X.free 7; replace x8 := M.out.X.cell' 8 _ rfl; replace f8 := M.out.X.free 8; replace x9 := M.out.X.cell' 9 _ rfl; replace f9 := M.out.X.free 9; replace x10 := M.out.X.cell' 10 _ rfl; replace f10 := M.out.X.free 10; clear tp q))
  go_cut [] (fun wx => ∃ lab : Int, 0 ≤ lab ∧ lab ≤ 6 ∧ Hid (Bm B v zs w b0 #[.int .i64 0, .int .i64 lab, .bool sk, .slice none 0 0, .int .i64 0, .int .i64 0, .slice none 0 0, .int .i64 0, .int .i64 0, .slice none 0 0, .int .i64 0] wx))
  case first =>
    go_wp2_with (go_at_call 33; ((with_reducible refine (RG.out _ _ (by decide) (by decide) (by decide) _ M.out.T).mono ?_); rintro e w' ⟨r3, rfl, r30, r31, tp, q⟩; replace M := Lib.hid (M.out.px tp q); replace xl := M.out.X.lt; replace rl := M.out.R.lt; replace x0 := M.out.X.cell' 0 _ rfl; replace f0 := M.out.X.free 0; replace x1 := M.out.X.cell' 1 _ rfl; replace f1 := M.out.X.free 1; replace x2 := M.out.X.cell' 2 _ rfl; replace f2 := M.out.X.free 2; replace x3 := M.out.X.cell' 3 _ rfl; replace f3 := M.out.X.free 3; replace x4 := M.out.X.cell' 4 _ rfl; replace f4 := M.out.X.free 4; replace x5 := M.out.X.cell' 5 _ rfl; replace f5 := M.out.X.free 5; replace x6 := M.out.X.cell' 6 _ rfl; replace f6 := M.out.X.free 6; replace x7 := M.out.X.cell' 7 _ rfl; replace f7 := M.out.X.free 7; replace x8 := M.out.X.cell' 8 _ rfl; replace f8 := M.out.X.free 8; replace x9 := M.out.X.cell' 9 _ rfl; replace f9 := M.out.X.free 9; replace x10 := M.out.X.cell' 10 _ rfl; replace f10 := M.out.X.free 10; clear tp q))
    · go_meet
      exact ⟨r3, by omega, by omega, Lib.hid (M.out.set 1 _)⟩
    · go_meet
      exact ⟨0, by omega, by omega, M⟩
  case rest =>
    clear xl rl x0 f0 x1 f1 x2 f2 x3 f3 x4 f4 x5 f5 x6 f6 x7 f7 x8 f8 x9 f9 x10 f10 M
    obtain ⟨lab, la0, la1, M⟩ := hcut
    replace xl := M.out.X.lt
    replace rl := M.out.R.lt
    replace x0 := M.out.X.cell' 0 _ rfl
    replace f0 := M.out.X.free 0
    replace x1 := M.out.X.cell' 1 _ rfl
    replace f1 := M.out.X.free 1
    replace x2 := M.out.X.cell' 2 _ rfl
    replace f2 := M.out.X.free 2
    replace x3 := M.out.X.cell' 3 _ rfl
    replace f3 := M.out.X.free 3
    replace x4 := M.out.X.cell' 4 _ rfl
    replace f4 := M.out.X.free 4
    replace x5 := M.out.X.cell' 5 _ rfl
    replace f5 := M.out.X.free 5
    replace x6 := M.out.X.cell' 6 _ rfl
    replace f6 := M.out.X.free 6
    replace x7 := M.out.X.cell' 7 _ rfl
    replace f7 := M.out.X.free 7
    replace x8 := M.out.X.cell' 8 _ rfl
    replace f8 := M.out.X.free 8
    replace x9 := M.out.X.cell' 9 _ rfl
    replace f9 := M.out.X.free 9
    replace x10 := M.out.X.cell' 10 _ rfl
    replace f10 := M.out.X.free 10
    go_upto_region 10 with (go_at_call 29; ((with_reducible refine (C.out _ (by decide) (by decide) _ M.out.T).mono ?_); rintro e w' ⟨k, rfl, k0, k1, tp, q⟩; replace M := Lib.hid (M.out.px tp q); replace xl := M.out.X.lt; replace rl := M.out.R.lt; replace x0 := M.out.X.cell' 0 _ rfl; replace f0 := M.out.X.free 0; replace x1 := M.out.X.cell' 1 _ rfl; replace f1 := M.out.X.free 1; replace x2 := M.out.X.cell' 2 _ rfl; replace f2 := M.out.X.free 2; replace x3 := M.out.X.cell' 3 _ rfl; replace f3 := M.out.X.free 3; replace x4 := M.out.X.cell' 4 _ rfl; replace f4 := M.out.X.free 4; replace x5 := M.out.X.cell' 5 _ rfl; replace f5 := M.out.X.free 5; replace x6 := M.out.X.cell' 6 _ rfl; replace f6 := M.out.X.free 6; replace x7 := M.out.X.cell' 7 _ rfl; replace f7 := M.out.X.free 7; replace x8 := M.out.X.cell' 8 _ rfl; replace f8 := M.out.X.free 8; replace x9 := M.out.X.cell' 9 _ rfl; replace f9 := M.out.X.free 9; replace x10 := M.out.X.cell' 10 _ rfl; replace f10 := M.out.X.free 10; clear tp q))
    have hla : 0 ≤ lab ∧ lab ≤ 6 := ⟨la0, la1⟩
    have XL0 := Lib.hid M.out.X.lt
    by_cases h0 : k = 0
    · subst h0
      go_upto_region 13 with fail
      refine code_of (fun w2 => Hid (Bm B v zs w b0 #[.int .i64 1, .int .i64 lab, .bool sk, .slice none 0 0, .int .i64 0, .int .i64 0, .slice none 0 0, .int .i64 0, .int .i64 0, .slice none 0 0, .int .i64 0] w2)) (Lib.hid (M.out.set 0 (.int .i64 1))) ?_
      clear M
      clear xl rl x0 f0 x1 f1 x2 f2 x3 f3 x4 f4 x5 f5 x6 f6 x7 f7 x8 f8 x9 f9 x10 f10
      intro w2 M
      replace M : Hid (Bm B v zs w b0 #[.int .i64 1, .int .i64 lab, .bool sk, .slice none 0 0, .int .i64 0, .int .i64 0, .slice none 0 0, .int .i64 0, .int .i64 0, .slice none 0 0, .int .i64 0] w2) := M
      have XL0 := Lib.hid M.out.X.lt
      replace xl := M.out.X.lt
      replace rl := M.out.R.lt
      replace x0 := M.out.X.cell' 0 _ rfl
      replace f0 := M.out.X.free 0
      replace x1 := M.out.X.cell' 1 _ rfl
      replace f1 := M.out.X.free 1
      replace x2 := M.out.X.cell' 2 _ rfl
      replace f2 := M.out.X.free 2
      replace x3 := M.out.X.cell' 3 _ rfl
      replace f3 := M.out.X.free 3
      replace x4 := M.out.X.cell' 4 _ rfl
      replace f4 := M.out.X.free 4
      replace x5 := M.out.X.cell' 5 _ rfl
      replace f5 := M.out.X.free 5
      replace x6 := M.out.X.cell' 6 _ rfl
      replace f6 := M.out.X.free 6
      replace x7 := M.out.X.cell' 7 _ rfl
      replace f7 := M.out.X.free 7
      replace x8 := M.out.X.cell' 8 _ rfl
      replace f8 := M.out.X.free 8
      replace x9 := M.out.X.cell' 9 _ rfl
      replace f9 := M.out.X.free 9
      replace x10 := M.out.X.cell' 10 _ rfl
      replace f10 := M.out.X.free 10
      go_upto_region 14 with (go_at_call 45; ((with_reducible refine (CV.out _ M.out.T).mono ?_); rintro e w' ⟨m, rfl, m0, m1, tp, q⟩; replace M := Lib.hid (M.out.px tp q); replace xl := M.out.X.lt; replace rl := M.out.R.lt; replace x0 := M.out.X.cell' 0 _ rfl; replace f0 := M.out.X.free 0; replace x1 := M.out.X.cell' 1 _ rfl; replace f1 := M.out.X.free 1; replace x2 := M.out.X.cell' 2 _ rfl; replace f2 := M.out.X.free 2; replace x3 := M.out.X.cell' 3 _ rfl; replace f3 := M.out.X.free 3; replace x4 := M.out.X.cell' 4 _ rfl; replace f4 := M.out.X.free 4; replace x5 := M.out.X.cell' 5 _ rfl; replace f5 := M.out.X.free 5; replace x6 := M.out.X.cell' 6 _ rfl; replace f6 := M.out.X.free 6; replace x7 := M.out.X.cell' 7 _ rfl; replace f7 := M.out.X.free 7; replace x8 := M.out.X.cell' 8 _ rfl; replace f8 := M.out.X.free 8; replace x9 := M.out.X.cell' 9 _ rfl; replace f9 := M.out.X.free 9; replace x10 := M.out.X.cell' 10 _ rfl; replace f10 := M.out.X.free 10; clear tp q))
      refine code_of (fun w2 => Hid (Bm B v zs w b0 #[.int .i64 1, .int .i64 lab, .bool sk, .slice none 0 0, .int .i64 0, .int .i64 (m * 1000000), .slice none 0 0, .int .i64 0, .int .i64 0, .slice none 0 0, .int .i64 0] w2)) (Lib.hid (((M.out.set 4 (.int .i64 0)).set 5 (.int .i64 (m * 1000000))).set 6 (.slice none 0 0))) ?_
      clear M
      clear xl rl x0 f0 x1 f1 x2 f2 x3 f3 x4 f4 x5 f5 x6 f6 x7 f7 x8 f8 x9 f9 x10 f10
      intro w2 M
      replace M : Hid (Bm B v zs w b0 #[.int .i64 1, .int .i64 lab, .bool sk, .slice none 0 0, .int .i64 0, .int .i64 (m * 1000000), .slice none 0 0, .int .i64 0, .int .i64 0, .slice none 0 0, .int .i64 0] w2) := M
      have XL0 := Lib.hid M.out.X.lt
      replace xl := M.out.X.lt
      replace rl := M.out.R.lt
      replace x0 := M.out.X.cell' 0 _ rfl
      replace f0 := M.out.X.free 0
      replace x1 := M.out.X.cell' 1 _ rfl
      replace f1 := M.out.X.free 1
      replace x2 := M.out.X.cell' 2 _ rfl
      replace f2 := M.out.X.free 2
      replace x3 := M.out.X.cell' 3 _ rfl
      replace f3 := M.out.X.free 3
      replace x4 := M.out.X.cell' 4 _ rfl
      replace f4 := M.out.X.free 4
      replace x5 := M.out.X.cell' 5 _ rfl
      replace f5 := M.out.X.free 5
      replace x6 := M.out.X.cell' 6 _ rfl
      replace f6 := M.out.X.free 6
      replace x7 := M.out.X.cell' 7 _ rfl
      replace f7 := M.out.X.free 7
      replace x8 := M.out.X.cell' 8 _ rfl
      replace f8 := M.out.X.free 8
      replace x9 := M.out.X.cell' 9 _ rfl
      replace f9 := M.out.X.free 9
      replace x10 := M.out.X.cell' 10 _ rfl
      replace f10 := M.out.X.free 10
      go_upto_region 30 with (go_at_call 46; ((with_reducible refine (EX4.out _ M.out.T).mono ?_); rintro e w' ⟨x, ka, kc, rfl, ok, dp, K0, tp, q⟩; replace M := Lib.hid (M.out.px tp q); replace xl := M.out.X.lt; replace rl := M.out.R.lt; replace x0 := M.out.X.cell' 0 _ rfl; replace f0 := M.out.X.free 0; replace x1 := M.out.X.cell' 1 _ rfl; replace f1 := M.out.X.free 1; replace x2 := M.out.X.cell' 2 _ rfl; replace f2 := M.out.X.free 2; replace x3 := M.out.X.cell' 3 _ rfl; replace f3 := M.out.X.free 3; replace x4 := M.out.X.cell' 4 _ rfl; replace f4 := M.out.X.free 4; replace x5 := M.out.X.cell' 5 _ rfl; replace f5 := M.out.X.free 5; replace x6 := M.out.X.cell' 6 _ rfl; replace f6 := M.out.X.free 6; replace x7 := M.out.X.cell' 7 _ rfl; replace f7 := M.out.X.free 7; replace x8 := M.out.X.cell' 8 _ rfl; replace f8 := M.out.X.free 8; replace x9 := M.out.X.cell' 9 _ rfl; replace f9 := M.out.X.free 9; replace x10 := M.out.X.cell' 10 _ rfl; replace f10 := M.out.X.free 10; have K : Hid (KidsB w' (fun k => b0 < k) ka kc x.ks) := Lib.hid (K0.mono fun k hk => Nat.lt_of_lt_of_le XL0.out hk); clear K0; clear tp q))
      refine code_of (fun w2 => Hid (Bm B v zs w b0 #[.int .i64 1, .int .i64 lab, .bool sk, .slice none 0 0, .int .i64 0, .int .i64 (m * 1000000), .slice none 0 0, .int .i64 x.op, .int .i64 x.n, .slice ka x.ks.length kc, .int .i64 0] w2) ∧ Hid (KidsB w2 (fun k => b0 < k) ka kc x.ks)) ⟨Lib.hid (((M.out.set 7 (.int .i64 x.op)).set 8 (.int .i64 x.n)).set 9 (.slice ka x.ks.length kc)), Lib.hid (((K.out.set (p := ⟨b0, 7, none⟩) (fun h => Nat.lt_irrefl _ h) (.int .i64 x.op)).set (p := ⟨b0, 8, none⟩) (fun h => Nat.lt_irrefl _ h) (.int .i64 x.n)).set (p := ⟨b0, 9, none⟩) (fun h => Nat.lt_irrefl _ h) (.slice ka x.ks.length kc))⟩ ?_
      clear M K
      clear xl rl x0 f0 x1 f1 x2 f2 x3 f3 x4 f4 x5 f5 x6 f6 x7 f7 x8 f8 x9 f9 x10 f10
      rintro w2 ⟨M, K⟩
      have XL0 := Lib.hid M.out.X.lt
      replace xl := M.out.X.lt
      replace rl := M.out.R.lt
      replace x0 := M.out.X.cell' 0 _ rfl
      replace f0 := M.out.X.free 0
      replace x1 := M.out.X.cell' 1 _ rfl
      replace f1 := M.out.X.free 1
      replace x2 := M.out.X.cell' 2 _ rfl
      replace f2 := M.out.X.free 2
      replace x3 := M.out.X.cell' 3 _ rfl
      replace f3 := M.out.X.free 3
      replace x4 := M.out.X.cell' 4 _ rfl
      replace f4 := M.out.X.free 4
      replace x5 := M.out.X.cell' 5 _ rfl
      replace f5 := M.out.X.free 5
      replace x6 := M.out.X.cell' 6 _ rfl
      replace f6 := M.out.X.free 6
      replace x7 := M.out.X.cell' 7 _ rfl
      replace f7 := M.out.X.free 7
      replace x8 := M.out.X.cell' 8 _ rfl
      replace f8 := M.out.X.free 8
      replace x9 := M.out.X.cell' 9 _ rfl
      replace f9 := M.out.X.free 9
      replace x10 := M.out.X.cell' 10 _ rfl
      replace f10 := M.out.X.free 10
      have rl := M.out.R.lt
      replace y0 := M.out.R.free 0
      replace y1 := M.out.R.free 1
      replace y2 := M.out.R.free 2
      replace y3 := M.out.R.free 3
      replace y4 := M.out.R.free 4
      replace y5 := M.out.R.free 5
      replace y6 := M.out.R.free 6
      replace y7 := M.out.R.free 7
      replace y8 := M.out.R.free 8
      replace y9 := M.out.R.free 9
      replace y10 := M.out.R.free 10
      replace z0 := M.out.R.cell' 0 _ rfl
      replace z1 := M.out.R.cell' 1 _ rfl
      replace z2 := M.out.R.cell' 2 _ rfl
      replace z3 := M.out.R.cell' 3 _ rfl
      replace z4 := M.out.R.cell' 4 _ rfl
      replace z5 := M.out.R.cell' 5 _ rfl
      replace z6 := M.out.R.cell' 6 _ rfl
      replace z7 := M.out.R.cell' 7 _ rfl
      replace z8 := M.out.R.cell' 8 _ rfl
      replace z9 := M.out.R.cell' 9 _ rfl
      replace z10 := M.out.R.cell' 10 _ rfl
      go_wp2_with fail
      exact bmEnd (b := ⟨1, lab, sk, [], Sy.num (m * 1000000), x, 0⟩) Tryd.results32 rfl rfl M.out (⟨none, 0, none, 0, ka, kc, rfl, WordsB.nil _ _, KidsB.nl none 0 (by decide), (K.out.mono fun k hk => Nat.lt_trans M.out.hb hk)⟩ : BlkB _ (fun k => w.heap.size < k) ⟨1, lab, sk, [], Sy.num (m * 1000000), x, 0⟩ #[.int .i64 1, .int .i64 lab, .bool sk, .slice none 0 0, .int .i64 0, .int .i64 (m * 1000000), .slice none 0 0, .int .i64 x.op, .int .i64 x.n, .slice ka x.ks.length kc, .int .i64 0]) (Sy.dwn1 hla (by omega) (by omega) ok dp) rfl
    · have e0 : (k == 0) = false := beq_eq_false_iff_ne.2 h0
      by_cases h1 : k = 1
      · subst h1
        go_upto_region 13 with fail
        refine code_of (fun w2 => Hid (Bm B v zs w b0 #[.int .i64 1, .int .i64 lab, .bool sk, .slice none 0 0, .int .i64 0, .int .i64 0, .slice none 0 0, .int .i64 0, .int .i64 0, .slice none 0 0, .int .i64 0] w2)) (Lib.hid (M.out.set 0 (.int .i64 1))) ?_
        clear M
        clear xl rl x0 f0 x1 f1 x2 f2 x3 f3 x4 f4 x5 f5 x6 f6 x7 f7 x8 f8 x9 f9 x10 f10
        intro w2 M
        replace M : Hid (Bm B v zs w b0 #[.int .i64 1, .int .i64 lab, .bool sk, .slice none 0 0, .int .i64 0, .int .i64 0, .slice none 0 0, .int .i64 0, .int .i64 0, .slice none 0 0, .int .i64 0] w2) := M
        have XL0 := Lib.hid M.out.X.lt
        replace xl := M.out.X.lt
        replace rl := M.out.R.lt
        replace x0 := M.out.X.cell' 0 _ rfl
        replace f0 := M.out.X.free 0
        replace x1 := M.out.X.cell' 1 _ rfl
        replace f1 := M.out.X.free 1
        replace x2 := M.out.X.cell' 2 _ rfl
        replace f2 := M.out.X.free 2
        replace x3 := M.out.X.cell' 3 _ rfl
        replace f3 := M.out.X.free 3
        replace x4 := M.out.X.cell' 4 _ rfl
        replace f4 := M.out.X.free 4
        replace x5 := M.out.X.cell' 5 _ rfl
        replace f5 := M.out.X.free 5
        replace x6 := M.out.X.cell' 6 _ rfl
        replace f6 := M.out.X.free 6
        replace x7 := M.out.X.cell' 7 _ rfl
        replace f7 := M.out.X.free 7
        replace x8 := M.out.X.cell' 8 _ rfl
        replace f8 := M.out.X.free 8
        replace x9 := M.out.X.cell' 9 _ rfl
        replace f9 := M.out.X.free 9
        replace x10 := M.out.X.cell' 10 _ rfl
        replace f10 := M.out.X.free 10
        go_upto_region 14 with (go_at_call 45; ((with_reducible refine (CV.out _ M.out.T).mono ?_); rintro e w' ⟨m, rfl, m0, m1, tp, q⟩; replace M := Lib.hid (M.out.px tp q); replace xl := M.out.X.lt; replace rl := M.out.R.lt; replace x0 := M.out.X.cell' 0 _ rfl; replace f0 := M.out.X.free 0; replace x1 := M.out.X.cell' 1 _ rfl; replace f1 := M.out.X.free 1; replace x2 := M.out.X.cell' 2 _ rfl; replace f2 := M.out.X.free 2; replace x3 := M.out.X.cell' 3 _ rfl; replace f3 := M.out.X.free 3; replace x4 := M.out.X.cell' 4 _ rfl; replace f4 := M.out.X.free 4; replace x5 := M.out.X.cell' 5 _ rfl; replace f5 := M.out.X.free 5; replace x6 := M.out.X.cell' 6 _ rfl; replace f6 := M.out.X.free 6; replace x7 := M.out.X.cell' 7 _ rfl; replace f7 := M.out.X.free 7; replace x8 := M.out.X.cell' 8 _ rfl; replace f8 := M.out.X.free 8; replace x9 := M.out.X.cell' 9 _ rfl; replace f9 := M.out.X.free 9; replace x10 := M.out.X.cell' 10 _ rfl; replace f10 := M.out.X.free 10; clear tp q))
        refine code_of (fun w2 => Hid (Bm B v zs w b0 #[.int .i64 1, .int .i64 lab, .bool sk, .slice none 0 0, .int .i64 0, .int .i64 (m * 1000000), .slice none 0 0, .int .i64 0, .int .i64 0, .slice none 0 0, .int .i64 0] w2)) (Lib.hid (((M.out.set 4 (.int .i64 0)).set 5 (.int .i64 (m * 1000000))).set 6 (.slice none 0 0))) ?_
        clear M
        clear xl rl x0 f0 x1 f1 x2 f2 x3 f3 x4 f4 x5 f5 x6 f6 x7 f7 x8 f8 x9 f9 x10 f10
        intro w2 M
        replace M : Hid (Bm B v zs w b0 #[.int .i64 1, .int .i64 lab, .bool sk, .slice none 0 0, .int .i64 0, .int .i64 (m * 1000000), .slice none 0 0, .int .i64 0, .int .i64 0, .slice none 0 0, .int .i64 0] w2) := M
        have XL0 := Lib.hid M.out.X.lt
        replace xl := M.out.X.lt
        replace rl := M.out.R.lt
        replace x0 := M.out.X.cell' 0 _ rfl
        replace f0 := M.out.X.free 0
        replace x1 := M.out.X.cell' 1 _ rfl
        replace f1 := M.out.X.free 1
        replace x2 := M.out.X.cell' 2 _ rfl
        replace f2 := M.out.X.free 2
        replace x3 := M.out.X.cell' 3 _ rfl
        replace f3 := M.out.X.free 3
        replace x4 := M.out.X.cell' 4 _ rfl
        replace f4 := M.out.X.free 4
        replace x5 := M.out.X.cell' 5 _ rfl
        replace f5 := M.out.X.free 5
        replace x6 := M.out.X.cell' 6 _ rfl
        replace f6 := M.out.X.free 6
        replace x7 := M.out.X.cell' 7 _ rfl
        replace f7 := M.out.X.free 7
        replace x8 := M.out.X.cell' 8 _ rfl
        replace f8 := M.out.X.free 8
        replace x9 := M.out.X.cell' 9 _ rfl
        replace f9 := M.out.X.free 9
        replace x10 := M.out.X.cell' 10 _ rfl
        replace f10 := M.out.X.free 10
        go_upto_region 30 with (go_at_call 46; ((with_reducible refine (EX4.out _ M.out.T).mono ?_); rintro e w' ⟨x, ka, kc, rfl, ok, dp, K0, tp, q⟩; replace M := Lib.hid (M.out.px tp q); replace xl := M.out.X.lt; replace rl := M.out.R.lt; replace x0 := M.out.X.cell' 0 _ rfl; replace f0 := M.out.X.free 0; replace x1 := M.out.X.cell' 1 _ rfl; replace f1 := M.out.X.free 1; replace x2 := M.out.X.cell' 2 _ rfl; replace f2 := M.out.X.free 2; replace x3 := M.out.X.cell' 3 _ rfl; replace f3 := M.out.X.free 3; replace x4 := M.out.X.cell' 4 _ rfl; replace f4 := M.out.X.free 4; replace x5 := M.out.X.cell' 5 _ rfl; replace f5 := M.out.X.free 5; replace x6 := M.out.X.cell' 6 _ rfl; replace f6 := M.out.X.free 6; replace x7 := M.out.X.cell' 7 _ rfl; replace f7 := M.out.X.free 7; replace x8 := M.out.X.cell' 8 _ rfl; replace f8 := M.out.X.free 8; replace x9 := M.out.X.cell' 9 _ rfl; replace f9 := M.out.X.free 9; replace x10 := M.out.X.cell' 10 _ rfl; replace f10 := M.out.X.free 10; have K : Hid (KidsB w' (fun k => b0 < k) ka kc x.ks) := Lib.hid (K0.mono fun k hk => Nat.lt_of_lt_of_le XL0.out hk); clear K0; clear tp q))
        refine code_of (fun w2 => Hid (Bm B v zs w b0 #[.int .i64 1, .int .i64 lab, .bool sk, .slice none 0 0, .int .i64 0, .int .i64 (m * 1000000), .slice none 0 0, .int .i64 x.op, .int .i64 x.n, .slice ka x.ks.length kc, .int .i64 0] w2) ∧ Hid (KidsB w2 (fun k => b0 < k) ka kc x.ks)) ⟨Lib.hid (((M.out.set 7 (.int .i64 x.op)).set 8 (.int .i64 x.n)).set 9 (.slice ka x.ks.length kc)), Lib.hid (((K.out.set (p := ⟨b0, 7, none⟩) (fun h => Nat.lt_irrefl _ h) (.int .i64 x.op)).set (p := ⟨b0, 8, none⟩) (fun h => Nat.lt_irrefl _ h) (.int .i64 x.n)).set (p := ⟨b0, 9, none⟩) (fun h => Nat.lt_irrefl _ h) (.slice ka x.ks.length kc))⟩ ?_
        clear M K
        clear xl rl x0 f0 x1 f1 x2 f2 x3 f3 x4 f4 x5 f5 x6 f6 x7 f7 x8 f8 x9 f9 x10 f10
        rintro w2 ⟨M, K⟩
        have XL0 := Lib.hid M.out.X.lt
        replace xl := M.out.X.lt
        replace rl := M.out.R.lt
        replace x0 := M.out.X.cell' 0 _ rfl
        replace f0 := M.out.X.free 0
        replace x1 := M.out.X.cell' 1 _ rfl
        replace f1 := M.out.X.free 1
        replace x2 := M.out.X.cell' 2 _ rfl
        replace f2 := M.out.X.free 2
        replace x3 := M.out.X.cell' 3 _ rfl
        replace f3 := M.out.X.free 3
        replace x4 := M.out.X.cell' 4 _ rfl
        replace f4 := M.out.X.free 4
        replace x5 := M.out.X.cell' 5 _ rfl
        replace f5 := M.out.X.free 5
        replace x6 := M.out.X.cell' 6 _ rfl
        replace f6 := M.out.X.free 6
        replace x7 := M.out.X.cell' 7 _ rfl
        replace f7 := M.out.X.free 7
        replace x8 := M.out.X.cell' 8 _ rfl
        replace f8 := M.out.X.free 8
        replace x9 := M.out.X.cell' 9 _ rfl
        replace f9 := M.out.X.free 9
        replace x10 := M.out.X.cell' 10 _ rfl
        replace f10 := M.out.X.free 10
        have rl := M.out.R.lt
        replace y0 := M.out.R.free 0
        replace y1 := M.out.R.free 1
        replace y2 := M.out.R.free 2
        replace y3 := M.out.R.free 3
        replace y4 := M.out.R.free 4
        replace y5 := M.out.R.free 5
        replace y6 := M.out.R.free 6
        replace y7 := M.out.R.free 7
        replace y8 := M.out.R.free 8
        replace y9 := M.out.R.free 9
        replace y10 := M.out.R.free 10
        replace z0 := M.out.R.cell' 0 _ rfl
        replace z1 := M.out.R.cell' 1 _ rfl
        replace z2 := M.out.R.cell' 2 _ rfl
        replace z3 := M.out.R.cell' 3 _ rfl
        replace z4 := M.out.R.cell' 4 _ rfl
        replace z5 := M.out.R.cell' 5 _ rfl
        replace z6 := M.out.R.cell' 6 _ rfl
        replace z7 := M.out.R.cell' 7 _ rfl
        replace z8 := M.out.R.cell' 8 _ rfl
        replace z9 := M.out.R.cell' 9 _ rfl
        replace z10 := M.out.R.cell' 10 _ rfl
        go_wp2_with fail
        exact bmEnd (b := ⟨1, lab, sk, [], Sy.num (m * 1000000), x, 0⟩) Tryd.results32 rfl rfl M.out (⟨none, 0, none, 0, ka, kc, rfl, WordsB.nil _ _, KidsB.nl none 0 (by decide), (K.out.mono fun k hk => Nat.lt_trans M.out.hb hk)⟩ : BlkB _ (fun k => w.heap.size < k) ⟨1, lab, sk, [], Sy.num (m * 1000000), x, 0⟩ #[.int .i64 1, .int .i64 lab, .bool sk, .slice none 0 0, .int .i64 0, .int .i64 (m * 1000000), .slice none 0 0, .int .i64 x.op, .int .i64 x.n, .slice ka x.ks.length kc, .int .i64 0]) (Sy.dwn1 hla (by omega) (by omega) ok dp) rfl
      · have e1 : (k == 1) = false := beq_eq_false_iff_ne.2 h1
        by_cases h2 : k = 2
        · subst h2
          go_upto_region 17 with fail
          refine code_of (fun w2 => Hid (Bm B v zs w b0 #[.int .i64 2, .int .i64 lab, .bool sk, .slice none 0 0, .int .i64 0, .int .i64 0, .slice none 0 0, .int .i64 0, .int .i64 0, .slice none 0 0, .int .i64 0] w2)) (Lib.hid (M.out.set 0 (.int .i64 2))) ?_
          clear M
          clear xl rl x0 f0 x1 f1 x2 f2 x3 f3 x4 f4 x5 f5 x6 f6 x7 f7 x8 f8 x9 f9 x10 f10
          intro w2 M
          replace M : Hid (Bm B v zs w b0 #[.int .i64 2, .int .i64 lab, .bool sk, .slice none 0 0, .int .i64 0, .int .i64 0, .slice none 0 0, .int .i64 0, .int .i64 0, .slice none 0 0, .int .i64 0] w2) := M
          have XL0 := Lib.hid M.out.X.lt
          replace xl := M.out.X.lt
          replace rl := M.out.R.lt
          replace x0 := M.out.X.cell' 0 _ rfl
          replace f0 := M.out.X.free 0
          replace x1 := M.out.X.cell' 1 _ rfl
          replace f1 := M.out.X.free 1
          replace x2 := M.out.X.cell' 2 _ rfl
          replace f2 := M.out.X.free 2
          replace x3 := M.out.X.cell' 3 _ rfl
          replace f3 := M.out.X.free 3
          replace x4 := M.out.X.cell' 4 _ rfl
          replace f4 := M.out.X.free 4
          replace x5 := M.out.X.cell' 5 _ rfl
          replace f5 := M.out.X.free 5
          replace x6 := M.out.X.cell' 6 _ rfl
          replace f6 := M.out.X.free 6
          replace x7 := M.out.X.cell' 7 _ rfl
          replace f7 := M.out.X.free 7
          replace x8 := M.out.X.cell' 8 _ rfl
          replace f8 := M.out.X.free 8
          replace x9 := M.out.X.cell' 9 _ rfl
          replace f9 := M.out.X.free 9
          replace x10 := M.out.X.cell' 10 _ rfl
          replace f10 := M.out.X.free 10
          go_upto_region 30 with (go_at_call 33; ((with_reducible refine (RG.out _ _ (by decide) (by decide) (by decide) _ M.out.T).mono ?_); rintro e w' ⟨m, rfl, m0, m1, tp, q⟩; replace M := Lib.hid (M.out.px tp q); replace xl := M.out.X.lt; replace rl := M.out.R.lt; replace x0 := M.out.X.cell' 0 _ rfl; replace f0 := M.out.X.free 0; replace x1 := M.out.X.cell' 1 _ rfl; replace f1 := M.out.X.free 1; replace x2 := M.out.X.cell' 2 _ rfl; replace f2 := M.out.X.free 2; replace x3 := M.out.X.cell' 3 _ rfl; replace f3 := M.out.X.free 3; replace x4 := M.out.X.cell' 4 _ rfl; replace f4 := M.out.X.free 4; replace x5 := M.out.X.cell' 5 _ rfl; replace f5 := M.out.X.free 5; replace x6 := M.out.X.cell' 6 _ rfl; replace f6 := M.out.X.free 6; replace x7 := M.out.X.cell' 7 _ rfl; replace f7 := M.out.X.free 7; replace x8 := M.out.X.cell' 8 _ rfl; replace f8 := M.out.X.free 8; replace x9 := M.out.X.cell' 9 _ rfl; replace f9 := M.out.X.free 9; replace x10 := M.out.X.cell' 10 _ rfl; replace f10 := M.out.X.free 10; clear tp q))
          refine code_of (fun w2 => Hid (Bm B v zs w b0 #[.int .i64 2, .int .i64 lab, .bool sk, .slice none 0 0, .int .i64 0, .int .i64 0, .slice none 0 0, .int .i64 0, .int .i64 (m * 1000000), .slice none 0 0, .int .i64 0] w2)) (Lib.hid (((M.out.set 7 (.int .i64 0)).set 8 (.int .i64 (m * 1000000))).set 9 (.slice none 0 0))) ?_
          clear M
          clear xl rl x0 f0 x1 f1 x2 f2 x3 f3 x4 f4 x5 f5 x6 f6 x7 f7 x8 f8 x9 f9 x10 f10
          intro w2 M
          replace M : Hid (Bm B v zs w b0 #[.int .i64 2, .int .i64 lab, .bool sk, .slice none 0 0, .int .i64 0, .int .i64 0, .slice none 0 0, .int .i64 0, .int .i64 (m * 1000000), .slice none 0 0, .int .i64 0] w2) := M
          have XL0 := Lib.hid M.out.X.lt
          replace xl := M.out.X.lt
          replace rl := M.out.R.lt
          replace x0 := M.out.X.cell' 0 _ rfl
          replace f0 := M.out.X.free 0
          replace x1 := M.out.X.cell' 1 _ rfl
          replace f1 := M.out.X.free 1
          replace x2 := M.out.X.cell' 2 _ rfl
          replace f2 := M.out.X.free 2
          replace x3 := M.out.X.cell' 3 _ rfl
          replace f3 := M.out.X.free 3
          replace x4 := M.out.X.cell' 4 _ rfl
          replace f4 := M.out.X.free 4
          replace x5 := M.out.X.cell' 5 _ rfl
          replace f5 := M.out.X.free 5
          replace x6 := M.out.X.cell' 6 _ rfl
          replace f6 := M.out.X.free 6
          replace x7 := M.out.X.cell' 7 _ rfl
          replace f7 := M.out.X.free 7
          replace x8 := M.out.X.cell' 8 _ rfl
          replace f8 := M.out.X.free 8
          replace x9 := M.out.X.cell' 9 _ rfl
          replace f9 := M.out.X.free 9
          replace x10 := M.out.X.cell' 10 _ rfl
          replace f10 := M.out.X.free 10
          have rl := M.out.R.lt
          replace y0 := M.out.R.free 0
          replace y1 := M.out.R.free 1
          replace y2 := M.out.R.free 2
          replace y3 := M.out.R.free 3
          replace y4 := M.out.R.free 4
          replace y5 := M.out.R.free 5
          replace y6 := M.out.R.free 6
          replace y7 := M.out.R.free 7
          replace y8 := M.out.R.free 8
          replace y9 := M.out.R.free 9
          replace y10 := M.out.R.free 10
          replace z0 := M.out.R.cell' 0 _ rfl
          replace z1 := M.out.R.cell' 1 _ rfl
          replace z2 := M.out.R.cell' 2 _ rfl
          replace z3 := M.out.R.cell' 3 _ rfl
          replace z4 := M.out.R.cell' 4 _ rfl
          replace z5 := M.out.R.cell' 5 _ rfl
          replace z6 := M.out.R.cell' 6 _ rfl
          replace z7 := M.out.R.cell' 7 _ rfl
          replace z8 := M.out.R.cell' 8 _ rfl
          replace z9 := M.out.R.cell' 9 _ rfl
          replace z10 := M.out.R.cell' 10 _ rfl
          go_wp2_with fail
          exact bmEnd (b := ⟨2, lab, sk, [], Sy.zx, Sy.num (m * 1000000), 0⟩) Tryd.results32 rfl rfl M.out (⟨none, 0, none, 0, none, 0, rfl, WordsB.nil _ _, KidsB.nl none 0 (by decide), KidsB.nl none 0 (by decide)⟩ : BlkB _ (fun k => w.heap.size < k) ⟨2, lab, sk, [], Sy.zx, Sy.num (m * 1000000), 0⟩ #[.int .i64 2, .int .i64 lab, .bool sk, .slice none 0 0, .int .i64 0, .int .i64 0, .slice none 0 0, .int .i64 0, .int .i64 (m * 1000000), .slice none 0 0, .int .i64 0]) (Sy.dwn2 hla (by omega) (by omega)) rfl
        · have e2 : (k == 2) = false := beq_eq_false_iff_ne.2 h2
          by_cases h3 : k = 3
          · subst h3
            go_upto_region 21 with fail
            refine code_of (fun w2 => Hid (Bm B v zs w b0 #[.int .i64 3, .int .i64 lab, .bool sk, .slice none 0 0, .int .i64 0, .int .i64 0, .slice none 0 0, .int .i64 0, .int .i64 0, .slice none 0 0, .int .i64 0] w2)) (Lib.hid (M.out.set 0 (.int .i64 3))) ?_
            clear M
            clear xl rl x0 f0 x1 f1 x2 f2 x3 f3 x4 f4 x5 f5 x6 f6 x7 f7 x8 f8 x9 f9 x10 f10
            intro w2 M
            replace M : Hid (Bm B v zs w b0 #[.int .i64 3, .int .i64 lab, .bool sk, .slice none 0 0, .int .i64 0, .int .i64 0, .slice none 0 0, .int .i64 0, .int .i64 0, .slice none 0 0, .int .i64 0] w2) := M
            have XL0 := Lib.hid M.out.X.lt
            replace xl := M.out.X.lt
            replace rl := M.out.R.lt
            replace x0 := M.out.X.cell' 0 _ rfl
            replace f0 := M.out.X.free 0
            replace x1 := M.out.X.cell' 1 _ rfl
            replace f1 := M.out.X.free 1
            replace x2 := M.out.X.cell' 2 _ rfl
            replace f2 := M.out.X.free 2
            replace x3 := M.out.X.cell' 3 _ rfl
            replace f3 := M.out.X.free 3
            replace x4 := M.out.X.cell' 4 _ rfl
            replace f4 := M.out.X.free 4
            replace x5 := M.out.X.cell' 5 _ rfl
            replace f5 := M.out.X.free 5
            replace x6 := M.out.X.cell' 6 _ rfl
            replace f6 := M.out.X.free 6
            replace x7 := M.out.X.cell' 7 _ rfl
            replace f7 := M.out.X.free 7
            replace x8 := M.out.X.cell' 8 _ rfl
            replace f8 := M.out.X.free 8
            replace x9 := M.out.X.cell' 9 _ rfl
            replace f9 := M.out.X.free 9
            replace x10 := M.out.X.cell' 10 _ rfl
            replace f10 := M.out.X.free 10
            go_upto_region 22 with (go_at_call 46; ((with_reducible refine (EX3.out _ M.out.T).mono ?_); rintro e w' ⟨x, ka, kc, rfl, ok, dp, K0, tp, q⟩; replace M := Lib.hid (M.out.px tp q); replace xl := M.out.X.lt; replace rl := M.out.R.lt; replace x0 := M.out.X.cell' 0 _ rfl; replace f0 := M.out.X.free 0; replace x1 := M.out.X.cell' 1 _ rfl; replace f1 := M.out.X.free 1; replace x2 := M.out.X.cell' 2 _ rfl; replace f2 := M.out.X.free 2; replace x3 := M.out.X.cell' 3 _ rfl; replace f3 := M.out.X.free 3; replace x4 := M.out.X.cell' 4 _ rfl; replace f4 := M.out.X.free 4; replace x5 := M.out.X.cell' 5 _ rfl; replace f5 := M.out.X.free 5; replace x6 := M.out.X.cell' 6 _ rfl; replace f6 := M.out.X.free 6; replace x7 := M.out.X.cell' 7 _ rfl; replace f7 := M.out.X.free 7; replace x8 := M.out.X.cell' 8 _ rfl; replace f8 := M.out.X.free 8; replace x9 := M.out.X.cell' 9 _ rfl; replace f9 := M.out.X.free 9; replace x10 := M.out.X.cell' 10 _ rfl; replace f10 := M.out.X.free 10; have K : Hid (KidsB w' (fun k => b0 < k) ka kc x.ks) := Lib.hid (K0.mono fun k hk => Nat.lt_of_lt_of_le XL0.out hk); clear K0; clear tp q))
            refine code_of (fun w2 => Hid (Bm B v zs w b0 #[.int .i64 3, .int .i64 lab, .bool sk, .slice none 0 0, .int .i64 0, .int .i64 0, .slice none 0 0, .int .i64 x.op, .int .i64 x.n, .slice ka x.ks.length kc, .int .i64 0] w2) ∧ Hid (KidsB w2 (fun k => b0 < k) ka kc x.ks)) ⟨Lib.hid (((M.out.set 7 (.int .i64 x.op)).set 8 (.int .i64 x.n)).set 9 (.slice ka x.ks.length kc)), Lib.hid (((K.out.set (p := ⟨b0, 7, none⟩) (fun h => Nat.lt_irrefl _ h) (.int .i64 x.op)).set (p := ⟨b0, 8, none⟩) (fun h => Nat.lt_irrefl _ h) (.int .i64 x.n)).set (p := ⟨b0, 9, none⟩) (fun h => Nat.lt_irrefl _ h) (.slice ka x.ks.length kc))⟩ ?_
            clear M K
            clear xl rl x0 f0 x1 f1 x2 f2 x3 f3 x4 f4 x5 f5 x6 f6 x7 f7 x8 f8 x9 f9 x10 f10
            rintro w2 ⟨M, K⟩
            have XL0 := Lib.hid M.out.X.lt
            replace xl := M.out.X.lt
            replace rl := M.out.R.lt
            replace x0 := M.out.X.cell' 0 _ rfl
            replace f0 := M.out.X.free 0
            replace x1 := M.out.X.cell' 1 _ rfl
            replace f1 := M.out.X.free 1
            replace x2 := M.out.X.cell' 2 _ rfl
            replace f2 := M.out.X.free 2
            replace x3 := M.out.X.cell' 3 _ rfl
            replace f3 := M.out.X.free 3
            replace x4 := M.out.X.cell' 4 _ rfl
            replace f4 := M.out.X.free 4
            replace x5 := M.out.X.cell' 5 _ rfl
            replace f5 := M.out.X.free 5
            replace x6 := M.out.X.cell' 6 _ rfl
            replace f6 := M.out.X.free 6
            replace x7 := M.out.X.cell' 7 _ rfl
            replace f7 := M.out.X.free 7
            replace x8 := M.out.X.cell' 8 _ rfl
            replace f8 := M.out.X.free 8
            replace x9 := M.out.X.cell' 9 _ rfl
            replace f9 := M.out.X.free 9
            replace x10 := M.out.X.cell' 10 _ rfl
            replace f10 := M.out.X.free 10
            go_upto_region 30 with (go_at_call 33; ((with_reducible refine (RG.out _ _ (by decide) (by decide) (by decide) _ M.out.T).mono ?_); rintro e w' ⟨m, rfl, m0, m1, tp, q⟩; replace M := Lib.hid (M.out.px tp q); replace xl := M.out.X.lt; replace rl := M.out.R.lt; replace x0 := M.out.X.cell' 0 _ rfl; replace f0 := M.out.X.free 0; replace x1 := M.out.X.cell' 1 _ rfl; replace f1 := M.out.X.free 1; replace x2 := M.out.X.cell' 2 _ rfl; replace f2 := M.out.X.free 2; replace x3 := M.out.X.cell' 3 _ rfl; replace f3 := M.out.X.free 3; replace x4 := M.out.X.cell' 4 _ rfl; replace f4 := M.out.X.free 4; replace x5 := M.out.X.cell' 5 _ rfl; replace f5 := M.out.X.free 5; replace x6 := M.out.X.cell' 6 _ rfl; replace f6 := M.out.X.free 6; replace x7 := M.out.X.cell' 7 _ rfl; replace f7 := M.out.X.free 7; replace x8 := M.out.X.cell' 8 _ rfl; replace f8 := M.out.X.free 8; replace x9 := M.out.X.cell' 9 _ rfl; replace f9 := M.out.X.free 9; replace x10 := M.out.X.cell' 10 _ rfl; replace f10 := M.out.X.free 10; replace K : Hid (KidsB w' (fun k => b0 < k) ka kc x.ks) := Lib.hid (K.out.px (fun k hk => by have h1 := M.out.hB; have h2 := M.out.hb; omega) q); clear tp q))
            refine code_of (fun w2 => Hid (Bm B v zs w b0 #[.int .i64 3, .int .i64 lab, .bool sk, .slice none 0 0, .int .i64 0, .int .i64 (m * 1000000), .slice none 0 0, .int .i64 x.op, .int .i64 x.n, .slice ka x.ks.length kc, .int .i64 0] w2) ∧ Hid (KidsB w2 (fun k => b0 < k) ka kc x.ks)) ⟨Lib.hid (((M.out.set 4 (.int .i64 0)).set 5 (.int .i64 (m * 1000000))).set 6 (.slice none 0 0)), Lib.hid (((K.out.set (p := ⟨b0, 4, none⟩) (fun h => Nat.lt_irrefl _ h) (.int .i64 0)).set (p := ⟨b0, 5, none⟩) (fun h => Nat.lt_irrefl _ h) (.int .i64 (m * 1000000))).set (p := ⟨b0, 6, none⟩) (fun h => Nat.lt_irrefl _ h) (.slice none 0 0))⟩ ?_
            clear M K
            clear xl rl x0 f0 x1 f1 x2 f2 x3 f3 x4 f4 x5 f5 x6 f6 x7 f7 x8 f8 x9 f9 x10 f10
            rintro w2 ⟨M, K⟩
            have XL0 := Lib.hid M.out.X.lt
            replace xl := M.out.X.lt
            replace rl := M.out.R.lt
            replace x0 := M.out.X.cell' 0 _ rfl
            replace f0 := M.out.X.free 0
            replace x1 := M.out.X.cell' 1 _ rfl
            replace f1 := M.out.X.free 1
            replace x2 := M.out.X.cell' 2 _ rfl
            replace f2 := M.out.X.free 2
            replace x3 := M.out.X.cell' 3 _ rfl
            replace f3 := M.out.X.free 3
            replace x4 := M.out.X.cell' 4 _ rfl
            replace f4 := M.out.X.free 4
            replace x5 := M.out.X.cell' 5 _ rfl
            replace f5 := M.out.X.free 5
            replace x6 := M.out.X.cell' 6 _ rfl
            replace f6 := M.out.X.free 6
            replace x7 := M.out.X.cell' 7 _ rfl
            replace f7 := M.out.X.free 7
            replace x8 := M.out.X.cell' 8 _ rfl
            replace f8 := M.out.X.free 8
            replace x9 := M.out.X.cell' 9 _ rfl
            replace f9 := M.out.X.free 9
            replace x10 := M.out.X.cell' 10 _ rfl
            replace f10 := M.out.X.free 10
            have rl := M.out.R.lt
            replace y0 := M.out.R.free 0
            replace y1 := M.out.R.free 1
            replace y2 := M.out.R.free 2
            replace y3 := M.out.R.free 3
            replace y4 := M.out.R.free 4
            replace y5 := M.out.R.free 5
            replace y6 := M.out.R.free 6
            replace y7 := M.out.R.free 7
            replace y8 := M.out.R.free 8
            replace y9 := M.out.R.free 9
            replace y10 := M.out.R.free 10
            replace z0 := M.out.R.cell' 0 _ rfl
            replace z1 := M.out.R.cell' 1 _ rfl
            replace z2 := M.out.R.cell' 2 _ rfl
            replace z3 := M.out.R.cell' 3 _ rfl
            replace z4 := M.out.R.cell' 4 _ rfl
            replace z5 := M.out.R.cell' 5 _ rfl
            replace z6 := M.out.R.cell' 6 _ rfl
            replace z7 := M.out.R.cell' 7 _ rfl
            replace z8 := M.out.R.cell' 8 _ rfl
            replace z9 := M.out.R.cell' 9 _ rfl
            replace z10 := M.out.R.cell' 10 _ rfl
            go_wp2_with fail
            exact bmEnd (b := ⟨3, lab, sk, [], Sy.num (m * 1000000), x, 0⟩) Tryd.results32 rfl rfl M.out (⟨none, 0, none, 0, ka, kc, rfl, WordsB.nil _ _, KidsB.nl none 0 (by decide), (K.out.mono fun k hk => Nat.lt_trans M.out.hb hk)⟩ : BlkB _ (fun k => w.heap.size < k) ⟨3, lab, sk, [], Sy.num (m * 1000000), x, 0⟩ #[.int .i64 3, .int .i64 lab, .bool sk, .slice none 0 0, .int .i64 0, .int .i64 (m * 1000000), .slice none 0 0, .int .i64 x.op, .int .i64 x.n, .slice ka x.ks.length kc, .int .i64 0]) (Sy.dwn3 hla (by omega) (by omega) ok (Nat.le_trans dp (by decide))) rfl
          · have e3 : (k == 3) = false := beq_eq_false_iff_ne.2 h3
            by_cases h4 : k = 4
            · subst h4
              go_upto_region 21 with fail
              refine code_of (fun w2 => Hid (Bm B v zs w b0 #[.int .i64 3, .int .i64 lab, .bool sk, .slice none 0 0, .int .i64 0, .int .i64 0, .slice none 0 0, .int .i64 0, .int .i64 0, .slice none 0 0, .int .i64 0] w2)) (Lib.hid (M.out.set 0 (.int .i64 3))) ?_
              clear M
              clear xl rl x0 f0 x1 f1 x2 f2 x3 f3 x4 f4 x5 f5 x6 f6 x7 f7 x8 f8 x9 f9 x10 f10
              intro w2 M
              replace M : Hid (Bm B v zs w b0 #[.int .i64 3, .int .i64 lab, .bool sk, .slice none 0 0, .int .i64 0, .int .i64 0, .slice none 0 0, .int .i64 0, .int .i64 0, .slice none 0 0, .int .i64 0] w2) := M
              have XL0 := Lib.hid M.out.X.lt
              replace xl := M.out.X.lt
              replace rl := M.out.R.lt
              replace x0 := M.out.X.cell' 0 _ rfl
              replace f0 := M.out.X.free 0
              replace x1 := M.out.X.cell' 1 _ rfl
              replace f1 := M.out.X.free 1
              replace x2 := M.out.X.cell' 2 _ rfl
              replace f2 := M.out.X.free 2
              replace x3 := M.out.X.cell' 3 _ rfl
              replace f3 := M.out.X.free 3
              replace x4 := M.out.X.cell' 4 _ rfl
              replace f4 := M.out.X.free 4
              replace x5 := M.out.X.cell' 5 _ rfl
              replace f5 := M.out.X.free 5
              replace x6 := M.out.X.cell' 6 _ rfl
              replace f6 := M.out.X.free 6
              replace x7 := M.out.X.cell' 7 _ rfl
              replace f7 := M.out.X.free 7
              replace x8 := M.out.X.cell' 8 _ rfl
              replace f8 := M.out.X.free 8
              replace x9 := M.out.X.cell' 9 _ rfl
              replace f9 := M.out.X.free 9
              replace x10 := M.out.X.cell' 10 _ rfl
              replace f10 := M.out.X.free 10
              go_upto_region 22 with (go_at_call 46; ((with_reducible refine (EX3.out _ M.out.T).mono ?_); rintro e w' ⟨x, ka, kc, rfl, ok, dp, K0, tp, q⟩; replace M := Lib.hid (M.out.px tp q); replace xl := M.out.X.lt; replace rl := M.out.R.lt; replace x0 := M.out.X.cell' 0 _ rfl; replace f0 := M.out.X.free 0; replace x1 := M.out.X.cell' 1 _ rfl; replace f1 := M.out.X.free 1; replace x2 := M.out.X.cell' 2 _ rfl; replace f2 := M.out.X.free 2; replace x3 := M.out.X.cell' 3 _ rfl; replace f3 := M.out.X.free 3; replace x4 := M.out.X.cell' 4 _ rfl; replace f4 := M.out.X.free 4; replace x5 := M.out.X.cell' 5 _ rfl; replace f5 := M.out.X.free 5; replace x6 := M.out.X.cell' 6 _ rfl; replace f6 := M.out.X.free 6; replace x7 := M.out.X.cell' 7 _ rfl; replace f7 := M.out.X.free 7; replace x8 := M.out.X.cell' 8 _ rfl; replace f8 := M.out.X.free 8; replace x9 := M.out.X.cell' 9 _ rfl; replace f9 := M.out.X.free 9; replace x10 := M.out.X.cell' 10 _ rfl; replace f10 := M.out.X.free 10; have K : Hid (KidsB w' (fun k => b0 < k) ka kc x.ks) := Lib.hid (K0.mono fun k hk => Nat.lt_of_lt_of_le XL0.out hk); clear K0; clear tp q))
              refine code_of (fun w2 => Hid (Bm B v zs w b0 #[.int .i64 3, .int .i64 lab, .bool sk, .slice none 0 0, .int .i64 0, .int .i64 0, .slice none 0 0, .int .i64 x.op, .int .i64 x.n, .slice ka x.ks.length kc, .int .i64 0] w2) ∧ Hid (KidsB w2 (fun k => b0 < k) ka kc x.ks)) ⟨Lib.hid (((M.out.set 7 (.int .i64 x.op)).set 8 (.int .i64 x.n)).set 9 (.slice ka x.ks.length kc)), Lib.hid (((K.out.set (p := ⟨b0, 7, none⟩) (fun h => Nat.lt_irrefl _ h) (.int .i64 x.op)).set (p := ⟨b0, 8, none⟩) (fun h => Nat.lt_irrefl _ h) (.int .i64 x.n)).set (p := ⟨b0, 9, none⟩) (fun h => Nat.lt_irrefl _ h) (.slice ka x.ks.length kc))⟩ ?_
              clear M K
              clear xl rl x0 f0 x1 f1 x2 f2 x3 f3 x4 f4 x5 f5 x6 f6 x7 f7 x8 f8 x9 f9 x10 f10
              rintro w2 ⟨M, K⟩
              have XL0 := Lib.hid M.out.X.lt
              replace xl := M.out.X.lt
              replace rl := M.out.R.lt
              replace x0 := M.out.X.cell' 0 _ rfl
              replace f0 := M.out.X.free 0
              replace x1 := M.out.X.cell' 1 _ rfl
              replace f1 := M.out.X.free 1
              replace x2 := M.out.X.cell' 2 _ rfl
              replace f2 := M.out.X.free 2
              replace x3 := M.out.X.cell' 3 _ rfl
              replace f3 := M.out.X.free 3
              replace x4 := M.out.X.cell' 4 _ rfl
              replace f4 := M.out.X.free 4
              replace x5 := M.out.X.cell' 5 _ rfl
              replace f5 := M.out.X.free 5
              replace x6 := M.out.X.cell' 6 _ rfl
              replace f6 := M.out.X.free 6
              replace x7 := M.out.X.cell' 7 _ rfl
              replace f7 := M.out.X.free 7
              replace x8 := M.out.X.cell' 8 _ rfl
              replace f8 := M.out.X.free 8
              replace x9 := M.out.X.cell' 9 _ rfl
              replace f9 := M.out.X.free 9
              replace x10 := M.out.X.cell' 10 _ rfl
              replace f10 := M.out.X.free 10
              go_upto_region 30 with (go_at_call 33; ((with_reducible refine (RG.out _ _ (by decide) (by decide) (by decide) _ M.out.T).mono ?_); rintro e w' ⟨m, rfl, m0, m1, tp, q⟩; replace M := Lib.hid (M.out.px tp q); replace xl := M.out.X.lt; replace rl := M.out.R.lt; replace x0 := M.out.X.cell' 0 _ rfl; replace f0 := M.out.X.free 0; replace x1 := M.out.X.cell' 1 _ rfl; replace f1 := M.out.X.free 1; replace x2 := M.out.X.cell' 2 _ rfl; replace f2 := M.out.X.free 2; replace x3 := M.out.X.cell' 3 _ rfl; replace f3 := M.out.X.free 3; replace x4 := M.out.X.cell' 4 _ rfl; replace f4 := M.out.X.free 4; replace x5 := M.out.X.cell' 5 _ rfl; replace f5 := M.out.X.free 5; replace x6 := M.out.X.cell' 6 _ rfl; replace f6 := M.out.X.free 6; replace x7 := M.out.X.cell' 7 _ rfl; replace f7 := M.out.X.free 7; replace x8 := M.out.X.cell' 8 _ rfl; replace f8 := M.out.X.free 8; replace x9 := M.out.X.cell' 9 _ rfl; replace f9 := M.out.X.free 9; replace x10 := M.out.X.cell' 10 _ rfl; replace f10 := M.out.X.free 10; replace K : Hid (KidsB w' (fun k => b0 < k) ka kc x.ks) := Lib.hid (K.out.px (fun k hk => by have h1 := M.out.hB; have h2 := M.out.hb; omega) q); clear tp q))
              refine code_of (fun w2 => Hid (Bm B v zs w b0 #[.int .i64 3, .int .i64 lab, .bool sk, .slice none 0 0, .int .i64 0, .int .i64 (m * 1000000), .slice none 0 0, .int .i64 x.op, .int .i64 x.n, .slice ka x.ks.length kc, .int .i64 0] w2) ∧ Hid (KidsB w2 (fun k => b0 < k) ka kc x.ks)) ⟨Lib.hid (((M.out.set 4 (.int .i64 0)).set 5 (.int .i64 (m * 1000000))).set 6 (.slice none 0 0)), Lib.hid (((K.out.set (p := ⟨b0, 4, none⟩) (fun h => Nat.lt_irrefl _ h) (.int .i64 0)).set (p := ⟨b0, 5, none⟩) (fun h => Nat.lt_irrefl _ h) (.int .i64 (m * 1000000))).set (p := ⟨b0, 6, none⟩) (fun h => Nat.lt_irrefl _ h) (.slice none 0 0))⟩ ?_
              clear M K
              clear xl rl x0 f0 x1 f1 x2 f2 x3 f3 x4 f4 x5 f5 x6 f6 x7 f7 x8 f8 x9 f9 x10 f10
              rintro w2 ⟨M, K⟩
              have XL0 := Lib.hid M.out.X.lt
              replace xl := M.out.X.lt
              replace rl := M.out.R.lt
              replace x0 := M.out.X.cell' 0 _ rfl
              replace f0 := M.out.X.free 0
              replace x1 := M.out.X.cell' 1 _ rfl
              replace f1 := M.out.X.free 1
              replace x2 := M.out.X.cell' 2 _ rfl
              replace f2 := M.out.X.free 2
              replace x3 := M.out.X.cell' 3 _ rfl
              replace f3 := M.out.X.free 3
              replace x4 := M.out.X.cell' 4 _ rfl
              replace f4 := M.out.X.free 4
              replace x5 := M.out.X.cell' 5 _ rfl
              replace f5 := M.out.X.free 5
              replace x6 := M.out.X.cell' 6 _ rfl
              replace f6 := M.out.X.free 6
              replace x7 := M.out.X.cell' 7 _ rfl
              replace f7 := M.out.X.free 7
              replace x8 := M.out.X.cell' 8 _ rfl
              replace f8 := M.out.X.free 8
              replace x9 := M.out.X.cell' 9 _ rfl
              replace f9 := M.out.X.free 9
              replace x10 := M.out.X.cell' 10 _ rfl
              replace f10 := M.out.X.free 10
              have rl := M.out.R.lt
              replace y0 := M.out.R.free 0
              replace y1 := M.out.R.free 1
              replace y2 := M.out.R.free 2
              replace y3 := M.out.R.free 3
              replace y4 := M.out.R.free 4
              replace y5 := M.out.R.free 5
              replace y6 := M.out.R.free 6
              replace y7 := M.out.R.free 7
              replace y8 := M.out.R.free 8
              replace y9 := M.out.R.free 9
              replace y10 := M.out.R.free 10
              replace z0 := M.out.R.cell' 0 _ rfl
              replace z1 := M.out.R.cell' 1 _ rfl
              replace z2 := M.out.R.cell' 2 _ rfl
              replace z3 := M.out.R.cell' 3 _ rfl
              replace z4 := M.out.R.cell' 4 _ rfl
              replace z5 := M.out.R.cell' 5 _ rfl
              replace z6 := M.out.R.cell' 6 _ rfl
              replace z7 := M.out.R.cell' 7 _ rfl
              replace z8 := M.out.R.cell' 8 _ rfl
              replace z9 := M.out.R.cell' 9 _ rfl
              replace z10 := M.out.R.cell' 10 _ rfl
              go_wp2_with fail
              exact bmEnd (b := ⟨3, lab, sk, [], Sy.num (m * 1000000), x, 0⟩) Tryd.results32 rfl rfl M.out (⟨none, 0, none, 0, ka, kc, rfl, WordsB.nil _ _, KidsB.nl none 0 (by decide), (K.out.mono fun k hk => Nat.lt_trans M.out.hb hk)⟩ : BlkB _ (fun k => w.heap.size < k) ⟨3, lab, sk, [], Sy.num (m * 1000000), x, 0⟩ #[.int .i64 3, .int .i64 lab, .bool sk, .slice none 0 0, .int .i64 0, .int .i64 (m * 1000000), .slice none 0 0, .int .i64 x.op, .int .i64 x.n, .slice ka x.ks.length kc, .int .i64 0]) (Sy.dwn3 hla (by omega) (by omega) ok (Nat.le_trans dp (by decide))) rfl
            · have e4 : (k == 4) = false := beq_eq_false_iff_ne.2 h4
              by_cases h5 : k = 5
              · subst h5
                go_upto_region 30 with (first
                    | (go_at_call 46; ((with_reducible refine (EX3.out _ M.out.T).mono ?_); rintro e w' ⟨x, ka, kc, rfl, ok, dp, K0, tp, q⟩; replace M := Lib.hid (M.out.px tp q); replace xl := M.out.X.lt; replace rl := M.out.R.lt; replace x0 := M.out.X.cell' 0 _ rfl; replace f0 := M.out.X.free 0; replace x1 := M.out.X.cell' 1 _ rfl; replace f1 := M.out.X.free 1; replace x2 := M.out.X.cell' 2 _ rfl; replace f2 := M.out.X.free 2; replace x3 := M.out.X.cell' 3 _ rfl; replace f3 := M.out.X.free 3; replace x4 := M.out.X.cell' 4 _ rfl; replace f4 := M.out.X.free 4; replace x5 := M.out.X.cell' 5 _ rfl; replace f5 := M.out.X.free 5; replace x6 := M.out.X.cell' 6 _ rfl; replace f6 := M.out.X.free 6; replace x7 := M.out.X.cell' 7 _ rfl; replace f7 := M.out.X.free 7; replace x8 := M.out.X.cell' 8 _ rfl; replace f8 := M.out.X.free 8; replace x9 := M.out.X.cell' 9 _ rfl; replace f9 := M.out.X.free 9; replace x10 := M.out.X.cell' 10 _ rfl; replace f10 := M.out.X.free 10; have K : Hid (KidsB w' (fun k => b0 < k) ka kc x.ks) := Lib.hid (K0.mono fun k hk => Nat.lt_of_lt_of_le XL0.out hk); clear K0; clear tp q))
                    | (go_at_call 33; ((with_reducible refine (RG.out _ _ (by decide) (by decide) (by decide) _ M.out.T).mono ?_); rintro e w' ⟨m, rfl, m0, m1, tp, q⟩; replace M := Lib.hid (M.out.px tp q); replace xl := M.out.X.lt; replace rl := M.out.R.lt; replace x0 := M.out.X.cell' 0 _ rfl; replace f0 := M.out.X.free 0; replace x1 := M.out.X.cell' 1 _ rfl; replace f1 := M.out.X.free 1; replace x2 := M.out.X.cell' 2 _ rfl; replace f2 := M.out.X.free 2; replace x3 := M.out.X.cell' 3 _ rfl; replace f3 := M.out.X.free 3; replace x4 := M.out.X.cell' 4 _ rfl; replace f4 := M.out.X.free 4; replace x5 := M.out.X.cell' 5 _ rfl; replace f5 := M.out.X.free 5; replace x6 := M.out.X.cell' 6 _ rfl; replace f6 := M.out.X.free 6; replace x7 := M.out.X.cell' 7 _ rfl; replace f7 := M.out.X.free 7; replace x8 := M.out.X.cell' 8 _ rfl; replace f8 := M.out.X.free 8; replace x9 := M.out.X.cell' 9 _ rfl; replace f9 := M.out.X.free 9; replace x10 := M.out.X.cell' 10 _ rfl; replace f10 := M.out.X.free 10; replace K : Hid (KidsB w' (fun k => b0 < k) ka kc x.ks) := Lib.hid (K.out.px (fun k hk => by have h1 := M.out.hB; have h2 := M.out.hb; omega) q); clear tp q)))
                refine code_of (fun w2 => Hid (Bm B v zs w b0 #[.int .i64 4, .int .i64 lab, .bool sk, .slice none 0 0, .int .i64 0, .int .i64 0, .slice none 0 0, .int .i64 x.op, .int .i64 x.n, .slice ka x.ks.length kc, .int .i64 m] w2) ∧ Hid (KidsB w2 (fun k => b0 < k) ka kc x.ks)) ⟨Lib.hid (((((M.out.set 0 (.int .i64 4)).set 7 (.int .i64 x.op)).set 8 (.int .i64 x.n)).set 9 (.slice ka x.ks.length kc)).set 10 (.int .i64 m)), Lib.hid (((((K.out.set (p := ⟨b0, 0, none⟩) (fun h => Nat.lt_irrefl _ h) (.int .i64 4)).set (p := ⟨b0, 7, none⟩) (fun h => Nat.lt_irrefl _ h) (.int .i64 x.op)).set (p := ⟨b0, 8, none⟩) (fun h => Nat.lt_irrefl _ h) (.int .i64 x.n)).set (p := ⟨b0, 9, none⟩) (fun h => Nat.lt_irrefl _ h) (.slice ka x.ks.length kc)).set (p := ⟨b0, 10, none⟩) (fun h => Nat.lt_irrefl _ h) (.int .i64 m))⟩ ?_
                clear M K
                clear xl rl x0 f0 x1 f1 x2 f2 x3 f3 x4 f4 x5 f5 x6 f6 x7 f7 x8 f8 x9 f9 x10 f10
                rintro w2 ⟨M, K⟩
                have XL0 := Lib.hid M.out.X.lt
                replace xl := M.out.X.lt
                replace rl := M.out.R.lt
                replace x0 := M.out.X.cell' 0 _ rfl
                replace f0 := M.out.X.free 0
                replace x1 := M.out.X.cell' 1 _ rfl
                replace f1 := M.out.X.free 1
                replace x2 := M.out.X.cell' 2 _ rfl
                replace f2 := M.out.X.free 2
                replace x3 := M.out.X.cell' 3 _ rfl
                replace f3 := M.out.X.free 3
                replace x4 := M.out.X.cell' 4 _ rfl
                replace f4 := M.out.X.free 4
                replace x5 := M.out.X.cell' 5 _ rfl
                replace f5 := M.out.X.free 5
                replace x6 := M.out.X.cell' 6 _ rfl
                replace f6 := M.out.X.free 6
                replace x7 := M.out.X.cell' 7 _ rfl
                replace f7 := M.out.X.free 7
                replace x8 := M.out.X.cell' 8 _ rfl
                replace f8 := M.out.X.free 8
                replace x9 := M.out.X.cell' 9 _ rfl
                replace f9 := M.out.X.free 9
                replace x10 := M.out.X.cell' 10 _ rfl
                replace f10 := M.out.X.free 10
                have rl := M.out.R.lt
                replace y0 := M.out.R.free 0
                replace y1 := M.out.R.free 1
                replace y2 := M.out.R.free 2
                replace y3 := M.out.R.free 3
                replace y4 := M.out.R.free 4
                replace y5 := M.out.R.free 5
                replace y6 := M.out.R.free 6
                replace y7 := M.out.R.free 7
                replace y8 := M.out.R.free 8
                replace y9 := M.out.R.free 9
                replace y10 := M.out.R.free 10
                replace z0 := M.out.R.cell' 0 _ rfl
                replace z1 := M.out.R.cell' 1 _ rfl
                replace z2 := M.out.R.cell' 2 _ rfl
                replace z3 := M.out.R.cell' 3 _ rfl
                replace z4 := M.out.R.cell' 4 _ rfl
                replace z5 := M.out.R.cell' 5 _ rfl
                replace z6 := M.out.R.cell' 6 _ rfl
                replace z7 := M.out.R.cell' 7 _ rfl
                replace z8 := M.out.R.cell' 8 _ rfl
                replace z9 := M.out.R.cell' 9 _ rfl
                replace z10 := M.out.R.cell' 10 _ rfl
                go_wp2_with fail
                exact bmEnd (b := ⟨4, lab, sk, [], Sy.zx, x, m⟩) Tryd.results32 rfl rfl M.out (⟨none, 0, none, 0, ka, kc, rfl, WordsB.nil _ _, KidsB.nl none 0 (by decide), (K.out.mono fun k hk => Nat.lt_trans M.out.hb hk)⟩ : BlkB _ (fun k => w.heap.size < k) ⟨4, lab, sk, [], Sy.zx, x, m⟩ #[.int .i64 4, .int .i64 lab, .bool sk, .slice none 0 0, .int .i64 0, .int .i64 0, .slice none 0 0, .int .i64 x.op, .int .i64 x.n, .slice ka x.ks.length kc, .int .i64 m]) (Sy.dwn4 hla (by omega) (by omega) ok (Nat.le_trans dp (by decide))) rfl
              · have e5 : (k == 5) = false := beq_eq_false_iff_ne.2 h5
                by_cases h6 : k = 6
                · subst h6
                  go_upto_region 30 with (go_at_call 33; ((with_reducible refine (RG.out _ _ (by decide) (by decide) (by decide) _ M.out.T).mono ?_); rintro e w' ⟨m, rfl, m0, m1, tp, q⟩; replace M := Lib.hid (M.out.px tp q); replace xl := M.out.X.lt; replace rl := M.out.R.lt; replace x0 := M.out.X.cell' 0 _ rfl; replace f0 := M.out.X.free 0; replace x1 := M.out.X.cell' 1 _ rfl; replace f1 := M.out.X.free 1; replace x2 := M.out.X.cell' 2 _ rfl; replace f2 := M.out.X.free 2; replace x3 := M.out.X.cell' 3 _ rfl; replace f3 := M.out.X.free 3; replace x4 := M.out.X.cell' 4 _ rfl; replace f4 := M.out.X.free 4; replace x5 := M.out.X.cell' 5 _ rfl; replace f5 := M.out.X.free 5; replace x6 := M.out.X.cell' 6 _ rfl; replace f6 := M.out.X.free 6; replace x7 := M.out.X.cell' 7 _ rfl; replace f7 := M.out.X.free 7; replace x8 := M.out.X.cell' 8 _ rfl; replace f8 := M.out.X.free 8; replace x9 := M.out.X.cell' 9 _ rfl; replace f9 := M.out.X.free 9; replace x10 := M.out.X.cell' 10 _ rfl; replace f10 := M.out.X.free 10; clear tp q))
                  refine code_of (fun w2 => Hid (Bm B v zs w b0 #[.int .i64 5, .int .i64 lab, .bool sk, .slice none 0 0, .int .i64 0, .int .i64 0, .slice none 0 0, .int .i64 0, .int .i64 0, .slice none 0 0, .int .i64 m] w2)) (Lib.hid ((M.out.set 0 (.int .i64 5)).set 10 (.int .i64 m))) ?_
                  clear M
                  clear xl rl x0 f0 x1 f1 x2 f2 x3 f3 x4 f4 x5 f5 x6 f6 x7 f7 x8 f8 x9 f9 x10 f10
                  intro w2 M
                  replace M : Hid (Bm B v zs w b0 #[.int .i64 5, .int .i64 lab, .bool sk, .slice none 0 0, .int .i64 0, .int .i64 0, .slice none 0 0, .int .i64 0, .int .i64 0, .slice none 0 0, .int .i64 m] w2) := M
                  have XL0 := Lib.hid M.out.X.lt
                  replace xl := M.out.X.lt
                  replace rl := M.out.R.lt
                  replace x0 := M.out.X.cell' 0 _ rfl
                  replace f0 := M.out.X.free 0
                  replace x1 := M.out.X.cell' 1 _ rfl
                  replace f1 := M.out.X.free 1
                  replace x2 := M.out.X.cell' 2 _ rfl
                  replace f2 := M.out.X.free 2
                  replace x3 := M.out.X.cell' 3 _ rfl
                  replace f3 := M.out.X.free 3
                  replace x4 := M.out.X.cell' 4 _ rfl
                  replace f4 := M.out.X.free 4
                  replace x5 := M.out.X.cell' 5 _ rfl
                  replace f5 := M.out.X.free 5
                  replace x6 := M.out.X.cell' 6 _ rfl
                  replace f6 := M.out.X.free 6
                  replace x7 := M.out.X.cell' 7 _ rfl
                  replace f7 := M.out.X.free 7
                  replace x8 := M.out.X.cell' 8 _ rfl
                  replace f8 := M.out.X.free 8
                  replace x9 := M.out.X.cell' 9 _ rfl
                  replace f9 := M.out.X.free 9
                  replace x10 := M.out.X.cell' 10 _ rfl
                  replace f10 := M.out.X.free 10
                  have rl := M.out.R.lt
                  replace y0 := M.out.R.free 0
                  replace y1 := M.out.R.free 1
                  replace y2 := M.out.R.free 2
                  replace y3 := M.out.R.free 3
                  replace y4 := M.out.R.free 4
                  replace y5 := M.out.R.free 5
                  replace y6 := M.out.R.free 6
                  replace y7 := M.out.R.free 7
                  replace y8 := M.out.R.free 8
                  replace y9 := M.out.R.free 9
                  replace y10 := M.out.R.free 10
                  replace z0 := M.out.R.cell' 0 _ rfl
                  replace z1 := M.out.R.cell' 1 _ rfl
                  replace z2 := M.out.R.cell' 2 _ rfl
                  replace z3 := M.out.R.cell' 3 _ rfl
                  replace z4 := M.out.R.cell' 4 _ rfl
                  replace z5 := M.out.R.cell' 5 _ rfl
                  replace z6 := M.out.R.cell' 6 _ rfl
                  replace z7 := M.out.R.cell' 7 _ rfl
                  replace z8 := M.out.R.cell' 8 _ rfl
                  replace z9 := M.out.R.cell' 9 _ rfl
                  replace z10 := M.out.R.cell' 10 _ rfl
                  go_wp2_with fail
                  exact bmEnd (b := ⟨5, lab, sk, [], Sy.zx, Sy.zx, m⟩) Tryd.results32 rfl rfl M.out (⟨none, 0, none, 0, none, 0, rfl, WordsB.nil _ _, KidsB.nl none 0 (by decide), KidsB.nl none 0 (by decide)⟩ : BlkB _ (fun k => w.heap.size < k) ⟨5, lab, sk, [], Sy.zx, Sy.zx, m⟩ #[.int .i64 5, .int .i64 lab, .bool sk, .slice none 0 0, .int .i64 0, .int .i64 0, .slice none 0 0, .int .i64 0, .int .i64 0, .slice none 0 0, .int .i64 m]) (Sy.dwn5 hla (by omega) (by omega)) rfl
                · have e6 : (k == 6) = false := beq_eq_false_iff_ne.2 h6
                  by_cases h7 : k = 7
                  · subst h7
                    go_upto_if 90 with (go_at_call 29; ((with_reducible refine (C.out _ (by decide) (by decide) _ M.out.T).mono ?_); rintro e w' ⟨r2, rfl, r20, r21, tp, q⟩; replace M := Lib.hid (M.out.px tp q); replace xl := M.out.X.lt; replace rl := M.out.R.lt; replace x0 := M.out.X.cell' 0 _ rfl; replace f0 := M.out.X.free 0; replace x1 := M.out.X.cell' 1 _ rfl; replace f1 := M.out.X.free 1; replace x2 := M.out.X.cell' 2 _ rfl; replace f2 := M.out.X.free 2; replace x3 := M.out.X.cell' 3 _ rfl; replace f3 := M.out.X.free 3; replace x4 := M.out.X.cell' 4 _ rfl; replace f4 := M.out.X.free 4; replace x5 := M.out.X.cell' 5 _ rfl; replace f5 := M.out.X.free 5; replace x6 := M.out.X.cell' 6 _ rfl; replace f6 := M.out.X.free 6; replace x7 := M.out.X.cell' 7 _ rfl; replace f7 := M.out.X.free 7; replace x8 := M.out.X.cell' 8 _ rfl; replace f8 := M.out.X.free 8; replace x9 := M.out.X.cell' 9 _ rfl; replace f9 := M.out.X.free 9; replace x10 := M.out.X.cell' 10 _ rfl; replace f10 := M.out.X.free 10; clear tp q))
                    by_cases h9 : r2 = 0
                    · subst h9
                      go_upto_region 30 with (go_at_call 33; ((with_reducible refine (RG.out _ _ (by decide) (by decide) (by decide) _ M.out.T).mono ?_); rintro e w' ⟨m, rfl, m0, m1, tp, q⟩; replace M := Lib.hid (M.out.px tp q); replace xl := M.out.X.lt; replace rl := M.out.R.lt; replace x0 := M.out.X.cell' 0 _ rfl; replace f0 := M.out.X.free 0; replace x1 := M.out.X.cell' 1 _ rfl; replace f1 := M.out.X.free 1; replace x2 := M.out.X.cell' 2 _ rfl; replace f2 := M.out.X.free 2; replace x3 := M.out.X.cell' 3 _ rfl; replace f3 := M.out.X.free 3; replace x4 := M.out.X.cell' 4 _ rfl; replace f4 := M.out.X.free 4; replace x5 := M.out.X.cell' 5 _ rfl; replace f5 := M.out.X.free 5; replace x6 := M.out.X.cell' 6 _ rfl; replace f6 := M.out.X.free 6; replace x7 := M.out.X.cell' 7 _ rfl; replace f7 := M.out.X.free 7; replace x8 := M.out.X.cell' 8 _ rfl; replace f8 := M.out.X.free 8; replace x9 := M.out.X.cell' 9 _ rfl; replace f9 := M.out.X.free 9; replace x10 := M.out.X.cell' 10 _ rfl; replace f10 := M.out.X.free 10; clear tp q))
                      refine code_of (fun w2 => Hid (Bm B v zs w b0 #[.int .i64 6, .int .i64 lab, .bool sk, .slice none 0 0, .int .i64 0, .int .i64 0, .slice none 0 0, .int .i64 0, .int .i64 0, .slice none 0 0, .int .i64 m] w2)) (Lib.hid ((M.out.set 0 (.int .i64 6)).set 10 (.int .i64 m))) ?_
                      clear M
                      clear xl rl x0 f0 x1 f1 x2 f2 x3 f3 x4 f4 x5 f5 x6 f6 x7 f7 x8 f8 x9 f9 x10 f10
                      intro w2 M
                      replace M : Hid (Bm B v zs w b0 #[.int .i64 6, .int .i64 lab, .bool sk, .slice none 0 0, .int .i64 0, .int .i64 0, .slice none 0 0, .int .i64 0, .int .i64 0, .slice none 0 0, .int .i64 m] w2) := M
                      have XL0 := Lib.hid M.out.X.lt
                      replace xl := M.out.X.lt
                      replace rl := M.out.R.lt
                      replace x0 := M.out.X.cell' 0 _ rfl
                      replace f0 := M.out.X.free 0
                      replace x1 := M.out.X.cell' 1 _ rfl
                      replace f1 := M.out.X.free 1
                      replace x2 := M.out.X.cell' 2 _ rfl
                      replace f2 := M.out.X.free 2
                      replace x3 := M.out.X.cell' 3 _ rfl
                      replace f3 := M.out.X.free 3
                      replace x4 := M.out.X.cell' 4 _ rfl
                      replace f4 := M.out.X.free 4
                      replace x5 := M.out.X.cell' 5 _ rfl
                      replace f5 := M.out.X.free 5
                      replace x6 := M.out.X.cell' 6 _ rfl
                      replace f6 := M.out.X.free 6
                      replace x7 := M.out.X.cell' 7 _ rfl
                      replace f7 := M.out.X.free 7
                      replace x8 := M.out.X.cell' 8 _ rfl
                      replace f8 := M.out.X.free 8
                      replace x9 := M.out.X.cell' 9 _ rfl
                      replace f9 := M.out.X.free 9
                      replace x10 := M.out.X.cell' 10 _ rfl
                      replace f10 := M.out.X.free 10
                      have rl := M.out.R.lt
                      replace y0 := M.out.R.free 0
                      replace y1 := M.out.R.free 1
                      replace y2 := M.out.R.free 2
                      replace y3 := M.out.R.free 3
                      replace y4 := M.out.R.free 4
                      replace y5 := M.out.R.free 5
                      replace y6 := M.out.R.free 6
                      replace y7 := M.out.R.free 7
                      replace y8 := M.out.R.free 8
                      replace y9 := M.out.R.free 9
                      replace y10 := M.out.R.free 10
                      replace z0 := M.out.R.cell' 0 _ rfl
                      replace z1 := M.out.R.cell' 1 _ rfl
                      replace z2 := M.out.R.cell' 2 _ rfl
                      replace z3 := M.out.R.cell' 3 _ rfl
                      replace z4 := M.out.R.cell' 4 _ rfl
                      replace z5 := M.out.R.cell' 5 _ rfl
                      replace z6 := M.out.R.cell' 6 _ rfl
                      replace z7 := M.out.R.cell' 7 _ rfl
                      replace z8 := M.out.R.cell' 8 _ rfl
                      replace z9 := M.out.R.cell' 9 _ rfl
                      replace z10 := M.out.R.cell' 10 _ rfl
                      go_wp2_with fail
                      exact bmEnd (b := ⟨6, lab, sk, [], Sy.zx, Sy.zx, m⟩) Tryd.results32 rfl rfl M.out (⟨none, 0, none, 0, none, 0, rfl, WordsB.nil _ _, KidsB.nl none 0 (by decide), KidsB.nl none 0 (by decide)⟩ : BlkB _ (fun k => w.heap.size < k) ⟨6, lab, sk, [], Sy.zx, Sy.zx, m⟩ #[.int .i64 6, .int .i64 lab, .bool sk, .slice none 0 0, .int .i64 0, .int .i64 0, .slice none 0 0, .int .i64 0, .int .i64 0, .slice none 0 0, .int .i64 m]) (Sy.dwn6 hla (by omega) (by omega)) rfl
                    · have e9 : (r2 == 0) = false := beq_eq_false_iff_ne.2 h9
                      go_upto_region 30 with fail
                      have rl := M.out.R.lt
                      replace y0 := M.out.R.free 0
                      replace y1 := M.out.R.free 1
                      replace y2 := M.out.R.free 2
                      replace y3 := M.out.R.free 3
                      replace y4 := M.out.R.free 4
                      replace y5 := M.out.R.free 5
                      replace y6 := M.out.R.free 6
                      replace y7 := M.out.R.free 7
                      replace y8 := M.out.R.free 8
                      replace y9 := M.out.R.free 9
                      replace y10 := M.out.R.free 10
                      replace z0 := M.out.R.cell' 0 _ rfl
                      replace z1 := M.out.R.cell' 1 _ rfl
                      replace z2 := M.out.R.cell' 2 _ rfl
                      replace z3 := M.out.R.cell' 3 _ rfl
                      replace z4 := M.out.R.cell' 4 _ rfl
                      replace z5 := M.out.R.cell' 5 _ rfl
                      replace z6 := M.out.R.cell' 6 _ rfl
                      replace z7 := M.out.R.cell' 7 _ rfl
                      replace z8 := M.out.R.cell' 8 _ rfl
                      replace z9 := M.out.R.cell' 9 _ rfl
                      replace z10 := M.out.R.cell' 10 _ rfl
                      go_wp2_with fail
                      exact bmEnd (b := ⟨0, lab, sk, [], Sy.zx, Sy.zx, 0⟩) Tryd.results32 rfl rfl M.out (⟨none, 0, none, 0, none, 0, rfl, WordsB.nil _ _, KidsB.nl none 0 (by decide), KidsB.nl none 0 (by decide)⟩ : BlkB _ (fun k => w.heap.size < k) ⟨0, lab, sk, [], Sy.zx, Sy.zx, 0⟩ #[.int .i64 0, .int .i64 lab, .bool sk, .slice none 0 0, .int .i64 0, .int .i64 0, .slice none 0 0, .int .i64 0, .int .i64 0, .slice none 0 0, .int .i64 0]) (Sy.dwn0 hla (by decide) (fun w hw => by simp at hw)) rfl
                  · have e7 : (k == 7) = false := beq_eq_false_iff_ne.2 h7
                    go_wp2_with (go_at_call 29; ((with_reducible refine (C.out _ (by decide) (by decide) _ M.out.T).mono ?_); rintro e w' ⟨n, rfl, n0, n1, tp, q⟩; replace M := Lib.hid (M.out.px tp q); replace xl := M.out.X.lt; replace rl := M.out.R.lt; replace x0 := M.out.X.cell' 0 _ rfl; replace f0 := M.out.X.free 0; replace x1 := M.out.X.cell' 1 _ rfl; replace f1 := M.out.X.free 1; replace x2 := M.out.X.cell' 2 _ rfl; replace f2 := M.out.X.free 2; replace x3 := M.out.X.cell' 3 _ rfl; replace f3 := M.out.X.free 3; replace x4 := M.out.X.cell' 4 _ rfl; replace f4 := M.out.X.free 4; replace x5 := M.out.X.cell' 5 _ rfl; replace f5 := M.out.X.free 5; replace x6 := M.out.X.cell' 6 _ rfl; replace f6 := M.out.X.free 6; replace x7 := M.out.X.cell' 7 _ rfl; replace f7 := M.out.X.free 7; replace x8 := M.out.X.cell' 8 _ rfl; replace f8 := M.out.X.free 8; replace x9 := M.out.X.cell' 9 _ rfl; replace f9 := M.out.X.free 9; replace x10 := M.out.X.cell' 10 _ rfl; replace f10 := M.out.X.free 10; clear tp q))
                    have BW : Hid (Bw B v zs w b0 lab sk (.slice none 0 0) [] w') := Lib.hid ⟨M.out, World.ownsRow_nil _ _ _ _, (fun d hd => by simp at hd), (fun d hd => by simp at hd)⟩
                    clear M
                    clear xl rl x0 f0 x1 f1 x2 f2 x3 f3 x4 f4 x5 f5 x6 f6 x7 f7 x8 f8 x9 f9 x10 f10 XL0
                    go_loopw [4] (fun nv wr => ∃ (n : Int) (sv : Value) (ds : List Wd), nv = .int .i64 n ∧ 0 ≤ n ∧ n + (ds.length : Int) ≤ 3 ∧ Hid (Bw B v zs w b0 lab sk sv ds wr)) (fun nv _ => (intOf nv).toNat)
                    case atStart => exact ⟨n, _, [], rfl, by omega, by simp; omega, BW⟩
                    case round =>
                      clear BW
                      obtain ⟨n, sv, ds, rfl, n0, nl, BW⟩ := hrel
                      have M := Lib.hid BW.out.M
                      replace xl := M.out.X.lt
                      replace rl := M.out.R.lt
                      replace x0 := M.out.X.cell' 0 _ rfl
                      replace f0 := M.out.X.free 0
                      replace x1 := M.out.X.cell' 1 _ rfl
                      replace f1 := M.out.X.free 1
                      replace x2 := M.out.X.cell' 2 _ rfl
                      replace f2 := M.out.X.free 2
                      replace x3 := M.out.X.cell' 3 _ rfl
                      replace f3 := M.out.X.free 3
                      replace x4 := M.out.X.cell' 4 _ rfl
                      replace f4 := M.out.X.free 4
                      replace x5 := M.out.X.cell' 5 _ rfl
                      replace f5 := M.out.X.free 5
                      replace x6 := M.out.X.cell' 6 _ rfl
                      replace f6 := M.out.X.free 6
                      replace x7 := M.out.X.cell' 7 _ rfl
                      replace f7 := M.out.X.free 7
                      replace x8 := M.out.X.cell' 8 _ rfl
                      replace f8 := M.out.X.free 8
                      replace x9 := M.out.X.cell' 9 _ rfl
                      replace f9 := M.out.X.free 9
                      replace x10 := M.out.X.cell' 10 _ rfl
                      replace f10 := M.out.X.free 10
                      by_cases hn : 0 < n
                      · go_upto_region 9 with fail
                        go_region_law (first
                            | (have BA := Lib.hid (BW.out.kept (Qw.al (Qw.refl w') (.cells #[.int .i64 c, .int .i64 x.op, .int .i64 x.n, .slice ka x.ks.length kc] 56))); have KA := Lib.hid (KD.out.alloc (.cells #[.int .i64 c, .int .i64 x.op, .int .i64 x.n, .slice ka x.ks.length kc] 56)); refine step_word (w := w'.alloc (.cells #[.int .i64 c, .int .i64 x.op, .int .i64 x.n, .slice ka x.ks.length kc] 56)) rfl 25 36 rfl ⟨c, x, ka, kc⟩ (b0 + 1) sv ds w'.heap.size (by simp [Act.eval, Act.put]) (by simp [Act.eval, Act.put]) (Bx.new w' _ _) BA.out.O (by omega) (by have h1 := BW.out.M.X.lt; simp; omega) ?_; intro v' w3 ho hg hn; obtain ⟨va, vn, vc, rfl⟩ := ho.shape; replace M := Lib.hid (BA.out.M.grow hg (fun g e => (BA.out.O.lt e).1)); have B3 := Lib.hid (BA.out.app KA.out ⟨hc, ok, dp⟩ ho hg hn); clear ho hg hn; replace xl := M.out.X.lt; replace rl := M.out.R.lt; replace x0 := M.out.X.cell' 0 _ rfl; replace f0 := M.out.X.free 0; replace x1 := M.out.X.cell' 1 _ rfl; replace f1 := M.out.X.free 1; replace x2 := M.out.X.cell' 2 _ rfl; replace f2 := M.out.X.free 2; replace x3 := M.out.X.cell' 3 _ rfl; replace f3 := M.out.X.free 3; replace x4 := M.out.X.cell' 4 _ rfl; replace f4 := M.out.X.free 4; replace x5 := M.out.X.cell' 5 _ rfl; replace f5 := M.out.X.free 5; replace x6 := M.out.X.cell' 6 _ rfl; replace f6 := M.out.X.free 6; replace x7 := M.out.X.cell' 7 _ rfl; replace f7 := M.out.X.free 7; replace x8 := M.out.X.cell' 8 _ rfl; replace f8 := M.out.X.free 8; replace x9 := M.out.X.cell' 9 _ rfl; replace f9 := M.out.X.free 9; replace x10 := M.out.X.cell' 10 _ rfl; replace f10 := M.out.X.free 10)
                            | (go_simp; go_wp2_with (first
                              | (go_at_call 29; ((with_reducible refine (C.out _ (by decide) (by decide) _ (BW.out.kept (show Qw _ _ by repeat (first | exact Qw.refl _ | refine Qw.al ?_ _ | refine Qw.dr ?_ | refine Qw.dn ?_ _))).M.T).mono ?_); rintro e w' ⟨r2, rfl, r20, r21, tp, q⟩; replace BW := Lib.hid ((BW.out.kept (show Qw _ _ by repeat (first | exact Qw.refl _ | refine Qw.al ?_ _ | refine Qw.dr ?_ | refine Qw.dn ?_ _))).px tp q); obtain ⟨c, hc, c0, c1, hix⟩ := idx13 r2 r20 r21; have hwc : IntKind.i64.wrap c = c := IntWalk.i64_in _ (by omega); replace M := Lib.hid BW.out.M; replace xl := M.out.X.lt; replace rl := M.out.R.lt; replace x0 := M.out.X.cell' 0 _ rfl; replace f0 := M.out.X.free 0; replace x1 := M.out.X.cell' 1 _ rfl; replace f1 := M.out.X.free 1; replace x2 := M.out.X.cell' 2 _ rfl; replace f2 := M.out.X.free 2; replace x3 := M.out.X.cell' 3 _ rfl; replace f3 := M.out.X.free 3; replace x4 := M.out.X.cell' 4 _ rfl; replace f4 := M.out.X.free 4; replace x5 := M.out.X.cell' 5 _ rfl; replace f5 := M.out.X.free 5; replace x6 := M.out.X.cell' 6 _ rfl; replace f6 := M.out.X.free 6; replace x7 := M.out.X.cell' 7 _ rfl; replace f7 := M.out.X.free 7; replace x8 := M.out.X.cell' 8 _ rfl; replace f8 := M.out.X.free 8; replace x9 := M.out.X.cell' 9 _ rfl; replace f9 := M.out.X.free 9; replace x10 := M.out.X.cell' 10 _ rfl; replace f10 := M.out.X.free 10; clear tp q))
                              | (go_at_call 46; ((with_reducible refine (EX2.out _ (BW.out.kept (show Qw _ _ by repeat (first | exact Qw.refl _ | refine Qw.al ?_ _ | refine Qw.dr ?_ | refine Qw.dn ?_ _))).M.T).mono ?_); rintro e w' ⟨x, ka, kc, rfl, ok, dp, K0, tp, q⟩; have KD := Lib.hid (BW.out.kid (show Qw _ _ by repeat (first | exact Qw.refl _ | refine Qw.al ?_ _ | refine Qw.dr ?_ | refine Qw.dn ?_ _)) K0); replace BW := Lib.hid ((BW.out.kept (show Qw _ _ by repeat (first | exact Qw.refl _ | refine Qw.al ?_ _ | refine Qw.dr ?_ | refine Qw.dn ?_ _))).px tp q); replace M := Lib.hid BW.out.M; replace xl := M.out.X.lt; replace rl := M.out.R.lt; replace x0 := M.out.X.cell' 0 _ rfl; replace f0 := M.out.X.free 0; replace x1 := M.out.X.cell' 1 _ rfl; replace f1 := M.out.X.free 1; replace x2 := M.out.X.cell' 2 _ rfl; replace f2 := M.out.X.free 2; replace x3 := M.out.X.cell' 3 _ rfl; replace f3 := M.out.X.free 3; replace x4 := M.out.X.cell' 4 _ rfl; replace f4 := M.out.X.free 4; replace x5 := M.out.X.cell' 5 _ rfl; replace f5 := M.out.X.free 5; replace x6 := M.out.X.cell' 6 _ rfl; replace f6 := M.out.X.free 6; replace x7 := M.out.X.cell' 7 _ rfl; replace f7 := M.out.X.free 7; replace x8 := M.out.X.cell' 8 _ rfl; replace f8 := M.out.X.free 8; replace x9 := M.out.X.cell' 9 _ rfl; replace f9 := M.out.X.free 9; replace x10 := M.out.X.cell' 10 _ rfl; replace f10 := M.out.X.free 10; clear tp q K0)))))
                        all_goals go_wp2_with fail
                        all_goals go_roundw
                        all_goals (first | (case measure => simp [intOf]; omega) | skip)
                        all_goals exact ⟨n - 1, _, ds ++ [⟨c, x, ka, kc⟩], rfl, by omega, (by rw [List.length_append]; simp; omega), B3⟩
                      · obtain rfl : n = 0 := by omega
                        obtain ⟨va, vc, rfl, WB⟩ := BW.out.O.words (S := fun k => w.heap.size < k) (fun g hg => by have h1 := (BW.out.O.lt hg).1; have h2 := BW.out.M.hb; omega) (fun d hd => (BW.out.D d hd).mono fun k hk => by have h2 := BW.out.M.hb; omega)
                        have hlw : Hid ((wds ds).length = ds.length) := Lib.hid (List.length_map _)
                        replace WB := Lib.hid WB
                        have DW := Lib.hid BW.out.W
                        replace M := Lib.hid BW.out.M
                        replace xl := M.out.X.lt
                        replace rl := M.out.R.lt
                        replace x0 := M.out.X.cell' 0 _ rfl
                        replace f0 := M.out.X.free 0
                        replace x1 := M.out.X.cell' 1 _ rfl
                        replace f1 := M.out.X.free 1
                        replace x2 := M.out.X.cell' 2 _ rfl
                        replace f2 := M.out.X.free 2
                        replace x3 := M.out.X.cell' 3 _ rfl
                        replace f3 := M.out.X.free 3
                        replace x4 := M.out.X.cell' 4 _ rfl
                        replace f4 := M.out.X.free 4
                        replace x5 := M.out.X.cell' 5 _ rfl
                        replace f5 := M.out.X.free 5
                        replace x6 := M.out.X.cell' 6 _ rfl
                        replace f6 := M.out.X.free 6
                        replace x7 := M.out.X.cell' 7 _ rfl
                        replace f7 := M.out.X.free 7
                        replace x8 := M.out.X.cell' 8 _ rfl
                        replace f8 := M.out.X.free 8
                        replace x9 := M.out.X.cell' 9 _ rfl
                        replace f9 := M.out.X.free 9
                        replace x10 := M.out.X.cell' 10 _ rfl
                        replace f10 := M.out.X.free 10
                        have hdl : ds.length ≤ 3 := by omega
                        clear BW
                        go_upto_region 30 with fail
                        have rl := M.out.R.lt
                        replace y0 := M.out.R.free 0
                        replace y1 := M.out.R.free 1
                        replace y2 := M.out.R.free 2
                        replace y3 := M.out.R.free 3
                        replace y4 := M.out.R.free 4
                        replace y5 := M.out.R.free 5
                        replace y6 := M.out.R.free 6
                        replace y7 := M.out.R.free 7
                        replace y8 := M.out.R.free 8
                        replace y9 := M.out.R.free 9
                        replace y10 := M.out.R.free 10
                        replace z0 := M.out.R.cell' 0 _ rfl
                        replace z1 := M.out.R.cell' 1 _ rfl
                        replace z2 := M.out.R.cell' 2 _ rfl
                        replace z3 := M.out.R.cell' 3 _ rfl
                        replace z4 := M.out.R.cell' 4 _ rfl
                        replace z5 := M.out.R.cell' 5 _ rfl
                        replace z6 := M.out.R.cell' 6 _ rfl
                        replace z7 := M.out.R.cell' 7 _ rfl
                        replace z8 := M.out.R.cell' 8 _ rfl
                        replace z9 := M.out.R.cell' 9 _ rfl
                        replace z10 := M.out.R.cell' 10 _ rfl
                        go_wp2_with fail
                        replace hlw := hlw.out
                        have hdw : ∀ w ∈ wds ds, Sy.isw w.1 = true ∧ Sy.okx w.2 = true ∧ Sy.dpt w.2 ≤ 2 := fun x hx => by obtain ⟨d, hd, rfl⟩ := List.mem_map.1 hx; exact DW.out d hd
                        exact bmEnd (b := ⟨0, lab, sk, wds ds, Sy.zx, Sy.zx, 0⟩) Tryd.results32 rfl rfl M.out (⟨va, vc, none, 0, none, 0, (by rw [← hlw]; rfl), WB.out, KidsB.nl none 0 (by decide), KidsB.nl none 0 (by decide)⟩ : BlkB _ (fun k => w.heap.size < k) ⟨0, lab, sk, wds ds, Sy.zx, Sy.zx, 0⟩ #[.int .i64 0, .int .i64 lab, .bool sk, .slice va ds.length vc, .int .i64 0, .int .i64 0, .slice none 0 0, .int .i64 0, .int .i64 0, .slice none 0 0, .int .i64 0]) (Sy.dwn0 hla (by omega) hdw) rfl
end Go.Proofs.YtlgdjbabbfdngaaDoor

