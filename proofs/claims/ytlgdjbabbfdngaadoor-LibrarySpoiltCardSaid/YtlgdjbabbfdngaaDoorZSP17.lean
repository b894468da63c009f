import Derived.Test.YtlgdjbabbfdngaaDoorZSP0
import Derived.Test.YtlgdjbabbfdngaaDoorZSP1
import Derived.Test.YtlgdjbabbfdngaaDoorZSP3
import Derived.Test.YtlgdjbabbfdngaaDoorZSP9
import Derived.Test.YtlgdjbabbfdngaaDoorZSP13
import Derived.Test.YtlgdjbabbfdngaaDoorZSP14
import Derived.Test.YtlgdjbabbfdngaaDoorZSP15
import Derived.BigQuiet
import Derived.Deep.Cut
import Derived.IntWalk
import Derived.Deep.RegionLaw
set_option linter.unusedVariables false
set_option linter.unusedSimpArgs false
namespace Go.Proofs.YtlgdjbabbfdngaaDoor
open Go.RowKit
theorem bibB {w : World} {S : Nat → Prop} {d : Bi} (h : BiB w S d) : BlkB w S d.b (bicell d).toArray := ⟨d.wa, d.wc, d.la, d.lc, d.xa, d.xc, rfl, h.1, h.2.1, h.2.2⟩
theorem BlksB.at {w : World} {S : Nat → Prop} {a : Option Addr} {cap : Nat} {bs : List Sy.Bl} (h : BlksB w S a cap bs) {i : Nat} (hi : i < bs.length) : ∃ (b off : Nat) (d : Bi), a = some ⟨b, off, none⟩ ∧ b < w.heap.size ∧ d.b = bs[i] ∧ ∀ w', Qw w w' → BiB w' S d ∧ ∀ j u, (bicell d)[j]? = some u → w'.cell? ⟨b, off + i * 11 + j, none⟩ = some u := by
  rcases h.2.2 with h0 | ⟨b, off, f, rfl, hS, hc⟩
  · rw [h0] at hi; simp at hi
  · obtain ⟨h1, h2, h3⟩ := hc i hi
    have bl := cell_lt (h3 0 _ rfl)
    refine ⟨b, off, f i, rfl, bl, h1, fun w' q => ⟨h2.go fun k hk hl => ⟨q.block k hl, hk⟩, fun j u hj => (World.cell?_of_block (w := w) (q.block b bl)).trans (h3 j u hj)⟩⟩
set_option maxRecDepth 100000 in
set_option maxHeartbeats 4000000 in
theorem sa_all (bs : List Sy.Bl) (a a' : Option Addr) (cap cap' : Nat) (S S' : Nat → Prop) (w : World) (h : BlksB w S a cap bs) (h' : BlksB w S' a' cap' bs) : Calls Tryd.prog 30 #[.slice a bs.length cap, .slice a' bs.length cap'] w fun e w' => e = .returned (.bool true) ∧ Qw w w' := by
  have l1 : bs.length ≤ cap := h.1
  have l2 : cap ≤ 9223372036854775807 := h.2.1
  have HA := Lib.hid h
  have HB := Lib.hid h'
  clear h h'
  go_enter Tryd.func30, Tryd.ntmps30
  go_wp2
  go_loopw [5] (fun iv wr => ∃ i : Nat, i ≤ bs.length ∧ iv = .int .i64 (i : Int) ∧ Hid (Qw w wr)) (fun iv _ => bs.length - (intOf iv).toNat)
  case atStart => exact ⟨0, by omega, rfl, Lib.hid (Qw.refl w)⟩
  case round =>
    obtain ⟨i, hi, rfl, HQ⟩ := hrel
    by_cases hlt : i < bs.length
    · have h63 : (i : Int) ≤ 9223372036854775806 := by omega
      have hlt' : (i : Int) < (bs.length : Int) := by omega
      obtain ⟨b, off, d, rfl, bl, hd, hw⟩ := (HA.out.kept HQ.out).at hlt
      obtain ⟨b', off', d', rfl, bl', hd', hw'⟩ := (HB.out.kept HQ.out).at hlt
      have kz := fun (p : Kept wr) j u hj => (hw p.v p.h).2 j u hj
      have kz' := fun (p : Kept wr) j u hj => (hw' p.v p.h).2 j u hj
      have y0 : ∀ p : Kept wr, p.v.cell? ⟨b, off + i * 11, none⟩ = some (.int .i64 d.b.kind) := fun p => kz p 0 _ rfl
      have y1 : ∀ p : Kept wr, p.v.cell? ⟨b, off + i * 11 + 1, none⟩ = some (.int .i64 d.b.label) := fun p => kz p 1 _ rfl
      have y2 : ∀ p : Kept wr, p.v.cell? ⟨b, off + i * 11 + 2, none⟩ = some (.bool d.b.skip) := fun p => kz p 2 _ rfl
      have y3 : ∀ p : Kept wr, p.v.cell? ⟨b, off + i * 11 + 3, none⟩ = some (.slice d.wa d.b.words.length d.wc) := fun p => kz p 3 _ rfl
      have y4 : ∀ p : Kept wr, p.v.cell? ⟨b, off + i * 11 + 4, none⟩ = some (.int .i64 d.b.left.op) := fun p => kz p 4 _ rfl
      have y5 : ∀ p : Kept wr, p.v.cell? ⟨b, off + i * 11 + 5, none⟩ = some (.int .i64 d.b.left.n) := fun p => kz p 5 _ rfl
      have y6 : ∀ p : Kept wr, p.v.cell? ⟨b, off + i * 11 + 6, none⟩ = some (.slice d.la d.b.left.ks.length d.lc) := fun p => kz p 6 _ rfl
      have y7 : ∀ p : Kept wr, p.v.cell? ⟨b, off + i * 11 + 7, none⟩ = some (.int .i64 d.b.x.op) := fun p => kz p 7 _ rfl
      have y8 : ∀ p : Kept wr, p.v.cell? ⟨b, off + i * 11 + 8, none⟩ = some (.int .i64 d.b.x.n) := fun p => kz p 8 _ rfl
      have y9 : ∀ p : Kept wr, p.v.cell? ⟨b, off + i * 11 + 9, none⟩ = some (.slice d.xa d.b.x.ks.length d.xc) := fun p => kz p 9 _ rfl
      have y10 : ∀ p : Kept wr, p.v.cell? ⟨b, off + i * 11 + 10, none⟩ = some (.int .i64 d.b.n) := fun p => kz p 10 _ rfl
      have z0 : ∀ p : Kept wr, p.v.cell? ⟨b', off' + i * 11, none⟩ = some (.int .i64 d'.b.kind) := fun p => kz' p 0 _ rfl
      have z1 : ∀ p : Kept wr, p.v.cell? ⟨b', off' + i * 11 + 1, none⟩ = some (.int .i64 d'.b.label) := fun p => kz' p 1 _ rfl
      have z2 : ∀ p : Kept wr, p.v.cell? ⟨b', off' + i * 11 + 2, none⟩ = some (.bool d'.b.skip) := fun p => kz' p 2 _ rfl
      have z3 : ∀ p : Kept wr, p.v.cell? ⟨b', off' + i * 11 + 3, none⟩ = some (.slice d'.wa d'.b.words.length d'.wc) := fun p => kz' p 3 _ rfl
      have z4 : ∀ p : Kept wr, p.v.cell? ⟨b', off' + i * 11 + 4, none⟩ = some (.int .i64 d'.b.left.op) := fun p => kz' p 4 _ rfl
      have z5 : ∀ p : Kept wr, p.v.cell? ⟨b', off' + i * 11 + 5, none⟩ = some (.int .i64 d'.b.left.n) := fun p => kz' p 5 _ rfl
      have z6 : ∀ p : Kept wr, p.v.cell? ⟨b', off' + i * 11 + 6, none⟩ = some (.slice d'.la d'.b.left.ks.length d'.lc) := fun p => kz' p 6 _ rfl
      have z7 : ∀ p : Kept wr, p.v.cell? ⟨b', off' + i * 11 + 7, none⟩ = some (.int .i64 d'.b.x.op) := fun p => kz' p 7 _ rfl
      have z8 : ∀ p : Kept wr, p.v.cell? ⟨b', off' + i * 11 + 8, none⟩ = some (.int .i64 d'.b.x.n) := fun p => kz' p 8 _ rfl
      have z9 : ∀ p : Kept wr, p.v.cell? ⟨b', off' + i * 11 + 9, none⟩ = some (.slice d'.xa d'.b.x.ks.length d'.xc) := fun p => kz' p 9 _ rfl
      have z10 : ∀ p : Kept wr, p.v.cell? ⟨b', off' + i * 11 + 10, none⟩ = some (.int .i64 d'.b.n) := fun p => kz' p 10 _ rfl
      have D1 : Hid (∀ p : Kept wr, Calls Tryd.prog 43 #[.agg #[.int .i64 d.b.kind, .int .i64 d.b.label, .bool d.b.skip, .slice d.wa d.b.words.length d.wc, .int .i64 d.b.left.op, .int .i64 d.b.left.n, .slice d.la d.b.left.ks.length d.lc, .int .i64 d.b.x.op, .int .i64 d.b.x.n, .slice d.xa d.b.x.ks.length d.xc, .int .i64 d.b.n], .agg #[.int .i64 d'.b.kind, .int .i64 d'.b.label, .bool d'.b.skip, .slice d'.wa d'.b.words.length d'.wc, .int .i64 d'.b.left.op, .int .i64 d'.b.left.n, .slice d'.la d'.b.left.ks.length d'.lc, .int .i64 d'.b.x.op, .int .i64 d'.b.x.n, .slice d'.xa d'.b.x.ks.length d'.xc, .int .i64 d'.b.n]] p.v fun e w' => e = .returned (.bool true) ∧ Qw p.v w') := Lib.hid fun p : Kept wr => sx_same d.b _ _ _ _ p.v (bibB (hw p.v p.h).1) (by rw [hd, ← hd']; exact bibB (hw' p.v p.h).1)
      clear kz kz' hw hw' hd hd'
      go_wp2
      refine region_kept (by kernel_rfl) (by kernel_rfl) ?_
      repeat (go_big_quiet_step (first | (go_at_call 43; with_reducible exact Kept.call (D1.out _))))
      refine wpQuiet_nil ?_
      intro w2 q
      have Q2 : Hid (Qw w w2) := Lib.hid (Qw.trans HQ.out q)
      clear D1 q y0 z0 y1 z1 y2 z2 y3 z3 y4 z4 y5 z5 y6 z6 y7 z7 y8 z8 y9 z9 y10 z10
      go_wp2
      go_roundw
      case measure => simp [intOf]; omega
      case rel => exact ⟨i + 1, by omega, by go_num, Q2⟩
    · obtain rfl : i = bs.length := by omega
      have hb : ¬ (bs.length : Int) < (bs.length : Int) := by omega
      go_wp2
      go_ret
      exact ⟨rfl, HQ.out⟩
end Go.Proofs.YtlgdjbabbfdngaaDoor
set_option linter.unusedVariables false
set_option linter.unusedSimpArgs false
namespace Go.Proofs.YtlgdjbabbfdngaaDoor
open Go.RowKit
theorem OwnG.int {B : Nat} {w : World} {v : Value} {xs : List Int} (h : OwnG B w 3 1 v (xs.map icell)) : ∃ (a : Option Addr) (cap : Nat), v = .slice a xs.length cap ∧ cap ≤ 9223372036854775807 ∧ xs.length ≤ cap ∧ ∀ i (hi : i < xs.length), ∃ g, a = some ⟨g, 0, none⟩ ∧ g < w.heap.size ∧ w.cell? ⟨g, i, none⟩ = some (.int .i64 xs[i]) := by
  obtain ⟨a, cap, rfl, h1, h2, h3⟩ := h.form
  rw [List.length_map] at h1
  refine ⟨a, cap, by rw [List.length_map], h2, h1, fun i hi => ?_⟩
  obtain ⟨g, rfl, _, gl⟩ := h3 (by intro e; have := congrArg List.length e; simp at this; subst this; simp at hi)
  have c := h.at (g := g) rfl (i := i) (by simpa using hi) (j := 0) (u := .int .i64 xs[i]) (by rw [List.getElem_map]; rfl)
  rw [Nat.mul_one, Nat.add_zero] at c
  exact ⟨g, rfl, gl, c⟩
set_option maxRecDepth 100000 in
set_option maxHeartbeats 4000000 in
theorem rs_ints {B B' : Nat} (xs : List Int) (v v' : Value) (w : World) (h : OwnG B w 3 1 v (xs.map icell)) (h' : OwnG B' w 3 1 v' (xs.map icell)) : Calls Tryd.prog 26 #[v, v'] w fun e w' => e = .returned (.bool true) ∧ Qw w w' := by
  obtain ⟨a, cap, rfl, h2, h1, hc⟩ := h.int
  obtain ⟨a', cap', rfl, h2', h1', hc'⟩ := h'.int
  have HC := Lib.hid hc
  have HC' := Lib.hid hc'
  clear h h' hc hc'
  go_enter Tryd.func26, Tryd.ntmps26
  go_wp2
  go_loopw [5] (fun iv wr => ∃ i : Nat, i ≤ xs.length ∧ iv = .int .i64 (i : Int) ∧ Hid (Qw w wr)) (fun iv _ => xs.length - (intOf iv).toNat)
  case atStart => exact ⟨0, by omega, rfl, Lib.hid (Qw.refl w)⟩
  case round =>
    obtain ⟨i, hi, rfl, HQ⟩ := hrel
    by_cases hlt : i < xs.length
    · have h63 : (i : Int) ≤ 9223372036854775806 := by omega
      have hlt' : (i : Int) < (xs.length : Int) := by omega
      obtain ⟨g, rfl, gl, c0⟩ := HC.out i hlt
      obtain ⟨g', rfl, gl', c1⟩ := HC'.out i hlt
      rw [← HQ.out.cell (p := ⟨g, i, none⟩) gl] at c0
      rw [← HQ.out.cell (p := ⟨g', i, none⟩) gl'] at c1
      generalize xs[i] = x at *
      go_wp2
      refine wp_region_still_tail 8 (by kernel_rfl) (by kernel_rfl) ?_
      change wpStill _ _ (World.drew _) _ _ _
      simp only [List.take_succ_cons, List.take_zero, List.drop_succ_cons, List.drop_zero]
      repeat still_step
      refine wpStill_nil ?_
      change wpList _ _ _ _ _ (World.drew _)
      go_wp2
      go_roundw
      case measure => simp [intOf]; omega
      case rel => exact ⟨i + 1, by omega, by go_num, Lib.hid (Qw.trans HQ.out (Qw.dr (Qw.refl _)))⟩
    · obtain rfl : i = xs.length := by omega
      have hb : ¬ (xs.length : Int) < (xs.length : Int) := by omega
      go_wp2
      go_ret
      exact ⟨rfl, HQ.out⟩
set_option maxRecDepth 100000 in
set_option maxHeartbeats 4000000 in
theorem rs_same {w : World} {S S' : Nat → Prop} {B B' : Nat} {ba pa ma ba' pa' ma' : Option Addr} {bc pc mc bc' pc' mc' : Nat} {bs : List Sy.Bl} {s : Lb.St} (h : LibX w S B ba bc pa pc ma mc bs s) (h' : LibX w S' B' ba' bc' pa' pc' ma' mc' bs s) (hl : s.pg.length ≤ 5000) :
    Calls Tryd.prog 19 #[.agg #[.slice ba bs.length bc, .slice pa s.pg.length pc, .slice ma s.mate.length mc], .agg #[.slice ba' bs.length bc', .slice pa' s.pg.length pc', .slice ma' s.mate.length mc']] w fun e w' => e = .returned (.bool true) ∧ Qw w w' := by
  have HL := Lib.hid h
  have HL' := Lib.hid h'
  have ci := fun w1 (q : Qw w w1) => rs_ints s.mate _ _ w1 (h.kept q).m (h'.kept q).m
  have ca := fun w1 (q : Qw w w1) => sa_all bs ba ba' bc bc' S S' w1 (h.kept q).b (h'.kept q).b
  have CI := Lib.hid ci
  have CA := Lib.hid ca
  clear h h' ci ca
  have q0 : Hid (Qw w w) := Lib.hid (Qw.refl w)
  have sz : ∀ o : Obj, (w.alloc o).heap.size = w.heap.size + 1 := fun o => by simp
  have X0 := (Bx.new w #[.slice ba bs.length bc, .slice pa s.pg.length pc, .slice ma s.mate.length mc] 41).alloc (.cells #[.slice ba' bs.length bc', .slice pa' s.pg.length pc', .slice ma' s.mate.length mc'] 41)
  have X1 := Bx.new (w.alloc (.cells #[.slice ba bs.length bc, .slice pa s.pg.length pc, .slice ma s.mate.length mc] 41)) #[.slice ba' bs.length bc', .slice pa' s.pg.length pc', .slice ma' s.mate.length mc'] 41
  rw [sz] at X1
  clear sz
  have R0 := Lib.hid (And.intro X0 (And.intro X1 (Qw.al (Qw.al (Qw.refl w) (.cells #[.slice ba bs.length bc, .slice pa s.pg.length pc, .slice ma s.mate.length mc] 41)) (.cells #[.slice ba' bs.length bc', .slice pa' s.pg.length pc', .slice ma' s.mate.length mc'] 41))))
  clear X0 X1
  go_enter Tryd.func19, Tryd.ntmps19
  go_wp2_with (go_at_call 26; with_reducible refine (CI.out _ R0.out.2.2).mono ?_)
  first | rintro e w1 rfl q1 | rintro e w1 ⟨rfl, q1⟩
  have y0 := (R0.out.1.kept q1).cell' 0 (.slice ba bs.length bc) rfl
  have y1 := (R0.out.2.1.kept q1).cell' 0 (.slice ba' bs.length bc') rfl
  go_wp2_with (go_at_call 30; with_reducible refine (CA.out _ (Qw.trans R0.out.2.2 q1)).mono ?_)
  first | rintro e w2 rfl q2 | rintro e w2 ⟨rfl, q2⟩
  have R2 := Lib.hid (And.intro (R0.out.1.kept (Qw.trans q1 q2)) (And.intro (R0.out.2.1.kept (Qw.trans q1 q2)) (Qw.trans R0.out.2.2 (Qw.trans q1 q2))))
  clear y0 y1 q1 q2 R0 CI CA q0
  go_wp2
  go_loopw [5] (fun iv wr => ∃ i : Nat, i ≤ s.pg.length ∧ iv = .int .i64 (i : Int) ∧ Hid (Bx wr w.heap.size #[.slice ba bs.length bc, .slice pa s.pg.length pc, .slice ma s.mate.length mc] 41 ∧ Bx wr (w.heap.size + 1) #[.slice ba' bs.length bc', .slice pa' s.pg.length pc', .slice ma' s.mate.length mc'] 41 ∧ Qw w wr)) (fun iv _ => s.pg.length - (intOf iv).toNat)
  case atStart => exact ⟨0, by omega, rfl, R2⟩
  case round =>
    clear R2
    obtain ⟨i, hi, rfl, R⟩ := hrel
    have y0 := R.out.1.cell' 1 (.slice pa s.pg.length pc) rfl
    have y1 := R.out.2.1.cell' 1 (.slice pa' s.pg.length pc') rfl
    by_cases hlt : i < s.pg.length
    · have h63 : (i : Int) ≤ 9223372036854775806 := by omega
      have hlt' : (i : Int) < (s.pg.length : Int) := by omega
      obtain ⟨g, hpa, gl, c0, c1, c2⟩ := (HL.out.kept R.out.2.2).prog hlt
      obtain ⟨g', hpa', gl', d0, d1, d2⟩ := (HL'.out.kept R.out.2.2).prog hlt
      subst hpa hpa'
      generalize s.pg[i].num = x0 at *
      generalize s.pg[i].first = x1 at *
      generalize s.pg[i].fin = x2 at *
      go_wp2
      refine wp_region_still_tail 10 (by kernel_rfl) (by kernel_rfl) ?_
      change wpStill _ _ (World.drew _) _ _ _
      simp only [List.take_succ_cons, List.take_zero, List.drop_succ_cons, List.drop_zero]
      repeat still_step
      refine wpStill_nil ?_
      change wpList _ _ _ _ _ (World.drew _)
      go_wp2
      go_roundw
      case measure => simp [intOf]; omega
      case rel => exact ⟨i + 1, by omega, by go_num, Lib.hid ⟨R.out.1.kept (Qw.dr (Qw.refl _)), R.out.2.1.kept (Qw.dr (Qw.refl _)), Qw.dr R.out.2.2⟩⟩
    · obtain rfl : i = s.pg.length := by omega
      have hb : ¬ (s.pg.length : Int) < (s.pg.length : Int) := by omega
      go_wp2
      go_ret
      exact ⟨rfl, R.out.2.2⟩
end Go.Proofs.YtlgdjbabbfdngaaDoor
set_option linter.unusedVariables false
set_option linter.unusedSimpArgs false
namespace Go.Proofs.YtlgdjbabbfdngaaDoor
open Go.RowKit
def TpB (w : World) (B : Nat) (v : Value) (zs : List Int) : Prop := ∃ k, TapeAt w B v zs k
theorem TpB.lt {w : World} {B : Nat} {v : Value} {zs : List Int} (h : TpB w B v zs) : B < w.heap.size := by
  obtain ⟨k, h⟩ := h; exact lt_of_block h.1
theorem TpB.kept {w w' : World} {B : Nat} {v : Value} {zs : List Int} (h : TpB w B v zs) (q : Qw w w') : TpB w' B v zs := by
  obtain ⟨k, h⟩ := h; exact ⟨k, h.kept q⟩
theorem TpB.other {w : World} {B : Nat} {v : Value} {zs : List Int} (h : TpB w B v zs) {b : Nat} (hb : B < b) (o : Nat) (u : Value) : TpB (w.setCell ⟨b, o, none⟩ u) B v zs := by
  obtain ⟨k, h1, h2, h3⟩ := h
  exact ⟨k, (Below.heap_setCell _ _ _ _ (by show B ≠ b; omega)).trans h1, h2.kept (C := b) ((Below.refl b w).setCell (p := ⟨b, o, none⟩) (Nat.le_refl _) u) (by omega), h3⟩
theorem px_grown {B : Nat} {w w' : World} (h : w.grownBy w' (some B)) : Px B w w' := ⟨h.os, h.tape, h.output, h.size, fun k hk hB => h.block k hk (by simp; omega)⟩
theorem nextA {B : Nat} {v : Value} {zs : List Int} (n : Int) (n1 : 1 ≤ n) (n2 : n ≤ 9223372036854775807) (w : World) (h : TpB w B v zs) :
    Calls Tryd.prog 29 #[.pointer (some ⟨B, 0, none⟩), .int .i64 n] w fun e w' => ∃ r, e = .returned (.int .i64 r) ∧ 0 ≤ r ∧ r < n ∧ TpB w' B v zs ∧ Px B w w' := by
  obtain ⟨k, h⟩ := h
  refine (nextG B v zs k n n1 n2 w h).mono ?_
  rintro e w' ⟨rfl, t, g⟩
  obtain ⟨b0, b1⟩ := nxt_bd zs k n n1
  exact ⟨_, rfl, b0, b1, ⟨_, t⟩, px_grown g⟩
set_option maxRecDepth 100000 in
set_option maxHeartbeats 4000000 in
theorem rangeA {B : Nat} {v : Value} {zs : List Int} (lo hi : Int) (l0 : 0 ≤ lo) (l1 : lo ≤ hi) (l2 : hi ≤ 1000000) (w : World) (h : TpB w B v zs) :
    Calls Tryd.prog 33 #[.pointer (some ⟨B, 0, none⟩), .int .i64 lo, .int .i64 hi] w fun e w' => ∃ r, e = .returned (.int .i64 r) ∧ lo ≤ r ∧ r ≤ hi ∧ TpB w' B v zs ∧ Px B w w' := by
  have C1 := Lib.hid (nextA (hi - lo + 1) (by omega) (by omega) w h)
  clear h
  go_enter Tryd.func33, Tryd.ntmps33
  go_wp2_with (go_at_call 29; ((with_reducible refine C1.out.mono ?_); rintro e w' ⟨r, rfl, r0, r1, tp, q⟩; have TP := Lib.hid tp; have Q1 := Lib.hid q; clear tp q))
  go_ret
  exact ⟨_, rfl, by omega, by omega, TP.out, Q1.out⟩
set_option maxRecDepth 100000 in
set_option maxHeartbeats 4000000 in
theorem numberA {B : Nat} {v : Value} {zs : List Int} (w : World) (h : TpB w B v zs) :
    Calls Tryd.prog 48 #[.pointer (some ⟨B, 0, none⟩)] w fun e w' => ∃ r, e = .returned (.int .i64 r) ∧ 0 ≤ r ∧ r < 1000000000000000 ∧ TpB w' B v zs ∧ Px B w w' := by
  have c := fun n n1 n2 w h => nextA (B := B) (v := v) (zs := zs) n n1 n2 w h
  have TP := Lib.hid h
  have C := Lib.hid c
  clear h c
  have q0 : Hid (Px B w w) := Lib.hid (Px.refl B w)
  go_enter Tryd.func48, Tryd.ntmps48
  go_wp2_with (go_at_call 29; ((with_reducible refine (C.out _ (by decide) (by decide) _ TP.out).mono ?_); rintro e w' ⟨r, rfl, r0, r1, tp, q⟩; replace TP := Lib.hid tp; replace q0 : Hid (Px B w w') := Lib.hid (Px.trans q0.out q); clear tp q))
  all_goals go_ret
  all_goals exact ⟨_, rfl, by omega, by omega, TP.out, q0.out⟩
set_option maxRecDepth 100000 in
set_option maxHeartbeats 4000000 in
theorem variableA {B : Nat} {v : Value} {zs : List Int} (w : World) (h : TpB w B v zs) :
    Calls Tryd.prog 45 #[.pointer (some ⟨B, 0, none⟩)] w fun e w' => ∃ r, e = .returned (.int .i64 r) ∧ 0 ≤ r ∧ r ≤ 10000 ∧ TpB w' B v zs ∧ Px B w w' := by
  have c := fun n n1 n2 w h => nextA (B := B) (v := v) (zs := zs) n n1 n2 w h
  have d := fun lo hi l0 l1 l2 w h => rangeA (B := B) (v := v) (zs := zs) lo hi l0 l1 l2 w h
  have TP := Lib.hid h
  have C := Lib.hid c
  have D := Lib.hid d
  clear h c d
  have q0 : Hid (Px B w w) := Lib.hid (Px.refl B w)
  go_enter Tryd.func45, Tryd.ntmps45
  go_wp2_with (first
    | (go_at_call 29; ((with_reducible refine (C.out _ (by decide) (by decide) _ TP.out).mono ?_); rintro e w' ⟨r, rfl, r0, r1, tp, q⟩; replace TP := Lib.hid tp; replace q0 : Hid (Px B w w') := Lib.hid (Px.trans q0.out q); clear tp q))
    | (go_at_call 33; ((with_reducible refine (D.out _ _ (by decide) (by decide) (by decide) _ TP.out).mono ?_); rintro e w' ⟨r, rfl, r0, r1, tp, q⟩; replace TP := Lib.hid tp; replace q0 : Hid (Px B w w') := Lib.hid (Px.trans q0.out q); clear tp q)))
  all_goals go_ret
  all_goals exact ⟨_, rfl, by omega, by omega, TP.out, q0.out⟩
end Go.Proofs.YtlgdjbabbfdngaaDoor
set_option linter.unusedVariables false
set_option linter.unusedSimpArgs false
namespace Go.Proofs.YtlgdjbabbfdngaaDoor
open Go.RowKit
def ExA (B : Nat) (v : Value) (zs : List Int) (d : Nat) (w : World) (e : Ending) (w' : World) : Prop :=
  ∃ (x : Sy.Ex) (ka : Option Addr) (kc : Nat), e = .returned (.agg #[.int .i64 x.op, .int .i64 x.n, .slice ka x.ks.length kc]) ∧ Sy.okx x = true ∧ Sy.dpt x ≤ d ∧ KidsB w' (fun b => w.heap.size ≤ b) ka kc x.ks ∧ TpB w' B v zs ∧ Px B w w'
theorem exaEnd {B : Nat} {v : Value} {zs : List Int} {d : Nat} {w w' : World} {fn : Func} {s : Nat} {act : Act} (hr : fn.results = #[.cell s 35]) (hs : act.tmps[s]?.getD undef = .pointer (some ⟨w.heap.size, 0, none⟩)) (hd : act.defers = [])
    {x : Sy.Ex} {ka : Option Addr} {kc : Nat} {o n : Int} {l : Nat} (xo : x.op = o) (xn : x.n = n) (xl : x.ks.length = l) (ok : Sy.okx x = true) (dp : Sy.dpt x ≤ d) (hB : B < w.heap.size)
    (R : Bx w' w.heap.size exZ 35) (K : KidsB w' (fun b => w.heap.size < b) ka kc x.ks) (T : TpB w' B v zs) (q : Px B w w') :
    bodyPost Tryd.prog fn (ExA B v zs d w) .ret act (((w'.setCell ⟨w.heap.size, 0, none⟩ (.int .i64 o)).setCell ⟨w.heap.size, 1, none⟩ (.int .i64 n)).setCell ⟨w.heap.size, 2, none⟩ (.slice ka l kc)) := by
  subst xo xn xl
  have n : ¬ w.heap.size < w.heap.size := Nat.lt_irrefl _
  refine bodyPost_ret (ret_ex hr hs (((R.set 0 _).set 1 _).set 2 _)) hd ⟨x, ka, kc, rfl, ok, dp, KidsB.mono (((K.set n _).set n _).set n _) (fun b hb => Nat.le_of_lt hb), ((T.other hB _ _).other hB _ _).other hB _ _, ((q.setNew (Nat.le_refl _) _).setNew (Nat.le_refl _) _).setNew (Nat.le_refl _) _⟩
theorem exaEnd2 {B : Nat} {v : Value} {zs : List Int} {d : Nat} {w w' : World} {fn : Func} {s : Nat} {act : Act} (hr : fn.results = #[.cell s 35]) (hs : act.tmps[s]?.getD undef = .pointer (some ⟨w.heap.size, 0, none⟩)) (hd : act.defers = [])
    {x : Sy.Ex} {ka : Option Addr} {kc : Nat} {o n : Int} {l : Nat} (xo : x.op = o) (xn : x.n = n) (xl : x.ks.length = l) (ok : Sy.okx x = true) (dp : Sy.dpt x ≤ d) (hB : B < w.heap.size) (ob : Obj)
    (R : Bx w' w.heap.size exZ 35) (K : KidsB (w'.alloc ob) (fun b => w.heap.size < b) ka kc x.ks) (T : TpB w' B v zs) (q : Px B w w') :
    bodyPost Tryd.prog fn (ExA B v zs d w) .ret act ((((w'.setCell ⟨w.heap.size, 0, none⟩ (.int .i64 o)).setCell ⟨w.heap.size, 1, none⟩ (.int .i64 n)).setCell ⟨w.heap.size, 2, none⟩ (.slice ka l kc)).alloc ob) := by
  have k := exaEnd hr hs hd xo xn xl ok dp hB (R.alloc ob) K (T.kept ((Below.refl _ _).alloc (Nat.le_refl _) ob)) (q.alloc ob)
  have hl := R.lt
  rw [World.setCell_alloc_past _ _ _ _ hl, World.setCell_alloc_past _ _ _ _ (by simpa [World.setCell] using hl), World.setCell_alloc_past _ _ _ _ (by simpa [World.setCell] using hl)] at k
  exact k
theorem lit_all {cs : Array Value} (r : Int) (l : List Int) (hc : cs.toList = l.map (fun o => Value.int .i64 o)) (h0 : 0 ≤ r) (h1 : r < l.length) : ∃ o, o ∈ l ∧ ∀ (w : World) (b : Nat) (t : TypeId), Bx w b cs t → w.cell? ⟨b, r.toNat, none⟩ = some (.int .i64 o) := by
  have hr : r.toNat < l.length := by omega
  refine ⟨l[r.toNat], List.getElem_mem hr, fun w b t X => ?_⟩
  rw [X.cell, ← Array.getElem?_toList, hc, List.getElem?_map, List.getElem?_eq_getElem hr]
  rfl
theorem Bx.kept2 {P : Nat} {w w1 w' : World} {b : Nat} {cs : Array Value} {t : TypeId} (h : Bx w b cs t) (q1 : Qw w w1) (q : Px P w1 w') (hb : b ≠ P) : Bx w' b cs t := (h.kept q1).px q hb
def opsU : List Int := [2, 8, 9, 10, 12, 13, 14, 15, 16]
def opsB : List Int := [3, 4, 5, 6, 7, 11, 17, 18, 19, 20, 21, 22, 23, 24, 25, 3, 4, 5]
theorem opsU_ok {o : Int} (h : o ∈ opsU) : (0 ≤ o ∧ o ≤ 25) ∧ Sy.kds o.toNat = 1 := by
  have : ∀ o ∈ opsU, (0 ≤ o ∧ o ≤ 25) ∧ Sy.kds o.toNat = 1 := by decide
  exact this o h
theorem opsB_ok {o : Int} (h : o ∈ opsB) : (0 ≤ o ∧ o ≤ 25) ∧ Sy.kds o.toNat = 2 := by
  have : ∀ o ∈ opsB, (0 ≤ o ∧ o ≤ 25) ∧ Sy.kds o.toNat = 2 := by decide
  exact this o h
set_option maxRecDepth 100000 in
set_option maxHeartbeats 4000000 in
theorem exprA {B : Nat} {v : Value} {zs : List Int} (d : Nat) : ∀ w, 1 ≤ d → d ≤ 6 → TpB w B v zs → Calls Tryd.prog 46 #[.pointer (some ⟨B, 0, none⟩), .int .i64 (d : Int)] w (ExA B v zs d w) := by
  induction d with
  | zero => intro w h; omega
  | succ d ih =>
    intro w _ hd6 hT
    have hB := hT.lt
    have k1 : ((d + 1 : Nat) : Int) = (d : Int) + 1 := by omega
    rw [k1]
    have c := fun n n1 n2 w h => nextA (B := B) (v := v) (zs := zs) n n1 n2 w h
    have cn := fun w h => numberA (B := B) (v := v) (zs := zs) w h
    have cv := fun w h => variableA (B := B) (v := v) (zs := zs) w h
    have TP := Lib.hid hT
    have C := Lib.hid c
    have CN := Lib.hid cn
    have CV := Lib.hid cv
    have IH := Lib.hid ih
    clear hT c cn cv ih k1
    have R : Hid (Bx (w.alloc (.cells exZ 35)) w.heap.size exZ 35) := Lib.hid (Bx.new w _ _)
    have q0 : Hid (Px B w w) := Lib.hid (Px.refl B w)
    go_enter Tryd.func46, Tryd.ntmps46
    go_upto_region 2 with (first | (go_at_call 29; ((with_reducible refine (C.out _ (by decide) (by decide) _ (TP.out.kept (by unfold Qw; repeat (first | exact Below.refl _ _ | refine Below.setCell ?_ (by first | (simp; done) | (simp; omega)) _ | refine Below.alloc ?_ (by first | (simp; done) | (simp; omega)) _ | refine bel_drewN ?_ _ | refine Below.drew ?_)))).mono ?_); rintro e w' ⟨r, rfl, r0, r1, tp, q⟩; replace TP := Lib.hid tp; replace R : Hid (Bx w' w.heap.size exZ 35) := Lib.hid (Bx.px Rz q (by omega)); have rl := R.out.lt; have s0 := R.out.free 0; have s1 := R.out.free 1; have s2 := R.out.free 2; have u0 := R.out.cell' 0 _ rfl; have u1 := R.out.cell' 1 _ rfl; have u2 := R.out.cell' 2 _ rfl; replace q0 : Hid (Px B w w') := Lib.hid (Px.trans Pz q); clear tp q)))
    by_cases ha : d = 0 ∨ r < 3
    · have num : ∀ m : Int, 0 ≤ m → m < 1000000000000000 → Sy.okx (Sy.num m) = true ∧ Sy.dpt (Sy.num m) ≤ d + 1 := fun m h0 h1 => ⟨Sy.okx_num' h0 h1, by rw [Sy.dpt_num]; omega⟩
      have NUM := Lib.hid num
      clear num IH
      by_cases hd : d = 0
      · subst hd
        go_wp2_with (go_at_call 48; ((with_reducible refine (CN.out _ TP.out).mono ?_); rintro e w' ⟨m, rfl, m0, m1, tp, q⟩; replace TP := Lib.hid tp; replace R : Hid (Bx w' w.heap.size exZ 35) := Lib.hid (Bx.px Rz q (by omega)); have rl := R.out.lt; have s0 := R.out.free 0; have s1 := R.out.free 1; have s2 := R.out.free 2; have u0 := R.out.cell' 0 _ rfl; have u1 := R.out.cell' 1 _ rfl; have u2 := R.out.cell' 2 _ rfl; replace q0 : Hid (Px B w w') := Lib.hid (Px.trans Pz q); clear tp q))
        obtain ⟨ok, dp⟩ := NUM.out m m0 m1
        exact exaEnd (x := Sy.num m) Tryd.results46 rfl rfl rfl rfl rfl ok dp hB R.out (KidsB.nl none 0 (by decide)) TP.out q0.out
      · have hd2 : ¬ (d : Int) + 1 < 2 := by omega
        have hr3 : r < 3 := by omega
        go_wp2_with (go_at_call 48; ((with_reducible refine (CN.out _ TP.out).mono ?_); rintro e w' ⟨m, rfl, m0, m1, tp, q⟩; replace TP := Lib.hid tp; replace R : Hid (Bx w' w.heap.size exZ 35) := Lib.hid (Bx.px Rz q (by omega)); have rl := R.out.lt; have s0 := R.out.free 0; have s1 := R.out.free 1; have s2 := R.out.free 2; have u0 := R.out.cell' 0 _ rfl; have u1 := R.out.cell' 1 _ rfl; have u2 := R.out.cell' 2 _ rfl; replace q0 : Hid (Px B w w') := Lib.hid (Px.trans Pz q); clear tp q))
        obtain ⟨ok, dp⟩ := NUM.out m m0 m1
        exact exaEnd (x := Sy.num m) Tryd.results46 rfl rfl rfl rfl rfl ok dp hB R.out (KidsB.nl none 0 (by decide)) TP.out q0.out
    · obtain ⟨hd0, hr3⟩ : ¬ d = 0 ∧ ¬ r < 3 := ⟨fun h => ha (.inl h), fun h => ha (.inr h)⟩
      have hd2 : ¬ (d : Int) + 1 < 2 := by omega
      clear ha CN
      by_cases h5 : r < 5
      · go_upto_region 8 with (first
          | (go_at_call 45; ((with_reducible refine (CV.out _ TP.out).mono ?_); rintro e w6 ⟨m, rfl, m0, m1, tp, q⟩; replace TP := Lib.hid tp; replace R : Hid (Bx w6 w.heap.size exZ 35) := Lib.hid (Bx.px Rz q (by omega)); replace q0 : Hid (Px B w w6) := Lib.hid (Px.trans Pz q); have X : Hid (Bx (w6.alloc (.cells #[.int .i64 0, .int .i64 (m * 1000000), .slice none 0 0] 35)) w6.heap.size #[.int .i64 0, .int .i64 (m * 1000000), .slice none 0 0] 35) := Lib.hid (Bx.new _ _ _); have xB : B < w6.heap.size := TP.out.lt; have xr : w.heap.size < w6.heap.size := R.out.lt; clear tp q))
          | (go_at_call 29; ((with_reducible refine (C.out _ (by decide) (by decide) _ (TP.out.kept (by unfold Qw; repeat (first | exact Below.refl _ _ | refine Below.setCell ?_ (by first | (simp; done) | (simp; omega)) _ | refine Below.alloc ?_ (by first | (simp; done) | (simp; omega)) _ | refine bel_drewN ?_ _ | refine Below.drew ?_)))).mono ?_); rintro e w' ⟨r2, rfl, r20, r21, tp, q⟩; replace TP := Lib.hid tp; replace R : Hid (Bx w' w.heap.size exZ 35) := Lib.hid (Bx.px Rz q (by omega)); have rl := R.out.lt; have s0 := R.out.free 0; have s1 := R.out.free 1; have s2 := R.out.free 2; have u0 := R.out.cell' 0 _ rfl; have u1 := R.out.cell' 1 _ rfl; have u2 := R.out.cell' 2 _ rfl; replace X := Lib.hid (Bx.px (by repeat (first | exact X.out | refine Bx.alloc ?_ _ | refine Bx.drew ?_)) q (by omega)); replace q0 : Hid (Px B w w') := Lib.hid (Px.trans Pz q); clear tp q; have xl := X.out.lt; have x0 := X.out.cell' 0 _ rfl; have x1 := X.out.cell' 1 _ rfl; have x2 := X.out.cell' 2 _ rfl; have t0 := X.out.free 0; have t1 := X.out.free 1; have t2 := X.out.free 2))
          | (go_at_call 46; ((with_reducible refine (IH.out _ (by omega) (by omega) TP.out).mono ?_); rintro e w' ⟨y, ka, kc, rfl, ok, dp, K, tp, q⟩; have KH : Hid (KidsB w' (fun b => w.heap.size < b ∧ b ≠ w6.heap.size) ka kc y.ks) := Lib.hid (K.mono fun b hb => ⟨by omega, by omega⟩); replace TP := Lib.hid tp; replace R : Hid (Bx w' w.heap.size exZ 35) := Lib.hid (Bx.px Rz q (by omega)); have rl := R.out.lt; have s0 := R.out.free 0; have s1 := R.out.free 1; have s2 := R.out.free 2; have u0 := R.out.cell' 0 _ rfl; have u1 := R.out.cell' 1 _ rfl; have u2 := R.out.cell' 2 _ rfl; replace X := Lib.hid (Bx.px (by repeat (first | exact X.out | refine Bx.alloc ?_ _ | refine Bx.drew ?_)) q (by omega)); have xl := X.out.lt; have x0 := X.out.cell' 0 _ rfl; have x1 := X.out.cell' 1 _ rfl; have x2 := X.out.cell' 2 _ rfl; have t0 := X.out.free 0; have t1 := X.out.free 1; have t2 := X.out.free 2; replace q0 : Hid (Px B w w') := Lib.hid (Px.trans Pz q); clear tp q K)))
        · refine code_of (fun w2 => Hid (Bx w2 w.heap.size exZ 35) ∧ Hid (Bx w2 w6.heap.size #[.int .i64 y.op, .int .i64 y.n, .slice ka y.ks.length kc] 35) ∧ Hid (KidsB w2 (fun b => w.heap.size < b ∧ b ≠ w6.heap.size) ka kc y.ks) ∧ Hid (TpB w2 B v zs) ∧ Hid (Px B w w2))
            ⟨Lib.hid (((R.out.other (by show w.heap.size ≠ w6.heap.size; omega) _).other (by show w.heap.size ≠ w6.heap.size; omega) _).other (by show w.heap.size ≠ w6.heap.size; omega) _), Lib.hid (((X.out.set 0 _).set 1 _).set 2 _), Lib.hid (((KH.out.set (fun h => h.2 rfl) _).set (fun h => h.2 rfl) _).set (fun h => h.2 rfl) _), Lib.hid (((TP.out.other xB _ _).other xB _ _).other xB _ _), Lib.hid (((q0.out.setNew (by show w.heap.size ≤ w6.heap.size; omega) _).setNew (by show w.heap.size ≤ w6.heap.size; omega) _).setNew (by show w.heap.size ≤ w6.heap.size; omega) _)⟩ ?_
          clear R X KH TP q0 x0 x1 x2 u0 u1 u2 s0 s1 s2 t0 t1 t2 rl xl
          rintro w2 ⟨R, X, K, TP, q0⟩
          have rl := R.out.lt
          have s0 := R.out.free 0
          have s1 := R.out.free 1
          have s2 := R.out.free 2
          have u0 := R.out.cell' 0 _ rfl
          have u1 := R.out.cell' 1 _ rfl
          have u2 := R.out.cell' 2 _ rfl
          have xl := X.out.lt
          have x0 := X.out.cell' 0 _ rfl
          have x1 := X.out.cell' 1 _ rfl
          have x2 := X.out.cell' 2 _ rfl
          have t0 := X.out.free 0
          have t1 := X.out.free 1
          have t2 := X.out.free 2
          have xr2 := X.out.lt
          go_wp2_with fail
          exact exaEnd2 (d := d + 1) (x := Sy.un 1 y) Tryd.results46 rfl rfl rfl rfl rfl (Sy.okx_un' (by decide) rfl ok) (by rw [Sy.dpt_un]; omega) hB _ R.out (KidsB.one (x := y) (Bx.new _ _ _) (by show w.heap.size < w2.heap.size; omega) ((K.out.alloc _).mono fun b hb => hb.1)) TP.out q0.out
        · have K : Hid (KidsB w' (fun b => w.heap.size < b ∧ b ≠ w6.heap.size) none 0 (Sy.num (m * 1000000)).ks) := Lib.hid (KidsB.nl none 0 (by decide))
          have ok : Sy.okx (Sy.num (m * 1000000)) = true := Sy.okx_num' (by omega) (by omega)
          have dp : Sy.dpt (Sy.num (m * 1000000)) ≤ d := by rw [Sy.dpt_num]; omega
          have xr2 := X.out.lt
          go_wp2_with fail
          exact exaEnd2 (d := d + 1) (x := Sy.un 1 (Sy.num (m * 1000000))) Tryd.results46 rfl rfl rfl rfl rfl (Sy.okx_un' (by decide) rfl ok) (by rw [Sy.dpt_un]; omega) hB _ R.out (KidsB.one (x := (Sy.num (m * 1000000))) (Bx.new _ _ _) (by show w.heap.size < w'.heap.size; omega) ((K.out.alloc _).mono fun b hb => hb.1)) TP.out q0.out
      · by_cases h6 : r < 6
        · go_upto_region 11 with fail
          refine code_of (fun w2 => Hid (Bx w2 w.heap.size exZ 35) ∧ (∃ T, Hid (Bx w2 w'.heap.size #[.int .i64 2, .int .i64 8, .int .i64 9, .int .i64 10, .int .i64 12, .int .i64 13, .int .i64 14, .int .i64 15, .int .i64 16] T)) ∧ Hid (TpB w2 B v zs) ∧ Hid (Px B w w2)) ⟨Lib.hid (R.out.alloc _), ⟨_, Lib.hid (Bx.new _ _ _)⟩, Lib.hid (TP.out.kept ((Below.refl _ _).alloc (Nat.le_refl _) _)), Lib.hid (q0.out.alloc _)⟩ ?_
          have lB : B < w'.heap.size := TP.out.lt
          clear R TP q0 u0 u1 u2 s0 s1 s2 rl
          rintro w2 ⟨R, ⟨T, L⟩, TP, q0⟩
          have rl := R.out.lt
          have s0 := R.out.free 0
          have s1 := R.out.free 1
          have s2 := R.out.free 2
          have u0 := R.out.cell' 0 _ rfl
          have u1 := R.out.cell' 1 _ rfl
          have u2 := R.out.cell' 2 _ rfl
          have hwd : IntKind.i64.wrap (d : Int) = (d : Int) := IntWalk.i64_in _ (by omega)
          go_region_law ((try go_simp); go_wp2_with (first
            | (go_at_call 29; ((with_reducible refine (C.out _ (by decide) (by decide) _ (TP.out.kept (show Qw _ _ by repeat (first | exact Qw.refl _ | refine Qw.al ?_ _ | refine Qw.dr ?_ | refine Qw.dn ?_ _)))).mono ?_); rintro e w' ⟨r2, rfl, r20, r21, tp, q⟩; replace TP := Lib.hid tp; replace R : Hid (Bx w' w.heap.size exZ 35) := Lib.hid (Bx.kept2 R.out (show Qw _ _ by repeat (first | exact Qw.refl _ | refine Qw.al ?_ _ | refine Qw.dr ?_ | refine Qw.dn ?_ _)) q (by omega)); have rl := R.out.lt; have s0 := R.out.free 0; have s1 := R.out.free 1; have s2 := R.out.free 2; have u0 := R.out.cell' 0 _ rfl; have u1 := R.out.cell' 1 _ rfl; have u2 := R.out.cell' 2 _ rfl; replace L := Lib.hid (Bx.kept2 L.out (show Qw _ _ by repeat (first | exact Qw.refl _ | refine Qw.al ?_ _ | refine Qw.dr ?_ | refine Qw.dn ?_ _)) q (by omega)); obtain ⟨o, hm, hl⟩ := lit_all (cs := #[.int .i64 2, .int .i64 8, .int .i64 9, .int .i64 10, .int .i64 12, .int .i64 13, .int .i64 14, .int .i64 15, .int .i64 16]) r2 opsU rfl r20 r21; have ho := hl _ _ _ L.out; have HL := Lib.hid hl; replace q0 : Hid (Px B w w') := Lib.hid (Px.trans (Px.trans q0.out (Px.of (show Qw _ _ by repeat (first | exact Qw.refl _ | refine Qw.al ?_ _ | refine Qw.dr ?_ | refine Qw.dn ?_ _)))) q); clear tp q hl))
            | (go_at_call 46; ((with_reducible refine (IH.out _ (by omega) (by omega) (TP.out.kept (show Qw _ _ by repeat (first | exact Qw.refl _ | refine Qw.al ?_ _ | refine Qw.dr ?_ | refine Qw.dn ?_ _)))).mono ?_); rintro e w' ⟨y, ka, kc, rfl, ok, dp, K, tp, q⟩; have KH : Hid (KidsB w' (fun b => w.heap.size < b) ka kc y.ks) := Lib.hid (K.mono fun b hb => Nat.lt_of_lt_of_le R.out.lt hb); replace TP := Lib.hid tp; replace R : Hid (Bx w' w.heap.size exZ 35) := Lib.hid (Bx.kept2 R.out (show Qw _ _ by repeat (first | exact Qw.refl _ | refine Qw.al ?_ _ | refine Qw.dr ?_ | refine Qw.dn ?_ _)) q (by omega)); have rl := R.out.lt; have s0 := R.out.free 0; have s1 := R.out.free 1; have s2 := R.out.free 2; have u0 := R.out.cell' 0 _ rfl; have u1 := R.out.cell' 1 _ rfl; have u2 := R.out.cell' 2 _ rfl; replace L := Lib.hid (Bx.kept2 L.out (show Qw _ _ by repeat (first | exact Qw.refl _ | refine Qw.al ?_ _ | refine Qw.dr ?_ | refine Qw.dn ?_ _)) q (by omega)); have ho := HL.out _ _ _ L.out; have Ll := L.out.lt; have Ln := Nat.ne_of_lt Ll; replace q0 : Hid (Px B w w') := Lib.hid (Px.trans (Px.trans q0.out (Px.of (show Qw _ _ by repeat (first | exact Qw.refl _ | refine Qw.al ?_ _ | refine Qw.dr ?_ | refine Qw.dn ?_ _)))) q); clear tp q K))))
          all_goals go_wp2_with fail
          all_goals exact exaEnd2 (d := d + 1) (x := Sy.un o y) Tryd.results46 rfl rfl rfl rfl rfl (Sy.okx_un' (opsU_ok hm).1 (opsU_ok hm).2 ok) (by rw [Sy.dpt_un]; omega) hB _ R.out (KidsB.one (x := y) (Bx.new _ _ _) R.out.lt (KH.out.alloc _)) TP.out q0.out
        · go_upto_region 15 with (first
            | (go_at_call 29; ((with_reducible refine (C.out _ (by decide) (by decide) _ (TP.out.kept (show Qw _ _ by repeat (first | exact Qw.refl _ | refine Qw.al ?_ _ | refine Qw.dr ?_ | refine Qw.dn ?_ _)))).mono ?_); rintro e w5 ⟨r2, rfl, r20, r21, tp, q⟩; obtain ⟨o, hm, hl⟩ := lit_all (cs := #[.int .i64 3, .int .i64 4, .int .i64 5, .int .i64 6, .int .i64 7, .int .i64 11, .int .i64 17, .int .i64 18, .int .i64 19, .int .i64 20, .int .i64 21, .int .i64 22, .int .i64 23, .int .i64 24, .int .i64 25, .int .i64 3, .int .i64 4, .int .i64 5]) r2 opsB rfl r20 r21; have ho := hl _ _ _ (Bx.kept2 (Bx.new _ _ _) (show Qw _ _ by repeat (first | exact Qw.refl _ | refine Qw.al ?_ _ | refine Qw.dr ?_ | refine Qw.dn ?_ _)) q (Nat.ne_of_gt TP.out.lt)); replace TP := Lib.hid tp; replace R : Hid (Bx w5 w.heap.size exZ 35) := Lib.hid (Bx.kept2 R.out (show Qw _ _ by repeat (first | exact Qw.refl _ | refine Qw.al ?_ _ | refine Qw.dr ?_ | refine Qw.dn ?_ _)) q (by omega)); have rl := R.out.lt; have s0 := R.out.free 0; have s1 := R.out.free 1; have s2 := R.out.free 2; have u0 := R.out.cell' 0 _ rfl; have u1 := R.out.cell' 1 _ rfl; have u2 := R.out.cell' 2 _ rfl; replace q0 : Hid (Px B w w5) := Lib.hid (Px.trans (Px.trans q0.out (Px.of (show Qw _ _ by repeat (first | exact Qw.refl _ | refine Qw.al ?_ _ | refine Qw.dr ?_ | refine Qw.dn ?_ _)))) q); clear tp q hl))
            | (go_at_call 46; ((with_reducible refine (IH.out _ (by omega) (by omega) (TP.out.kept (show Qw _ _ by repeat (first | exact Qw.refl _ | refine Qw.al ?_ _ | refine Qw.dr ?_ | refine Qw.dn ?_ _)))).mono ?_); rintro e w6 ⟨y, ka, kc, rfl, ok, dp, K, tp, q⟩; have KH : Hid (KidsB w6 (fun b => w.heap.size < b) ka kc y.ks) := Lib.hid (K.mono fun b hb => Nat.lt_of_lt_of_le R.out.lt hb); replace TP := Lib.hid tp; replace R : Hid (Bx w6 w.heap.size exZ 35) := Lib.hid (Bx.kept2 R.out (show Qw _ _ by repeat (first | exact Qw.refl _ | refine Qw.al ?_ _ | refine Qw.dr ?_ | refine Qw.dn ?_ _)) q (by omega)); have rl := R.out.lt; have s0 := R.out.free 0; have s1 := R.out.free 1; have s2 := R.out.free 2; have u0 := R.out.cell' 0 _ rfl; have u1 := R.out.cell' 1 _ rfl; have u2 := R.out.cell' 2 _ rfl; replace q0 : Hid (Px B w w6) := Lib.hid (Px.trans (Px.trans q0.out (Px.of (show Qw _ _ by repeat (first | exact Qw.refl _ | refine Qw.al ?_ _ | refine Qw.dr ?_ | refine Qw.dn ?_ _)))) q); clear tp q K)))
          have lB : B < w6.heap.size := TP.out.lt
          refine code_of (fun w2 => Hid (Bx w2 w.heap.size exZ 35) ∧ Hid (Bx w2 w6.heap.size #[.int .i64 y.op, .int .i64 y.n, .slice ka y.ks.length kc] 35) ∧ Hid (KidsB w2 (fun b => w.heap.size < b) ka kc y.ks) ∧ Hid (TpB w2 B v zs) ∧ Hid (Px B w w2)) ⟨Lib.hid (R.out.alloc _), Lib.hid (Bx.new _ _ _), Lib.hid (KH.out.alloc _), Lib.hid (TP.out.kept ((Below.refl _ _).alloc (Nat.le_refl _) _)), Lib.hid (q0.out.alloc _)⟩ ?_
          clear R TP q0 KH u0 u1 u2 s0 s1 s2 rl
          rintro w2 ⟨R, X, KH, TP, q0⟩
          have rl := R.out.lt
          have s0 := R.out.free 0
          have s1 := R.out.free 1
          have s2 := R.out.free 2
          have u0 := R.out.cell' 0 _ rfl
          have u1 := R.out.cell' 1 _ rfl
          have u2 := R.out.cell' 2 _ rfl
          have xl := X.out.lt
          have x0 := X.out.cell' 0 _ rfl
          have x1 := X.out.cell' 1 _ rfl
          have x2 := X.out.cell' 2 _ rfl
          have hwd : IntKind.i64.wrap (d : Int) = (d : Int) := IntWalk.i64_in _ (by omega)
          go_region_law (go_simp; go_wp2_with (go_at_call 46; ((with_reducible refine (IH.out _ (by omega) (by omega) (TP.out.kept (show Qw _ _ by repeat (first | exact Qw.refl _ | refine Qw.al ?_ _ | refine Qw.dr ?_ | refine Qw.dn ?_ _)))).mono ?_); rintro e w' ⟨z, kb, kd, rfl, ok2, dp2, K, tp, q⟩; have KH2 : Hid (KidsB w' (fun b => w.heap.size < b) kb kd z.ks) := Lib.hid (K.mono fun b hb => Nat.lt_of_lt_of_le R.out.lt hb); replace KH : Hid (KidsB w' (fun b => w.heap.size < b) ka kc y.ks) := Lib.hid ((KH.out.kept (show Qw _ _ by repeat (first | exact Qw.refl _ | refine Qw.al ?_ _ | refine Qw.dr ?_ | refine Qw.dn ?_ _))).px (fun b hb => by omega) q); replace TP := Lib.hid tp; replace R : Hid (Bx w' w.heap.size exZ 35) := Lib.hid (Bx.kept2 R.out (show Qw _ _ by repeat (first | exact Qw.refl _ | refine Qw.al ?_ _ | refine Qw.dr ?_ | refine Qw.dn ?_ _)) q (by omega)); have rl := R.out.lt; have s0 := R.out.free 0; have s1 := R.out.free 1; have s2 := R.out.free 2; have u0 := R.out.cell' 0 _ rfl; have u1 := R.out.cell' 1 _ rfl; have u2 := R.out.cell' 2 _ rfl; replace X := Lib.hid (Bx.kept2 X.out (show Qw _ _ by repeat (first | exact Qw.refl _ | refine Qw.al ?_ _ | refine Qw.dr ?_ | refine Qw.dn ?_ _)) q (by omega)); have xl := X.out.lt; have x0 := X.out.cell' 0 _ rfl; have x1 := X.out.cell' 1 _ rfl; have x2 := X.out.cell' 2 _ rfl; replace q0 : Hid (Px B w w') := Lib.hid (Px.trans (Px.trans q0.out (Px.of (show Qw _ _ by repeat (first | exact Qw.refl _ | refine Qw.al ?_ _ | refine Qw.dr ?_ | refine Qw.dn ?_ _)))) q); clear tp q K)))
          all_goals go_wp2_with fail
          all_goals exact exaEnd2 (d := d + 1) (x := Sy.bin o y z) Tryd.results46 rfl rfl rfl rfl rfl (Sy.okx_bin' (opsB_ok hm).1 (opsB_ok hm).2 ok ok2) (by rw [Sy.dpt_bin]; omega) hB _ R.out (KidsB.two (x := y) (y := z) (Bx.new _ _ _) R.out.lt (KH.out.alloc _) (KH2.out.alloc _)) TP.out q0.out
end Go.Proofs.YtlgdjbabbfdngaaDoor

