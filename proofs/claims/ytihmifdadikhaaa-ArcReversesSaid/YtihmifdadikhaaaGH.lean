import Derived.Test.YtihmifdadikhaaaGD
import Derived.Maps.AppendAt
import Derived.Test.YtihmifdadikhaaaGG
import Derived.Deep.DeepCutAuto

/- Drawing from a tape: what every drawn thing of layer 13 shares. -/
set_option linter.unusedVariables false
set_option linter.unusedSimpArgs false
namespace Go.Proofs.Ytihmifdadikhaaa
open Go.RowKit

/-! ### the tape, the next number -/
theorem grownR {w w' : World} {row : Option Nat} : w.grownBy w row := ⟨rfl, rfl, rfl, Nat.le_refl _, fun _ _ _ => rfl⟩
theorem grownAl (w : World) (o : Obj) (row : Option Nat) : w.grownBy (w.alloc o) row := ⟨rfl, rfl, rfl, by simp, fun k hk _ => Below.heap_alloc w o k hk⟩
theorem grownDr (w : World) (n : Nat) (row : Option Nat) : w.grownBy (w.drewN n) row := ⟨rfl, rfl, rfl, Nat.le_refl _, fun _ _ _ => rfl⟩
theorem grownSet (w : World) (b i : Nat) (u : Value) : w.grownBy (w.setCell ⟨b, i, none⟩ u) (some b) :=
  ⟨rfl, rfl, rfl, by simp [World.setCell], fun k hk hne => Below.heap_setCell w ⟨b, i, none⟩ u k (fun e => hne (by rw [e]))⟩
theorem IntsB.grownM {B C : Nat} {w w' : World} {v : Value} {zs : List Int} (h : IntsB B w v zs) (q : w.grownBy w' (some C)) (hC : B ≤ C) (hw : B ≤ w.heap.size) : IntsB B w' v zs :=
  h.kept (C := B) ⟨q.os, q.tape, q.output, q.size, fun k hk => q.block k (by omega) (by simp; omega)⟩ (Nat.le_refl _)
set_option maxRecDepth 100000 in
set_option maxHeartbeats 1000000 in
theorem nextM (B : Nat) (v : Value) (zs : List Int) (k : Nat) (n : Int) (n1 : 1 ≤ n) (n2 : n ≤ 9223372036854775807) (w : World) (h : TapeAt w B v zs k) :
    Calls Try.prog 69 #[.pointer (some ⟨B, 0, none⟩), .int .i64 n] w fun e w' => e = .returned (.int .i64 (nxt zs k n)) ∧ TapeAt w' B v zs (adv zs k) ∧ w.grownBy w' (some B) := by
  have hB := lt_of_block h.1
  obtain ⟨h1, h2, h3⟩ := h
  obtain ⟨a, cap, rfl, l1, l2, h4⟩ := h2
  obtain ⟨c0, c1, f1⟩ := cells_of_two h1
  unfold nxt adv
  by_cases hk : k < zs.length
  · rw [if_pos hk, if_pos hk]
    rcases h4 with rfl | ⟨b, off, rfl, hb, hz⟩
    · simp at hk
    · obtain ⟨z0, z1, z2⟩ := hz k hk
      have hlt := lt_of_block h1
      have hk' : (k : Int) < zs.length := by omega
      have HZ := Lib.hid hz
      have H1 := Lib.hid h1
      have md := fun w => modW (zs.getD k 0) n z1 z2 n1 n2 w
      obtain ⟨z, ez⟩ : ∃ z, zs.getD k 0 = z := ⟨_, rfl⟩
      rw [ez] at z0 z1 z2 md
      rw [ez]
      have MD := Lib.hid md
      have bB : b ≠ B := by omega
      clear hz ez md h1
      go_enter Try.func69, Try.ntmps69
      go_wp2
      go_quiet (fail)
      go_wp2
      obtain ⟨w1, hw1⟩ : ∃ w1, w1 = (w.drewN nq).setCell { block := B, off := 1 } (Value.int IntKind.i64 (↑k + 1)) := ⟨_, rfl⟩
      rw [← hw1]
      have g1 : w1.heap[B]? = some (.cells #[.slice (some ⟨b, off, none⟩) zs.length cap, .int .i64 ((k + 1 : Nat) : Int)] 84 (0, 0)) := by
        rw [hw1]
        exact two_setCell (w := w.drewN nq) H1.out
      have q1 : w.grownBy w1 (some B) := by
        rw [hw1]
        exact (grownDr w nq (some B)).trans (grownSet (w.drewN nq) B 1 _)
      have p1 : w1.cell? ⟨b, off + k, none⟩ = w.cell? ⟨b, off + k, none⟩ := World.cell?_of_block (a := ⟨b, off + k, none⟩) (q1.block b (by omega) (by simp; omega))
      obtain ⟨d0, d1, _⟩ := cells_of_two g1
      have d2 : w1.cell? ⟨b, off + k, none⟩ = some (.int .i64 z) := p1.trans z0
      rw [Int.natCast_add] at d1
      have T1 : Hid (TapeAt w1 B (.slice (some ⟨b, off, none⟩) zs.length cap) zs (k + 1)) := Lib.hid ⟨g1, IntsB.grownM ⟨some ⟨b, off, none⟩, cap, rfl, l1, l2, .inr ⟨b, off, rfl, hb, HZ.out⟩⟩ q1 (Nat.le_refl _) (by omega), by omega⟩
      have e1 : IntKind.i64.wrap ((k : Int) + 1 - 1) = k := (IntWalk.i64_in ((k : Int) + 1 - 1) (by omega)).trans (by omega)
      clear g1 hw1 c0 c1 f1 z0 p1
      go_quiet ((go_at_call 16; exact Calls.quiet_of_same ((MD.out _).mono fun _ _ ⟨h1, h2⟩ => ⟨h1, h2.symm⟩)))
      go_wp2
      go_ret
      exact ⟨rfl, T1.out.kept (Qw.drewN w1 _), q1.trans (grownDr w1 _ _)⟩
  · rw [if_neg hk, if_neg hk]
    have hk' : (zs.length : Int) ≤ k := by omega
    have H1 := Lib.hid (show TapeAt w B (.slice a zs.length cap) zs k from ⟨h1, ⟨a, cap, rfl, l1, l2, h4⟩, h3⟩)
    clear h1 h4 hk
    go_enter Try.func69, Try.ntmps69
    go_wp2
    go_quiet (fail)
    go_wp2
    go_ret
    exact ⟨rfl, H1.out.kept (Qw.drewN w nq), grownDr w _ _⟩

theorem Bx.grM {w w' : World} {b B : Nat} {cs : Array Value} {t : TypeId} (h : Bx w b cs t) (q : w.grownBy w' (some B)) (hb : b ≠ B) : Bx w' b cs t := (q.block b h.lt (by simpa using hb)).trans h
theorem grownRow' {w w1 : World} {B R : Nat} (g : w.grownBy w1 (some B)) (hR : w.heap.size ≤ R) (cs : Array Value) : w.grownBy (w1.setRow R cs) (some B) :=
  ⟨g.os, g.tape, g.output, by rw [setRow_size]; exact g.size, fun b hb hn => (setRow_other w1 R b cs (by omega)).trans (g.block b hb hn)⟩
theorem grownSetN {w w1 : World} {B R : Nat} (g : w.grownBy w1 (some B)) (hR : w.heap.size ≤ R) (k : Nat) (v : Value) : w.grownBy (w1.setCell ⟨R, k, none⟩ v) (some B) :=
  ⟨g.os, g.tape, g.output, by simpa using g.size, fun j hj hn => (Below.heap_setCell w1 ⟨R, k, none⟩ v j (by show j ≠ R; omega)).trans (g.block j hj hn)⟩
theorem grownOwn {w w1 : World} {B R : Nat} (g : w.grownBy w1 (some B)) (hR : w.heap.size ≤ R) (a b c : Value) : w.grownBy (((w1.setCell ⟨R, 0, none⟩ a).setCell ⟨R, 1, none⟩ b).setCell ⟨R, 2, none⟩ c) (some B) :=
  grownSetN (grownSetN (grownSetN g hR 0 a) hR 1 b) hR 2 c
/-- While something is drawn from the tape in block B. -/
structure Tm (w0 : World) (B : Nat) (tv : Value) (zs : List Int) (w : World) : Prop where
  t : ∃ k, TapeAt w B tv zs k
  g : w0.grownBy w (some B)
  b : B < w0.heap.size
section
variable {w0 w w' : World} {B P : Nat} {tv : Value} {zs : List Int} {cs : Array Value} {t : TypeId}
theorem Tm.of {k : Nat} (h : TapeAt w B tv zs k) : Tm w B tv zs w := ⟨⟨k, h⟩, grownR (w' := w), lt_of_block h.1⟩
theorem Tm.next {k : Nat} (h : Tm w0 B tv zs w) (t : TapeAt w' B tv zs k) (g : w.grownBy w' (some B)) : Tm w0 B tv zs w' := ⟨⟨k, t⟩, h.g.trans g, h.b⟩
theorem Tm.new (h : Tm w0 B tv zs w) (q : Qw w w') : Tm w0 B tv zs w' := by
  obtain ⟨⟨k, t⟩, g, b⟩ := h
  exact ⟨⟨k, t.kept q⟩, g.trans ⟨q.os, q.tape, q.output, q.size, fun b hb _ => q.block b hb⟩, b⟩
theorem Tm.size (h : Tm w0 B tv zs w) : w0.heap.size ≤ w.heap.size := h.g.size
theorem Tm.lt (h : Tm w0 B tv zs w) : B < w.heap.size := Nat.lt_of_lt_of_le h.b h.g.size
/-- A block of the call's own is written. -/
theorem Tm.set (h : Tm w0 B tv zs w) (hP : w0.heap.size ≤ P) (k : Nat) (v : Value) : Tm w0 B tv zs (w.setCell ⟨P, k, none⟩ v) := by
  obtain ⟨⟨k', t⟩, g, b⟩ := h
  have hb := lt_of_block t.1
  refine ⟨⟨k', ?_⟩, ⟨g.os, g.tape, g.output, by simpa using g.size, fun j hj hn => ?_⟩, b⟩
  · obtain ⟨t1, t2, t3⟩ := t
    refine ⟨(Below.heap_setCell w ⟨P, k, none⟩ v B (by show B ≠ P; omega)).trans t1, ?_, t3⟩
    obtain ⟨a, cap, e1, e2, e3, e4⟩ := t2
    refine ⟨a, cap, e1, e2, e3, ?_⟩
    rcases e4 with e | ⟨bb, off, ea, hbb, hz⟩
    · exact .inl e
    · refine .inr ⟨bb, off, ea, hbb, fun i hi => ⟨?_, (hz i hi).2⟩⟩
      exact (World.cell?_of_block (a := ⟨bb, off + i, none⟩) (Below.heap_setCell w ⟨P, k, none⟩ v bb (by show bb ≠ P; omega))).trans (hz i hi).1
  · exact (Below.heap_setCell w ⟨P, k, none⟩ v j (by show j ≠ P; omega)).trans (g.block j hj hn)
theorem Tm.row (h : Tm w0 B tv zs w) (hP : w0.heap.size ≤ P) (cs : Array Value) : w0.grownBy (w.setRow P cs) (some B) := grownRow' h.g hP cs
end
set_option maxRecDepth 100000 in
theorem rangeD (B : Nat) (tv : Value) (zs : List Int) (lo hi : Int) (h0 : -1000000 ≤ lo) (h1 : lo ≤ hi) (h2 : hi ≤ 1000000) (w0 w : World) (h : Tm w0 B tv zs w) :
    Calls Try.prog 66 #[.pointer (some ⟨B, 0, none⟩), .int .i64 lo, .int .i64 hi] w fun e w' => (∃ n : Int, e = .returned (.int .i64 n) ∧ lo ≤ n ∧ n ≤ hi) ∧ Tm w0 B tv zs w' ∧ w.grownBy w' (some B) := by
  obtain ⟨⟨k, t⟩, g, b⟩ := h
  have c := nextM B tv zs k (hi - lo + 1) (by omega) (by omega) w t
  have bd := nxt_bd zs k (hi - lo + 1) (by omega)
  generalize nxt zs k (hi - lo + 1) = n at *
  have C := Lib.hid c
  have G := Lib.hid g
  clear c t g
  go_enter Try.func66, Try.ntmps66
  go_wp2_with (go_at_call 69; ((with_reducible refine (C.out).mono ?_); rintro e w1 ⟨rfl, t, g⟩; have T1 := Lib.hid t; have G1 := Lib.hid g; clear t g))
  go_ret
  exact ⟨⟨lo + n, rfl, by omega, by omega⟩, ⟨⟨_, T1.out⟩, G.out.trans G1.out, b⟩, G1.out⟩
theorem nextD (B : Nat) (tv : Value) (zs : List Int) (m : Int) (m0 : 1 ≤ m) (m1 : m ≤ 1000000000) (w0 w : World) (h : Tm w0 B tv zs w) :
    Calls Try.prog 69 #[.pointer (some ⟨B, 0, none⟩), .int .i64 m] w fun e w' => (∃ n : Int, e = .returned (.int .i64 n) ∧ 0 ≤ n ∧ n < m) ∧ Tm w0 B tv zs w' ∧ w.grownBy w' (some B) := by
  obtain ⟨⟨k, t⟩, g, b⟩ := h
  have bd := nxt_bd zs k m (by omega)
  exact (nextM B tv zs k m (by omega) (by omega) w t).mono fun e w' ⟨he, t', g'⟩ => ⟨⟨_, he, bd.1, bd.2⟩, ⟨⟨_, t'⟩, g.trans g', b⟩, g'⟩
set_option maxRecDepth 100000 in
set_option maxHeartbeats 2000000 in
theorem vecD (B : Nat) (tv : Value) (zs : List Int) (s : Int) (s0 : 0 ≤ s) (s1 : s ≤ 1000000) (w0 w : World) (h : Tm w0 B tv zs w) :
    Calls Try.prog 33 #[.pointer (some ⟨B, 0, none⟩), .int .i64 s] w fun e w' => (∃ x y z : Int, e = .returned (.agg #[.int .i64 x, .int .i64 y, .int .i64 z]) ∧ (-s ≤ x ∧ x ≤ s) ∧ (-s ≤ y ∧ y ≤ s) ∧ (-s ≤ z ∧ z ≤ s)) ∧ Tm w0 B tv zs w' ∧ w.grownBy w' (some B) := by
  have RG := Lib.hid (fun w' (h : Tm w0 B tv zs w') => rangeD B tv zs (-s) s (by omega) (by omega) s1 w0 w' h)
  have M0 := Lib.hid (h.new (Qw.al (Qw.refl w) (.cells #[.int .i64 0, .int .i64 0, .int .i64 0] 23)))
  have R0 := Lib.hid (Bx.new w #[.int .i64 0, .int .i64 0, .int .i64 0] 23)
  have G0 := Lib.hid (grownAl w (.cells #[.int .i64 0, .int .i64 0, .int .i64 0] 23) (some B))
  have hB : w.heap.size ≠ B := by have := h.lt; omega
  have hW := h.size
  clear h
  go_enter Try.func33, Try.ntmps33
  go_wp2_with (go_at_call 66; (first | ((with_reducible refine (RG.out _ M0.out).mono ?_); rintro e w1 ⟨⟨x, rfl, x1, x2⟩, m, g⟩; have M1 := Lib.hid m; have R1 := Lib.hid (R0.out.grM g hB); have G1 := Lib.hid (G0.out.trans g); clear m g) | ((with_reducible refine (RG.out _ M1.out).mono ?_); rintro e w2 ⟨⟨y, rfl, y1, y2⟩, m, g⟩; have M2 := Lib.hid m; have R2 := Lib.hid (R1.out.grM g hB); have G2 := Lib.hid (G1.out.trans g); clear m g) | ((with_reducible refine (RG.out _ M2.out).mono ?_); rintro e w3 ⟨⟨z, rfl, z1, z2⟩, m, g⟩; have M3 := Lib.hid m; have R3 := Lib.hid (R2.out.grM g hB); have G3 := Lib.hid (G2.out.trans g); have r0 := R3.out.cell' 0 (.int .i64 0) rfl; have r1 := R3.out.cell' 1 (.int .i64 0) rfl; have r2 := R3.out.cell' 2 (.int .i64 0) rfl; have f0 := R3.out.free 0; have f1 := R3.out.free 1; have f2 := R3.out.free 2; clear m g)))
  have S := R3.out.st3 (.int .i64 x) (.int .i64 y) (.int .i64 z)
  have t0 := S.cell' 0 (.int .i64 x) rfl
  have t1 := S.cell' 1 (.int .i64 y) rfl
  have t2 := S.cell' 2 (.int .i64 z) rfl
  refine bodyPost_ret (v := .agg #[.int .i64 x, .int .i64 y, .int .i64 z]) (by simp [results, Try.results33, go_sem, t0, t1, t2]) rfl ⟨⟨x, y, z, rfl, ⟨x1, x2⟩, ⟨y1, y2⟩, ⟨z1, z2⟩⟩, ((M3.out.set (by simpa using hW) 0 _).set (by simpa using hW) 1 _).set (by simpa using hW) 2 _, ?_⟩
  exact grownOwn G3.out (Nat.le_refl _) _ _ _

/-- A row is written. -/
def SetR (w w' : World) (P : Nat) : Prop := ∃ cs, w' = w.setRow P cs
theorem SetR.oth {w w' : World} {P b : Nat} {cs : Array Value} {t : TypeId} (h : SetR w w' P) (hb : b ≠ P) (X : Bx w b cs t) : Bx w' b cs t := by obtain ⟨c, rfl⟩ := h; exact X.sr' hb
theorem SetR.tm {w0 w w' : World} {B P : Nat} {tv : Value} {zs : List Int} (s : SetR w w' P) (h : Tm w0 B tv zs w) (hP : w0.heap.size ≤ P) : Tm w0 B tv zs w' := by
  obtain ⟨cs, rfl⟩ := s
  have hr := h.row hP cs
  obtain ⟨⟨k, t1, t2, t3⟩, g, b⟩ := h
  have hb := b
  refine ⟨⟨k, (setRow_other w P B cs (by omega)).trans t1, ?_, t3⟩, hr, b⟩
  obtain ⟨a, cap, e1, e2, e3, e4⟩ := t2
  refine ⟨a, cap, e1, e2, e3, ?_⟩
  rcases e4 with e | ⟨bb, off, ea, hbb, hz⟩
  · exact .inl e
  · refine .inr ⟨bb, off, ea, hbb, fun i hi => ⟨?_, (hz i hi).2⟩⟩
    exact (World.cell?_of_block (a := ⟨bb, off + i, none⟩) (setRow_other w P bb cs (by omega))).trans (hz i hi).1
theorem Tm.nt {w0 w : World} {B P : Nat} {tv : Value} {zs : List Int} (h : Tm w0 B tv zs w) (hP : w0.heap.size ≤ P) : P ≠ B := by have := h.b; omega
section
variable {ops : Array Oper} {rest : List Oper} {dst : Option Tmp} {ty : TypeId} {pos : String} {after : Array Edge} {a : Act} {w w0 : World} {Q : Exit → Act → World → Prop} {P R : Nat}
theorem sg_vec {x y z : Int} {o0 o1 o2 : Value} (t u : Tmp) (hx : a.eval (.tmp t) = .pointer (some ⟨P, 0, none⟩)) (hy : a.eval (.tmp u) = .agg #[.int .i64 x, .int .i64 y, .int .i64 z]) (X : Bx w P #[o0, o1, o2] 23)
    (h : ∀ w', Bx w' P #[.int .i64 x, .int .i64 y, .int .i64 z] 23 → SetR w w' P → wpList Try.prog ops Q rest (a.put dst undef) w') :
    wpList Try.prog ops Q (⟨dst, .store 23 (.tmp t) (.tmp u), ty, pos, after, none⟩ :: rest) a w :=
  wpList_store_row rfl 23 (.tmp t) (.tmp u) rfl P #[.int .i64 x, .int .i64 y, .int .i64 z] hx hy 23 #[o0, o1, o2] X info_vec rfl (by simp [Value.oneCell']) (h _ X.srS ⟨_, rfl⟩)
theorem sg_pt {x y : Int} {o0 o1 : Value} (t u : Tmp) (hx : a.eval (.tmp t) = .pointer (some ⟨P, 0, none⟩)) (hy : a.eval (.tmp u) = .agg #[.int .i64 x, .int .i64 y]) (X : Bx w P #[o0, o1] 32)
    (h : ∀ w', Bx w' P #[.int .i64 x, .int .i64 y] 32 → SetR w w' P → wpList Try.prog ops Q rest (a.put dst undef) w') :
    wpList Try.prog ops Q (⟨dst, .store 32 (.tmp t) (.tmp u), ty, pos, after, none⟩ :: rest) a w :=
  wpList_store_row rfl 32 (.tmp t) (.tmp u) rfl P #[.int .i64 x, .int .i64 y] hx hy 32 #[o0, o1] X info_pt rfl (by simp [Value.oneCell']) (h _ X.srS ⟨_, rfl⟩)
theorem sg_it {f g : Ac.I} (x y : Tmp) (hx : a.eval (.tmp x) = .pointer (some ⟨P, 0, none⟩)) (hy : a.eval (.tmp y) = .agg (itc g)) (X : Bx w P (itc f) IT)
    (h : ∀ w', Bx w' P (itc g) IT → SetR w w' P → wpList Try.prog ops Q rest (a.put dst undef) w') : wpList Try.prog ops Q (⟨dst, .store IT (.tmp x) (.tmp y), ty, pos, after, none⟩ :: rest) a w :=
  wpList_store_row rfl IT (.tmp x) (.tmp y) rfl P (itc g) hx hy IT (itc f) X (by rw [itc_size]; exact info_it) (by rw [itc_size, itc_size]) (itc_one g) (h _ X.srS ⟨_, rfl⟩)
end
end Go.Proofs.Ytihmifdadikhaaa

/- Drawing points and spokes from a tape. -/
set_option linter.unusedVariables false
set_option linter.unusedSimpArgs false
namespace Go.Proofs.Ytihmifdadikhaaa
open Go.RowKit

set_option maxRecDepth 100000 in
set_option maxHeartbeats 2000000 in
theorem ptD (B : Nat) (tv : Value) (zs : List Int) (w0 w : World) (hm : Tm w0 B tv zs w) (s : Int) (s0 : 0 ≤ s) (s1 : s ≤ 1000000) :
    Calls Try.prog 68 #[.pointer (some ⟨B, 0, none⟩), .int .i64 s] w fun e w' => (∃ u v : Int, e = .returned (.agg #[.int .i64 u, .int .i64 v]) ∧ (-s ≤ u ∧ u ≤ s) ∧ (-s ≤ v ∧ v ≤ s)) ∧ Tm w0 B tv zs w' ∧ w.grownBy w' (some B) := by
  have RG := Lib.hid (fun lo hi h0 h1 h2 w' (h : Tm w B tv zs w') => rangeD B tv zs lo hi h0 h1 h2 w w' h)
  have HM := Lib.hid hm
  obtain ⟨⟨kk, tt⟩, _, _⟩ := hm
  have MM := Lib.hid (Tm.of tt)
  clear tt
  go_enter Try.func68, Try.ntmps68
  go_upto_region 1 with (go_big_may; ((with_reducible refine al_pt (dst := some 4) ?_); intro w1 B4 hb xx qq; have h4 := Lib.hid (Nat.le_trans MM.out.size hb); replace MM := Lib.hid (MM.out.new qq); have X4 := Lib.hid xx; clear xx qq hb))
  go_upto_region 2 with (go_big_may; (go_at_call 66; ((with_reducible refine (RG.out (-s) s (by omega) (by omega) s1 _ MM.out).mono ?_); rintro e w2 ⟨⟨u, rfl, u1, u2⟩, mm, gg⟩; replace X4 := Lib.hid (X4.out.grM gg (MM.out.nt h4.out)); replace MM := Lib.hid mm; clear mm gg)))
  go_wp2_with (first | (go_at_call 66; ((with_reducible refine (RG.out (-s) s (by omega) (by omega) s1 _ MM.out).mono ?_); rintro e w3 ⟨⟨v, rfl, v1, v2⟩, mm, gg⟩; replace X4 := Lib.hid (X4.out.grM gg (MM.out.nt h4.out)); replace MM := Lib.hid mm; clear mm gg)) | ((with_reducible refine sg_pt (x := ?_) (y := ?_) 4 17 ?_ ?_ X4.out ?_); rotate_left 2; (rfl); (rfl); intro w4 xx ss; replace MM := Lib.hid (ss.tm MM.out h4.out); replace X4 := Lib.hid xx; clear xx ss))
  have c4_0 := X4.out.p0
  have c4_1 := X4.out.p1
  exact bodyPost_ret (v := .agg #[.int .i64 u, .int .i64 v]) (by simp [results, Try.results68, go_sem, c4_0, c4_1]) rfl ⟨⟨u, v, rfl, ⟨u1, u2⟩, ⟨v1, v2⟩⟩, ⟨MM.out.t, HM.out.g.trans MM.out.g, HM.out.b⟩, MM.out.g⟩
theorem wpM_named {P : Program} {md : Region.Mode} {ops : Array Oper} {Q : Exit → Act → World → Prop} {S S' : World → Prop} {m f : Nat} {l : Array Bool} {a : Act} {w : World} (h : S' w) (k : ∀ w', S' w' → wpAnyM P md ops Q S m f l a w') : wpAnyM P md ops Q S m f l a w := k w h
/-- What spokes leaves. -/
def SpkR (w0 w : World) (B : Nat) (tv : Value) (zs : List Int) (e : Ending) (w' : World) : Prop :=
  (∃ (a b c d : Int) (f ok : Bool), e = .returned (.tuple #[.agg #[.int .i64 a, .int .i64 b], .agg #[.int .i64 c, .int .i64 d], .bool f, .bool ok]) ∧ (-20000 ≤ a ∧ a ≤ 20000) ∧ (-20000 ≤ b ∧ b ≤ 20000) ∧ (-20002 ≤ c ∧ c ≤ 20002) ∧ (-20002 ≤ d ∧ d ≤ 20002) ∧ (ok = true → Ac.fit (Ac.inn a b a b) (Ac.inn c d c d) = true ∧ Ac.agr f a b c d = true)) ∧ Tm w0 B tv zs w' ∧ w.grownBy w' (some B)
theorem agr_of (a b c d : Int) (f : Bool) : (Ac.fit (Ac.inn a b a b) (Ac.inn c d c d) && Ac.agr f a b c d) = true → Ac.fit (Ac.inn a b a b) (Ac.inn c d c d) = true ∧ Ac.agr f a b c d = true := fun h => by simpa using h
set_option maxRecDepth 100000 in
set_option maxHeartbeats 16000000 in
theorem spokesD (B : Nat) (tv : Value) (zs : List Int) (w0 w : World) (hm : Tm w0 B tv zs w) :
    Calls Try.prog 67 #[.pointer (some ⟨B, 0, none⟩)] w (SpkR w0 w B tv zs) := by
  have RG := Lib.hid (fun lo hi h0 h1 h2 w' (h : Tm w B tv zs w') => rangeD B tv zs lo hi h0 h1 h2 w w' h)
  have NX := Lib.hid (fun m m0 m1 w' (h : Tm w B tv zs w') => nextD B tv zs m m0 m1 w w' h)
  have PD := Lib.hid (fun s s0 s1 w' (h : Tm w B tv zs w') => ptD B tv zs w w' h s s0 s1)
  have HM := Lib.hid hm
  obtain ⟨⟨kk, tt⟩, _, _⟩ := hm
  have MM := Lib.hid (Tm.of tt)
  clear tt
  go_enter Try.func67, Try.ntmps67
  go_upto_region 1 with (go_big_may; (first | ((with_reducible refine al_pt (dst := some 2) ?_); intro w1 B2 hb xx qq; have h2 := Lib.hid (Nat.le_trans MM.out.size hb); replace MM := Lib.hid (MM.out.new qq); have X2 := Lib.hid xx; clear xx qq hb) | ((with_reducible refine al_pt (dst := some 3) ?_); intro w2 B3 hb xx qq; have n3_2 := Lib.hid (Nat.ne_of_gt (Nat.lt_of_lt_of_le X2.out.lt hb)); have m3_2 := Lib.hid (Nat.ne_of_lt (Nat.lt_of_lt_of_le X2.out.lt hb)); have h3 := Lib.hid (Nat.le_trans MM.out.size hb); replace X2 := Lib.hid (X2.out.kept qq); replace MM := Lib.hid (MM.out.new qq); have X3 := Lib.hid xx; clear xx qq hb)))
  go_cut [6] (fun pv wx => ∃ s : Int, pv = .int .i64 s ∧ 20 ≤ s ∧ s ≤ 20000 ∧ Hid (Tm w B tv zs wx) ∧ Hid (Bx wx B2 #[.int .i64 0, .int .i64 0] 32) ∧ Hid (Bx wx B3 #[.int .i64 0, .int .i64 0] 32))
  case first =>
    have SL := Lib.hid (fun w' : World => Bx.new w' #[.int .i64 20, .int .i64 300, .int .i64 20000] 3)
    go_wp2_with (go_at_call 69; ((with_reducible refine (NX.out 3 (by decide) (by decide) _ (MM.out.new (Qw.al (Qw.refl _) _))).mono ?_); rintro e wn ⟨⟨n3, rfl, n31, n32⟩, mm, gg⟩; have qn := MM.out.lt; have S3 := Lib.hid ((SL.out _).grM gg (by omega)); have Y2 := Lib.hid ((X2.out.alloc _).grM gg (MM.out.nt h2.out)); have Y3 := Lib.hid ((X3.out.alloc _).grM gg (MM.out.nt h3.out)); have NM := Lib.hid mm; have s0 := S3.out.v0; have s1 := S3.out.v1; have s2 := S3.out.v2; clear mm gg qn SL; have n3c : n3 = 0 ∨ n3 = 1 ∨ n3 = 2 := (by omega); clear n31 n32; rcases n3c with rfl | rfl | rfl))
    all_goals go_meet
    · exact ⟨20, rfl, by decide, by decide, NM, Y2, Y3⟩
    · exact ⟨300, rfl, by decide, by decide, NM, Y2, Y3⟩
    · exact ⟨20000, rfl, by decide, by decide, NM, Y2, Y3⟩
  case rest =>
    clear MM X2 X3
    obtain ⟨s, rfl, s0, s1, MM, X2, X3⟩ := hcut
    go_upto_region 3 with (go_big_may; (first | (go_at_call 68; ((with_reducible refine (PD.out s (by omega) (by omega) _ MM.out).mono ?_); rintro e w3 ⟨⟨u, v, rfl, ub, vb⟩, mm, gg⟩; have ub2 : -20000 ≤ u ∧ u ≤ 20000 := (by omega); have vb2 : -20000 ≤ v ∧ v ≤ 20000 := (by omega); clear ub vb; replace X2 := Lib.hid (X2.out.grM gg (MM.out.nt h2.out)); replace X3 := Lib.hid (X3.out.grM gg (MM.out.nt h3.out)); replace MM := Lib.hid mm; clear mm gg)) | ((with_reducible refine al_pt (dst := some 7) ?_); intro w4 B7 hb xx qq; have n7_2 := Lib.hid (Nat.ne_of_gt (Nat.lt_of_lt_of_le X2.out.lt hb)); have n7_3 := Lib.hid (Nat.ne_of_gt (Nat.lt_of_lt_of_le X3.out.lt hb)); have m7_2 := Lib.hid (Nat.ne_of_lt (Nat.lt_of_lt_of_le X2.out.lt hb)); have m7_3 := Lib.hid (Nat.ne_of_lt (Nat.lt_of_lt_of_le X3.out.lt hb)); have h7 := Lib.hid (Nat.le_trans MM.out.size hb); replace X2 := Lib.hid (X2.out.kept qq); replace X3 := Lib.hid (X3.out.kept qq); replace MM := Lib.hid (MM.out.new qq); have X7 := Lib.hid xx; clear xx qq hb) | ((with_reducible refine sg_pt (x := ?_) (y := ?_) 7 17 ?_ ?_ X7.out ?_); rotate_left 2; (rfl); (rfl); intro w5 xx ss; replace X2 := Lib.hid (ss.oth m7_2.out X2.out); replace X3 := Lib.hid (ss.oth m7_3.out X3.out); replace MM := Lib.hid (ss.tm MM.out h7.out); replace X7 := Lib.hid xx; clear xx ss)))
    go_upto_region 4 with (go_big_may; (first | ((with_reducible refine ld_pt 7 ?_ X7.out ?_); (rfl)) | ((with_reducible refine al_pt (dst := some 8) ?_); intro w6 B8 hb xx qq; have n8_2 := Lib.hid (Nat.ne_of_gt (Nat.lt_of_lt_of_le X2.out.lt hb)); have n8_3 := Lib.hid (Nat.ne_of_gt (Nat.lt_of_lt_of_le X3.out.lt hb)); have n8_7 := Lib.hid (Nat.ne_of_gt (Nat.lt_of_lt_of_le X7.out.lt hb)); have m8_2 := Lib.hid (Nat.ne_of_lt (Nat.lt_of_lt_of_le X2.out.lt hb)); have m8_3 := Lib.hid (Nat.ne_of_lt (Nat.lt_of_lt_of_le X3.out.lt hb)); have m8_7 := Lib.hid (Nat.ne_of_lt (Nat.lt_of_lt_of_le X7.out.lt hb)); have h8 := Lib.hid (Nat.le_trans MM.out.size hb); replace X2 := Lib.hid (X2.out.kept qq); replace X3 := Lib.hid (X3.out.kept qq); replace X7 := Lib.hid (X7.out.kept qq); replace MM := Lib.hid (MM.out.new qq); have X8 := Lib.hid xx; clear xx qq hb) | ((with_reducible refine sg_pt (x := ?_) (y := ?_) 8 18 ?_ ?_ X8.out ?_); rotate_left 2; (rfl); (rfl); intro w7 xx ss; replace X2 := Lib.hid (ss.oth m8_2.out X2.out); replace X3 := Lib.hid (ss.oth m8_3.out X3.out); replace X7 := Lib.hid (ss.oth m8_7.out X7.out); replace MM := Lib.hid (ss.tm MM.out h8.out); replace X8 := Lib.hid xx; clear xx ss)))
    go_upto_region 5 with (go_big_may; (go_at_call 69; ((with_reducible refine (NX.out 8 (by decide) (by decide) _ MM.out).mono ?_); rintro e w8 ⟨⟨f8, rfl, f81, f82⟩, mm, gg⟩; replace X2 := Lib.hid (X2.out.grM gg (MM.out.nt h2.out)); replace X3 := Lib.hid (X3.out.grM gg (MM.out.nt h3.out)); replace X7 := Lib.hid (X7.out.grM gg (MM.out.nt h7.out)); replace X8 := Lib.hid (X8.out.grM gg (MM.out.nt h8.out)); replace MM := Lib.hid mm; clear mm gg)))
    go_upto_region 7 with (go_big_may; (go_at_call 69; ((with_reducible refine (NX.out 4 (by decide) (by decide) _ MM.out).mono ?_); rintro e w9 ⟨⟨n4, rfl, n41, n42⟩, mm, gg⟩; replace X2 := Lib.hid (X2.out.grM gg (MM.out.nt h2.out)); replace X3 := Lib.hid (X3.out.grM gg (MM.out.nt h3.out)); replace X7 := Lib.hid (X7.out.grM gg (MM.out.nt h7.out)); replace X8 := Lib.hid (X8.out.grM gg (MM.out.nt h8.out)); replace MM := Lib.hid mm; clear mm gg)))
    have n4c : n4 = 0 ∨ n4 = 1 ∨ n4 = 2 ∨ n4 = 3 := by omega
    clear n41 n42 f81 f82 s0 s1
    obtain ⟨ub1, ub2⟩ := ub2
    obtain ⟨vb1, vb2⟩ := vb2
    rcases n4c with rfl | rfl | rfl | rfl
    · go_upto_region 8 with fail
      have c7_0 := X7.out.p0
      have c7_1 := X7.out.p1
      go_upto_region 13 with (go_big_may; ((with_reducible refine sg_pt (x := ?_) (y := ?_) 8 37 ?_ ?_ X8.out ?_); rotate_left 2; (rfl); (rfl); intro w10 xx ss; replace X2 := Lib.hid (ss.oth m8_2.out X2.out); replace X3 := Lib.hid (ss.oth m8_3.out X3.out); replace X7 := Lib.hid (ss.oth m8_7.out X7.out); replace MM := Lib.hid (ss.tm MM.out h8.out); replace X8 := Lib.hid xx; clear xx ss))
      clear c7_0 c7_1
      by_cases e8 : f8 = 0
      · have z8 : (f8 == 0) = true := by simpa using e8
        clear e8
        go_upto_region 14 with fail
        go_upto_region 17 with (go_big_may; (first | ((with_reducible refine ld_pt 7 ?_ X7.out ?_); (rfl)) | ((with_reducible refine sg_pt (x := ?_) (y := ?_) 8 55 ?_ ?_ X8.out ?_); rotate_left 2; (rfl); (rfl); intro w11 xx ss; replace X2 := Lib.hid (ss.oth m8_2.out X2.out); replace X3 := Lib.hid (ss.oth m8_3.out X3.out); replace X7 := Lib.hid (ss.oth m8_7.out X7.out); replace MM := Lib.hid (ss.tm MM.out h8.out); replace X8 := Lib.hid xx; clear xx ss)))
        have ft := fun w' => arFit u v u v true (by omega) (by omega) (by omega) (by omega) (by omega) (by omega) (by omega) (by omega) w'
        have AG := Lib.hid (agr_of u v u v true)
        generalize ok : (Ac.fit (Ac.inn u v u v) (Ac.inn u v u v) && Ac.agr true u v u v) = okk at *
        have FT := Lib.hid ft
        have OK := Lib.hid ok
        clear ft ok
        try simp only [List.getElem_toArray, List.getElem_cons_succ, List.getElem_cons_zero, Act.put, List.setIfInBounds_toArray, List.set_cons_zero, List.set_cons_succ]
        refine wp_region_M (fun wS => Tm w B tv zs wS ∧ Bx wS B7 #[.int .i64 u, .int .i64 v] 32 ∧ Bx wS B8 #[.int .i64 u, .int .i64 v] 32) 10 (by kernel_rfl) ?_
        have hSS : (fun wS => Tm w B tv zs wS ∧ Bx wS B7 #[.int .i64 u, .int .i64 v] 32 ∧ Bx wS B8 #[.int .i64 u, .int .i64 v] 32) (World.drew _) := ⟨MM.out.new (qw_drew1 _), X7.out.kept (qw_drew1 _), X8.out.kept (qw_drew1 _)⟩
        replace X2 := Lib.hid (X2.out.kept (qw_drew1 _))
        replace X3 := Lib.hid (X3.out.kept (qw_drew1 _))
        refine wpM_named (S' := fun wS => (fun wS => Tm w B tv zs wS ∧ Bx wS B7 #[.int .i64 u, .int .i64 v] 32 ∧ Bx wS B8 #[.int .i64 u, .int .i64 v] 32) wS ∧ Bx wS B2 #[.int .i64 0, .int .i64 0] 32 ∧ Bx wS B3 #[.int .i64 0, .int .i64 0] 32) ⟨hSS, X2.out, X3.out⟩ ?_
        clear X2 X3 hSS MM X7 X8
        rintro wd ⟨hSS, x2, x3⟩
        have X2 := Lib.hid x2
        have X3 := Lib.hid x3
        clear x2 x3
        refine wpAnyM_take (i := 0) (v := ?_) rfl (by kernel_rfl) (fun _ _ _ h => h) (Or.inl ⟨by rfl, ?_⟩) hSS ?_
        rotate_left 1
        · intro wS hwS
          have y0 := hwS.2.1.p0; have y1 := hwS.2.1.p1; go_simp
          try with_reducible rfl
        simp only [List.getElem_toArray, List.getElem_cons_succ, List.getElem_cons_zero, Act.put, List.setIfInBounds_toArray, List.set_cons_zero, List.set_cons_succ]
        refine wpAnyM_take (i := 2) (v := ?_) rfl (by kernel_rfl) (fun _ _ _ h => h) (Or.inl ⟨by rfl, ?_⟩) hSS ?_
        rotate_left 1
        · intro wS hwS
          go_simp
          try with_reducible rfl
        simp only [List.getElem_toArray, List.getElem_cons_succ, List.getElem_cons_zero, Act.put, List.setIfInBounds_toArray, List.set_cons_zero, List.set_cons_succ]
        refine wpAnyM_takeT (i := 3) (v := ?_) [6, 7, 8, 9, 10] [] rfl (by kernel_rfl) (fun _ _ _ h => h) (Or.inl ⟨by rfl, ?_⟩) hSS ?_
        rotate_left 1
        · intro wS hwS
          have y0 := hwS.2.1.p0; have y1 := hwS.2.1.p1; go_simp
          try with_reducible rfl
        simp only [List.getElem_toArray, List.getElem_cons_succ, List.getElem_cons_zero, Act.put, List.setIfInBounds_toArray, List.set_cons_zero, List.set_cons_succ]
        refine wpAnyM_takeT (i := 4) (v := ?_) [6, 7, 8, 9, 10] [] rfl (by kernel_rfl) (fun _ _ _ h => h) (Or.inl ⟨by rfl, ?_⟩) hSS ?_
        rotate_left 1
        · intro wS hwS
          have y0 := hwS.2.2.p0; have y1 := hwS.2.2.p1; go_simp
          try with_reducible rfl
        simp only [List.getElem_toArray, List.getElem_cons_succ, List.getElem_cons_zero, Act.put, List.setIfInBounds_toArray, List.set_cons_zero, List.set_cons_succ]
        refine wpAnyM_take (i := 5) (v := ?_) rfl (by kernel_rfl) (fun _ _ _ h => h) (Or.inl ⟨by rfl, ?_⟩) hSS ?_
        rotate_left 1
        · intro wS hwS
          go_simp
          try with_reducible rfl
        simp only [List.getElem_toArray, List.getElem_cons_succ, List.getElem_cons_zero, Act.put, List.setIfInBounds_toArray, List.set_cons_zero, List.set_cons_succ]
        refine wpAnyM_two (i := 1) (j := 6) rfl rfl (by kernel_rfl) rfl rfl (fun K hK => ?_) (fun K hK => ?_)
        · have z0 := hSS.2.2.p0
          have z1 := hSS.2.2.p1
          go_simp
          refine hK _ _ (fun _ => hSS) ?_
          clear hK K z0 z1
          try simp only [List.getElem_toArray, List.getElem_cons_succ, List.getElem_cons_zero, Act.put, List.setIfInBounds_toArray, List.set_cons_zero, List.set_cons_succ]
          refine wpAnyM_one (i := 6) rfl (by kernel_rfl) rfl (fun K hK => ?_)
          go_simp
          refine (FT.out _).mono ?_
          rintro e wE ⟨rfl, qq⟩
          have m2 : (fun wS => Tm w B tv zs wS ∧ Bx wS B7 #[.int .i64 u, .int .i64 v] 32 ∧ Bx wS B8 #[.int .i64 u, .int .i64 v] 32) wE := ⟨hSS.1.new qq, hSS.2.1.kept qq, hSS.2.2.kept qq⟩
          replace X2 := Lib.hid (X2.out.kept qq)
          replace X3 := Lib.hid (X3.out.kept qq)
          refine hK _ _ (fun _ => m2) ?_
          clear hK K hSS qq
          have hSS := m2
          clear m2
          try simp only [List.getElem_toArray, List.getElem_cons_succ, List.getElem_cons_zero, Act.put, List.setIfInBounds_toArray, List.set_cons_zero, List.set_cons_succ]
          refine wpAnyM_one (i := 7) rfl (by kernel_rfl) rfl (fun K hK => ?_)
          have z0 := X2.out.p0
          have z1 := X2.out.p1
          have y0 := X2.out.free 0
          have y1 := X2.out.free 1
          go_simp
          have hZ := X2.out.st2 (.int .i64 u) (.int .i64 v)
          have m2 := And.intro ((hSS.1.set h2.out 0 (.int .i64 u)).set h2.out 1 (.int .i64 v)) (And.intro (hSS.2.1.otA2 n7_2.out (.int .i64 u) (.int .i64 v)) (hSS.2.2.otA2 n8_2.out (.int .i64 u) (.int .i64 v)))
          replace X3 := Lib.hid (X3.out.otA2 n3_2.out (.int .i64 u) (.int .i64 v))
          replace X2 := Lib.hid hZ
          refine hK _ _ (fun _ => m2) ?_
          clear hK K hSS hZ z0 z1 y0 y1
          have hSS := m2
          clear m2
          try simp only [List.getElem_toArray, List.getElem_cons_succ, List.getElem_cons_zero, Act.put, List.setIfInBounds_toArray, List.set_cons_zero, List.set_cons_succ]
          refine wpAnyM_one (i := 8) rfl (by kernel_rfl) rfl (fun K hK => ?_)
          have z0 := X3.out.p0
          have z1 := X3.out.p1
          have y0 := X3.out.free 0
          have y1 := X3.out.free 1
          go_simp
          have hZ := X3.out.st2 (.int .i64 u) (.int .i64 v)
          have m2 := And.intro ((hSS.1.set h3.out 0 (.int .i64 u)).set h3.out 1 (.int .i64 v)) (And.intro (hSS.2.1.otA2 n7_3.out (.int .i64 u) (.int .i64 v)) (hSS.2.2.otA2 n8_3.out (.int .i64 u) (.int .i64 v)))
          replace X2 := Lib.hid (X2.out.otA2 m3_2.out (.int .i64 u) (.int .i64 v))
          replace X3 := Lib.hid hZ
          refine hK _ _ (fun _ => m2) ?_
          clear hK K hSS hZ z0 z1 y0 y1
          have hSS := m2
          clear m2
          try simp only [List.getElem_toArray, List.getElem_cons_succ, List.getElem_cons_zero, Act.put, List.setIfInBounds_toArray, List.set_cons_zero, List.set_cons_succ]
          refine wpAnyM_one (i := 9) rfl (by kernel_rfl) rfl (fun K hK => ?_)
          go_simp
          refine hK _ _ (fun _ => hSS) ?_
          clear hK K
          try simp only [List.getElem_toArray, List.getElem_cons_succ, List.getElem_cons_zero, Act.put, List.setIfInBounds_toArray, List.set_cons_zero, List.set_cons_succ]
          refine wpAnyM_one (i := 10) rfl (by kernel_rfl) rfl (fun K hK => ?_)
          go_simp
          refine hK _ _ (fun h => absurd h (by decide)) ?_
          clear hK K
          try simp only [List.getElem_toArray, List.getElem_cons_succ, List.getElem_cons_zero, Act.put, List.setIfInBounds_toArray, List.set_cons_zero, List.set_cons_succ]
          refine wpAnyM_done (by kernel_rfl) ?_ _
          go_wp2
          have c2_0 := X2.out.p0
          have c2_1 := X2.out.p1
          have c3_0 := X3.out.p0
          have c3_1 := X3.out.p1
          exact bodyPost_ret (v := .tuple #[.agg #[.int .i64 u, .int .i64 v], .agg #[.int .i64 u, .int .i64 v], .bool true, .bool okk]) (by simp [results, Try.results67, go_sem, c2_0, c2_1, c3_0, c3_1]) rfl (by show SpkR w0 w B tv zs _ _; unfold SpkR; exact ⟨⟨u, v, u, v, true, okk, rfl, by omega, by omega, by omega, by omega, fun hk => AG.out hk⟩, ⟨hSS.1.t, HM.out.g.trans hSS.1.g, HM.out.b⟩, hSS.1.g⟩)
        · go_simp
          refine (FT.out _).mono ?_
          rintro e wE ⟨rfl, qq⟩
          have m2 : (fun wS => Tm w B tv zs wS ∧ Bx wS B7 #[.int .i64 u, .int .i64 v] 32 ∧ Bx wS B8 #[.int .i64 u, .int .i64 v] 32) wE := ⟨hSS.1.new qq, hSS.2.1.kept qq, hSS.2.2.kept qq⟩
          replace X2 := Lib.hid (X2.out.kept qq)
          replace X3 := Lib.hid (X3.out.kept qq)
          refine hK _ _ (fun _ => m2) ?_
          clear hK K hSS qq
          have hSS := m2
          clear m2
          try simp only [List.getElem_toArray, List.getElem_cons_succ, List.getElem_cons_zero, Act.put, List.setIfInBounds_toArray, List.set_cons_zero, List.set_cons_succ]
          refine wpAnyM_two (i := 1) (j := 7) rfl rfl (by kernel_rfl) rfl rfl (fun K hK => ?_) (fun K hK => ?_)
          · have z0 := hSS.2.2.p0
            have z1 := hSS.2.2.p1
            go_simp
            refine hK _ _ (fun _ => hSS) ?_
            clear hK K z0 z1
            try simp only [List.getElem_toArray, List.getElem_cons_succ, List.getElem_cons_zero, Act.put, List.setIfInBounds_toArray, List.set_cons_zero, List.set_cons_succ]
            refine wpAnyM_one (i := 7) rfl (by kernel_rfl) rfl (fun K hK => ?_)
            have z0 := X2.out.p0
            have z1 := X2.out.p1
            have y0 := X2.out.free 0
            have y1 := X2.out.free 1
            go_simp
            have hZ := X2.out.st2 (.int .i64 u) (.int .i64 v)
            have m2 := And.intro ((hSS.1.set h2.out 0 (.int .i64 u)).set h2.out 1 (.int .i64 v)) (And.intro (hSS.2.1.otA2 n7_2.out (.int .i64 u) (.int .i64 v)) (hSS.2.2.otA2 n8_2.out (.int .i64 u) (.int .i64 v)))
            replace X3 := Lib.hid (X3.out.otA2 n3_2.out (.int .i64 u) (.int .i64 v))
            replace X2 := Lib.hid hZ
            refine hK _ _ (fun _ => m2) ?_
            clear hK K hSS hZ z0 z1 y0 y1
            have hSS := m2
            clear m2
            try simp only [List.getElem_toArray, List.getElem_cons_succ, List.getElem_cons_zero, Act.put, List.setIfInBounds_toArray, List.set_cons_zero, List.set_cons_succ]
            refine wpAnyM_one (i := 8) rfl (by kernel_rfl) rfl (fun K hK => ?_)
            have z0 := X3.out.p0
            have z1 := X3.out.p1
            have y0 := X3.out.free 0
            have y1 := X3.out.free 1
            go_simp
            have hZ := X3.out.st2 (.int .i64 u) (.int .i64 v)
            have m2 := And.intro ((hSS.1.set h3.out 0 (.int .i64 u)).set h3.out 1 (.int .i64 v)) (And.intro (hSS.2.1.otA2 n7_3.out (.int .i64 u) (.int .i64 v)) (hSS.2.2.otA2 n8_3.out (.int .i64 u) (.int .i64 v)))
            replace X2 := Lib.hid (X2.out.otA2 m3_2.out (.int .i64 u) (.int .i64 v))
            replace X3 := Lib.hid hZ
            refine hK _ _ (fun _ => m2) ?_
            clear hK K hSS hZ z0 z1 y0 y1
            have hSS := m2
            clear m2
            try simp only [List.getElem_toArray, List.getElem_cons_succ, List.getElem_cons_zero, Act.put, List.setIfInBounds_toArray, List.set_cons_zero, List.set_cons_succ]
            refine wpAnyM_one (i := 9) rfl (by kernel_rfl) rfl (fun K hK => ?_)
            go_simp
            refine hK _ _ (fun _ => hSS) ?_
            clear hK K
            try simp only [List.getElem_toArray, List.getElem_cons_succ, List.getElem_cons_zero, Act.put, List.setIfInBounds_toArray, List.set_cons_zero, List.set_cons_succ]
            refine wpAnyM_one (i := 10) rfl (by kernel_rfl) rfl (fun K hK => ?_)
            go_simp
            refine hK _ _ (fun h => absurd h (by decide)) ?_
            clear hK K
            try simp only [List.getElem_toArray, List.getElem_cons_succ, List.getElem_cons_zero, Act.put, List.setIfInBounds_toArray, List.set_cons_zero, List.set_cons_succ]
            refine wpAnyM_done (by kernel_rfl) ?_ _
            go_wp2
            have c2_0 := X2.out.p0
            have c2_1 := X2.out.p1
            have c3_0 := X3.out.p0
            have c3_1 := X3.out.p1
            exact bodyPost_ret (v := .tuple #[.agg #[.int .i64 u, .int .i64 v], .agg #[.int .i64 u, .int .i64 v], .bool true, .bool okk]) (by simp [results, Try.results67, go_sem, c2_0, c2_1, c3_0, c3_1]) rfl (by show SpkR w0 w B tv zs _ _; unfold SpkR; exact ⟨⟨u, v, u, v, true, okk, rfl, by omega, by omega, by omega, by omega, fun hk => AG.out hk⟩, ⟨hSS.1.t, HM.out.g.trans hSS.1.g, HM.out.b⟩, hSS.1.g⟩)
          · have z0 := X2.out.p0
            have z1 := X2.out.p1
            have y0 := X2.out.free 0
            have y1 := X2.out.free 1
            go_simp
            have hZ := X2.out.st2 (.int .i64 u) (.int .i64 v)
            have m2 := And.intro ((hSS.1.set h2.out 0 (.int .i64 u)).set h2.out 1 (.int .i64 v)) (And.intro (hSS.2.1.otA2 n7_2.out (.int .i64 u) (.int .i64 v)) (hSS.2.2.otA2 n8_2.out (.int .i64 u) (.int .i64 v)))
            replace X3 := Lib.hid (X3.out.otA2 n3_2.out (.int .i64 u) (.int .i64 v))
            replace X2 := Lib.hid hZ
            refine hK _ _ (fun _ => m2) ?_
            clear hK K hSS hZ z0 z1 y0 y1
            have hSS := m2
            clear m2
            try simp only [List.getElem_toArray, List.getElem_cons_succ, List.getElem_cons_zero, Act.put, List.setIfInBounds_toArray, List.set_cons_zero, List.set_cons_succ]
            refine wpAnyM_one (i := 1) rfl (by kernel_rfl) rfl (fun K hK => ?_)
            have z0 := hSS.2.2.p0
            have z1 := hSS.2.2.p1
            go_simp
            refine hK _ _ (fun _ => hSS) ?_
            clear hK K z0 z1
            try simp only [List.getElem_toArray, List.getElem_cons_succ, List.getElem_cons_zero, Act.put, List.setIfInBounds_toArray, List.set_cons_zero, List.set_cons_succ]
            refine wpAnyM_one (i := 8) rfl (by kernel_rfl) rfl (fun K hK => ?_)
            have z0 := X3.out.p0
            have z1 := X3.out.p1
            have y0 := X3.out.free 0
            have y1 := X3.out.free 1
            go_simp
            have hZ := X3.out.st2 (.int .i64 u) (.int .i64 v)
            have m2 := And.intro ((hSS.1.set h3.out 0 (.int .i64 u)).set h3.out 1 (.int .i64 v)) (And.intro (hSS.2.1.otA2 n7_3.out (.int .i64 u) (.int .i64 v)) (hSS.2.2.otA2 n8_3.out (.int .i64 u) (.int .i64 v)))
            replace X2 := Lib.hid (X2.out.otA2 m3_2.out (.int .i64 u) (.int .i64 v))
            replace X3 := Lib.hid hZ
            refine hK _ _ (fun _ => m2) ?_
            clear hK K hSS hZ z0 z1 y0 y1
            have hSS := m2
            clear m2
            try simp only [List.getElem_toArray, List.getElem_cons_succ, List.getElem_cons_zero, Act.put, List.setIfInBounds_toArray, List.set_cons_zero, List.set_cons_succ]
            refine wpAnyM_one (i := 9) rfl (by kernel_rfl) rfl (fun K hK => ?_)
            go_simp
            refine hK _ _ (fun _ => hSS) ?_
            clear hK K
            try simp only [List.getElem_toArray, List.getElem_cons_succ, List.getElem_cons_zero, Act.put, List.setIfInBounds_toArray, List.set_cons_zero, List.set_cons_succ]
            refine wpAnyM_one (i := 10) rfl (by kernel_rfl) rfl (fun K hK => ?_)
            go_simp
            refine hK _ _ (fun h => absurd h (by decide)) ?_
            clear hK K
            try simp only [List.getElem_toArray, List.getElem_cons_succ, List.getElem_cons_zero, Act.put, List.setIfInBounds_toArray, List.set_cons_zero, List.set_cons_succ]
            refine wpAnyM_done (by kernel_rfl) ?_ _
            go_wp2
            have c2_0 := X2.out.p0
            have c2_1 := X2.out.p1
            have c3_0 := X3.out.p0
            have c3_1 := X3.out.p1
            exact bodyPost_ret (v := .tuple #[.agg #[.int .i64 u, .int .i64 v], .agg #[.int .i64 u, .int .i64 v], .bool true, .bool okk]) (by simp [results, Try.results67, go_sem, c2_0, c2_1, c3_0, c3_1]) rfl (by show SpkR w0 w B tv zs _ _; unfold SpkR; exact ⟨⟨u, v, u, v, true, okk, rfl, by omega, by omega, by omega, by omega, fun hk => AG.out hk⟩, ⟨hSS.1.t, HM.out.g.trans hSS.1.g, HM.out.b⟩, hSS.1.g⟩)
      · have z8 : (f8 == 0) = false := beq_eq_false_iff_ne.2 e8
        clear e8
        go_upto_region 15 with fail
        go_upto_if 58 with (go_at_call 69; ((with_reducible refine (NX.out 3 (by decide) (by decide) _ MM.out).mono ?_); rintro e w8 ⟨⟨g3, rfl, g31, g32⟩, mm, gg⟩; replace X2 := Lib.hid (X2.out.grM gg (MM.out.nt h2.out)); replace X3 := Lib.hid (X3.out.grM gg (MM.out.nt h3.out)); replace X7 := Lib.hid (X7.out.grM gg (MM.out.nt h7.out)); replace X8 := Lib.hid (X8.out.grM gg (MM.out.nt h8.out)); replace MM := Lib.hid mm; clear mm gg))
        by_cases e3 : g3 = 0
        · have z3 : (g3 == 0) = true := by simpa using e3
          clear e3 g31 g32
          go_upto_region 16 with fail
          have EW := Lib.hid (fun n (h1 : -2 ≤ n) (h2 : n ≤ 2) => IntWalk.i64_in ((-v) + n) (by omega))
          try simp only [List.getElem_toArray, List.getElem_cons_succ, List.getElem_cons_zero, Act.put, List.setIfInBounds_toArray, List.set_cons_zero, List.set_cons_succ]
          refine wp_region_M (fun wS => Tm w B tv zs wS ∧ Bx wS B8 #[.int .i64 (-v), .int .i64 u] 32 ∧ Bx wS B7 #[.int .i64 u, .int .i64 v] 32 ∧ Bx wS B2 #[.int .i64 0, .int .i64 0] 32 ∧ Bx wS B3 #[.int .i64 0, .int .i64 0] 32) 6 (by kernel_rfl) ?_
          have hSS : (fun wS => Tm w B tv zs wS ∧ Bx wS B8 #[.int .i64 (-v), .int .i64 u] 32 ∧ Bx wS B7 #[.int .i64 u, .int .i64 v] 32 ∧ Bx wS B2 #[.int .i64 0, .int .i64 0] 32 ∧ Bx wS B3 #[.int .i64 0, .int .i64 0] 32) (World.drew _) := ⟨MM.out.new (qw_drew1 _), X8.out.kept (qw_drew1 _), X7.out.kept (qw_drew1 _), X2.out.kept (qw_drew1 _), X3.out.kept (qw_drew1 _)⟩
          skip
          refine wpM_named (S' := fun wS => Tm w B tv zs wS ∧ Bx wS B8 #[.int .i64 (-v), .int .i64 u] 32 ∧ Bx wS B7 #[.int .i64 u, .int .i64 v] 32 ∧ Bx wS B2 #[.int .i64 0, .int .i64 0] 32 ∧ Bx wS B3 #[.int .i64 0, .int .i64 0] 32) hSS ?_
          intro wd hSS
          refine wpAnyM_take (i := 0) (v := ?_) rfl (by kernel_rfl) (fun _ _ _ h => h) (Or.inl ⟨by rfl, ?_⟩) hSS ?_
          rotate_left 1
          · intro wS hwS
            go_simp
            try with_reducible rfl
          simp only [List.getElem_toArray, List.getElem_cons_succ, List.getElem_cons_zero, Act.put, List.setIfInBounds_toArray, List.set_cons_zero, List.set_cons_succ]
          refine wpAnyM_take (i := 1) (v := ?_) rfl (by kernel_rfl) (fun _ _ _ h => h) (Or.inl ⟨by rfl, ?_⟩) hSS ?_
          rotate_left 1
          · intro wS hwS
            have y0 := (hwS.2.1).p0; go_simp
            try with_reducible rfl
          simp only [List.getElem_toArray, List.getElem_cons_succ, List.getElem_cons_zero, Act.put, List.setIfInBounds_toArray, List.set_cons_zero, List.set_cons_succ]
          refine wpAnyM_take (i := 2) (v := ?_) rfl (by kernel_rfl) (fun _ _ _ h => h) (Or.inl ⟨by rfl, ?_⟩) hSS ?_
          rotate_left 1
          · intro wS hwS
            go_simp
            try with_reducible rfl
          simp only [List.getElem_toArray, List.getElem_cons_succ, List.getElem_cons_zero, Act.put, List.setIfInBounds_toArray, List.set_cons_zero, List.set_cons_succ]
          refine wpAnyM_one (i := 3) rfl (by kernel_rfl) rfl (fun K hK => ?_)
          go_simp
          refine (RG.out (-2) 2 (by decide) (by decide) (by decide) _ hSS.1).mono ?_
          rintro e wE ⟨⟨kk3, rfl, kk1, kk2⟩, mm, gg⟩
          have m2 : (fun wS => Tm w B tv zs wS ∧ Bx wS B8 #[.int .i64 (-v), .int .i64 u] 32 ∧ Bx wS B7 #[.int .i64 u, .int .i64 v] 32 ∧ Bx wS B2 #[.int .i64 0, .int .i64 0] 32 ∧ Bx wS B3 #[.int .i64 0, .int .i64 0] 32) wE := ⟨mm, (hSS.2.1).grM gg (hSS.1.nt h8.out), (hSS.2.2.1).grM gg (hSS.1.nt h7.out), (hSS.2.2.2.1).grM gg (hSS.1.nt h2.out), (hSS.2.2.2.2).grM gg (hSS.1.nt h3.out)⟩
          clear mm gg
          refine hK _ _ (fun _ => m2) ?_
          clear hK K hSS
          have hSS := m2
          clear m2
          try simp only [List.getElem_toArray, List.getElem_cons_succ, List.getElem_cons_zero, Act.put, List.setIfInBounds_toArray, List.set_cons_zero, List.set_cons_succ]
          refine wpAnyM_take (i := 4) (v := ?_) rfl (by kernel_rfl) (fun _ _ _ h => h) (Or.inl ⟨by rfl, ?_⟩) hSS ?_
          rotate_left 1
          · intro wS hwS
            have ew := EW.out kk3 kk1 kk2; go_simp
            try with_reducible rfl
          simp only [List.getElem_toArray, List.getElem_cons_succ, List.getElem_cons_zero, Act.put, List.setIfInBounds_toArray, List.set_cons_zero, List.set_cons_succ]
          refine wpAnyM_take (i := 5) (v := ?_) rfl (by kernel_rfl) (fun _ _ _ h => h) (Or.inl ⟨by rfl, ?_⟩) hSS ?_
          rotate_left 1
          · intro wS hwS
            go_simp
            try with_reducible rfl
          simp only [List.getElem_toArray, List.getElem_cons_succ, List.getElem_cons_zero, Act.put, List.setIfInBounds_toArray, List.set_cons_zero, List.set_cons_succ]
          refine wpAnyM_one (i := 6) rfl (by kernel_rfl) rfl (fun K hK => ?_)
          have z0 := (hSS.2.1).p0
          have y0 := (hSS.2.1).free 0
          go_simp
          have MM2 := Lib.hid (hSS.1.set h8.out 0 (.int .i64 ((-v) + kk3)))
          have X82 := Lib.hid ((hSS.2.1).set 0 (.int .i64 ((-v) + kk3)))
          have X72 := Lib.hid ((hSS.2.2.1).other (a := ⟨B8, 0, none⟩) (by first | exact (n7_8).out | exact (m8_7).out) (.int .i64 ((-v) + kk3)))
          have X22 := Lib.hid ((hSS.2.2.2.1).other (a := ⟨B8, 0, none⟩) (by first | exact (n2_8).out | exact (m8_2).out) (.int .i64 ((-v) + kk3)))
          have X32 := Lib.hid ((hSS.2.2.2.2).other (a := ⟨B8, 0, none⟩) (by first | exact (n3_8).out | exact (m8_3).out) (.int .i64 ((-v) + kk3)))
          refine hK _ _ (fun h => absurd h (by decide)) ?_
          clear hK K hSS z0 y0
          try simp only [List.getElem_toArray, List.getElem_cons_succ, List.getElem_cons_zero, Act.put, List.setIfInBounds_toArray, List.set_cons_zero, List.set_cons_succ]
          refine wpAnyM_done (by kernel_rfl) ?_ _
          clear MM X8 X7 X2 X3
          generalize World.setCell wE ⟨B8, 0, none⟩ (.int .i64 ((-v) + kk3)) = wF at *
          have MM := MM2
          have X8 : Hid (Bx wF B8 #[.int .i64 ((-v) + kk3), .int .i64 u] 32) := X82
          have X7 := X72
          have X2 := X22
          have X3 := X32
          clear MM2 X82 X72 X22 X32
          go_upto_region 17 with fail
          have ft := fun w' => arFit u v ((-v) + kk3) u false (by omega) (by omega) (by omega) (by omega) (by omega) (by omega) (by omega) (by omega) w'
          have AG := Lib.hid (agr_of u v ((-v) + kk3) u false)
          generalize ok : (Ac.fit (Ac.inn u v u v) (Ac.inn ((-v) + kk3) u ((-v) + kk3) u) && Ac.agr false u v ((-v) + kk3) u) = okk at *
          have FT := Lib.hid ft
          have OK := Lib.hid ok
          clear ft ok
          try simp only [List.getElem_toArray, List.getElem_cons_succ, List.getElem_cons_zero, Act.put, List.setIfInBounds_toArray, List.set_cons_zero, List.set_cons_succ]
          refine wp_region_M (fun wS => Tm w B tv zs wS ∧ Bx wS B7 #[.int .i64 u, .int .i64 v] 32 ∧ Bx wS B8 #[.int .i64 ((-v) + kk3), .int .i64 u] 32) 10 (by kernel_rfl) ?_
          have hSS : (fun wS => Tm w B tv zs wS ∧ Bx wS B7 #[.int .i64 u, .int .i64 v] 32 ∧ Bx wS B8 #[.int .i64 ((-v) + kk3), .int .i64 u] 32) (World.drew _) := ⟨MM.out.new (qw_drew1 _), X7.out.kept (qw_drew1 _), X8.out.kept (qw_drew1 _)⟩
          replace X2 := Lib.hid (X2.out.kept (qw_drew1 _))
          replace X3 := Lib.hid (X3.out.kept (qw_drew1 _))
          refine wpM_named (S' := fun wS => (fun wS => Tm w B tv zs wS ∧ Bx wS B7 #[.int .i64 u, .int .i64 v] 32 ∧ Bx wS B8 #[.int .i64 ((-v) + kk3), .int .i64 u] 32) wS ∧ Bx wS B2 #[.int .i64 0, .int .i64 0] 32 ∧ Bx wS B3 #[.int .i64 0, .int .i64 0] 32) ⟨hSS, X2.out, X3.out⟩ ?_
          clear X2 X3 hSS MM X7 X8
          rintro wd ⟨hSS, x2, x3⟩
          have X2 := Lib.hid x2
          have X3 := Lib.hid x3
          clear x2 x3
          refine wpAnyM_take (i := 0) (v := ?_) rfl (by kernel_rfl) (fun _ _ _ h => h) (Or.inl ⟨by rfl, ?_⟩) hSS ?_
          rotate_left 1
          · intro wS hwS
            have y0 := hwS.2.1.p0; have y1 := hwS.2.1.p1; go_simp
            try with_reducible rfl
          simp only [List.getElem_toArray, List.getElem_cons_succ, List.getElem_cons_zero, Act.put, List.setIfInBounds_toArray, List.set_cons_zero, List.set_cons_succ]
          refine wpAnyM_take (i := 2) (v := ?_) rfl (by kernel_rfl) (fun _ _ _ h => h) (Or.inl ⟨by rfl, ?_⟩) hSS ?_
          rotate_left 1
          · intro wS hwS
            go_simp
            try with_reducible rfl
          simp only [List.getElem_toArray, List.getElem_cons_succ, List.getElem_cons_zero, Act.put, List.setIfInBounds_toArray, List.set_cons_zero, List.set_cons_succ]
          refine wpAnyM_takeT (i := 3) (v := ?_) [6, 7, 8, 9, 10] [] rfl (by kernel_rfl) (fun _ _ _ h => h) (Or.inl ⟨by rfl, ?_⟩) hSS ?_
          rotate_left 1
          · intro wS hwS
            have y0 := hwS.2.1.p0; have y1 := hwS.2.1.p1; go_simp
            try with_reducible rfl
          simp only [List.getElem_toArray, List.getElem_cons_succ, List.getElem_cons_zero, Act.put, List.setIfInBounds_toArray, List.set_cons_zero, List.set_cons_succ]
          refine wpAnyM_takeT (i := 4) (v := ?_) [6, 7, 8, 9, 10] [] rfl (by kernel_rfl) (fun _ _ _ h => h) (Or.inl ⟨by rfl, ?_⟩) hSS ?_
          rotate_left 1
          · intro wS hwS
            have y0 := hwS.2.2.p0; have y1 := hwS.2.2.p1; go_simp
            try with_reducible rfl
          simp only [List.getElem_toArray, List.getElem_cons_succ, List.getElem_cons_zero, Act.put, List.setIfInBounds_toArray, List.set_cons_zero, List.set_cons_succ]
          refine wpAnyM_take (i := 5) (v := ?_) rfl (by kernel_rfl) (fun _ _ _ h => h) (Or.inl ⟨by rfl, ?_⟩) hSS ?_
          rotate_left 1
          · intro wS hwS
            go_simp
            try with_reducible rfl
          simp only [List.getElem_toArray, List.getElem_cons_succ, List.getElem_cons_zero, Act.put, List.setIfInBounds_toArray, List.set_cons_zero, List.set_cons_succ]
          refine wpAnyM_two (i := 1) (j := 6) rfl rfl (by kernel_rfl) rfl rfl (fun K hK => ?_) (fun K hK => ?_)
          · have z0 := hSS.2.2.p0
            have z1 := hSS.2.2.p1
            go_simp
            refine hK _ _ (fun _ => hSS) ?_
            clear hK K z0 z1
            try simp only [List.getElem_toArray, List.getElem_cons_succ, List.getElem_cons_zero, Act.put, List.setIfInBounds_toArray, List.set_cons_zero, List.set_cons_succ]
            refine wpAnyM_one (i := 6) rfl (by kernel_rfl) rfl (fun K hK => ?_)
            go_simp
            refine (FT.out _).mono ?_
            rintro e wE ⟨rfl, qq⟩
            have m2 : (fun wS => Tm w B tv zs wS ∧ Bx wS B7 #[.int .i64 u, .int .i64 v] 32 ∧ Bx wS B8 #[.int .i64 ((-v) + kk3), .int .i64 u] 32) wE := ⟨hSS.1.new qq, hSS.2.1.kept qq, hSS.2.2.kept qq⟩
            replace X2 := Lib.hid (X2.out.kept qq)
            replace X3 := Lib.hid (X3.out.kept qq)
            refine hK _ _ (fun _ => m2) ?_
            clear hK K hSS qq
            have hSS := m2
            clear m2
            try simp only [List.getElem_toArray, List.getElem_cons_succ, List.getElem_cons_zero, Act.put, List.setIfInBounds_toArray, List.set_cons_zero, List.set_cons_succ]
            refine wpAnyM_one (i := 7) rfl (by kernel_rfl) rfl (fun K hK => ?_)
            have z0 := X2.out.p0
            have z1 := X2.out.p1
            have y0 := X2.out.free 0
            have y1 := X2.out.free 1
            go_simp
            have hZ := X2.out.st2 (.int .i64 u) (.int .i64 v)
            have m2 := And.intro ((hSS.1.set h2.out 0 (.int .i64 u)).set h2.out 1 (.int .i64 v)) (And.intro (hSS.2.1.otA2 n7_2.out (.int .i64 u) (.int .i64 v)) (hSS.2.2.otA2 n8_2.out (.int .i64 u) (.int .i64 v)))
            replace X3 := Lib.hid (X3.out.otA2 n3_2.out (.int .i64 u) (.int .i64 v))
            replace X2 := Lib.hid hZ
            refine hK _ _ (fun _ => m2) ?_
            clear hK K hSS hZ z0 z1 y0 y1
            have hSS := m2
            clear m2
            try simp only [List.getElem_toArray, List.getElem_cons_succ, List.getElem_cons_zero, Act.put, List.setIfInBounds_toArray, List.set_cons_zero, List.set_cons_succ]
            refine wpAnyM_one (i := 8) rfl (by kernel_rfl) rfl (fun K hK => ?_)
            have z0 := X3.out.p0
            have z1 := X3.out.p1
            have y0 := X3.out.free 0
            have y1 := X3.out.free 1
            go_simp
            have hZ := X3.out.st2 (.int .i64 ((-v) + kk3)) (.int .i64 u)
            have m2 := And.intro ((hSS.1.set h3.out 0 (.int .i64 ((-v) + kk3))).set h3.out 1 (.int .i64 u)) (And.intro (hSS.2.1.otA2 n7_3.out (.int .i64 ((-v) + kk3)) (.int .i64 u)) (hSS.2.2.otA2 n8_3.out (.int .i64 ((-v) + kk3)) (.int .i64 u)))
            replace X2 := Lib.hid (X2.out.otA2 m3_2.out (.int .i64 ((-v) + kk3)) (.int .i64 u))
            replace X3 := Lib.hid hZ
            refine hK _ _ (fun _ => m2) ?_
            clear hK K hSS hZ z0 z1 y0 y1
            have hSS := m2
            clear m2
            try simp only [List.getElem_toArray, List.getElem_cons_succ, List.getElem_cons_zero, Act.put, List.setIfInBounds_toArray, List.set_cons_zero, List.set_cons_succ]
            refine wpAnyM_one (i := 9) rfl (by kernel_rfl) rfl (fun K hK => ?_)
            go_simp
            refine hK _ _ (fun _ => hSS) ?_
            clear hK K
            try simp only [List.getElem_toArray, List.getElem_cons_succ, List.getElem_cons_zero, Act.put, List.setIfInBounds_toArray, List.set_cons_zero, List.set_cons_succ]
            refine wpAnyM_one (i := 10) rfl (by kernel_rfl) rfl (fun K hK => ?_)
            go_simp
            refine hK _ _ (fun h => absurd h (by decide)) ?_
            clear hK K
            try simp only [List.getElem_toArray, List.getElem_cons_succ, List.getElem_cons_zero, Act.put, List.setIfInBounds_toArray, List.set_cons_zero, List.set_cons_succ]
            refine wpAnyM_done (by kernel_rfl) ?_ _
            go_wp2
            have c2_0 := X2.out.p0
            have c2_1 := X2.out.p1
            have c3_0 := X3.out.p0
            have c3_1 := X3.out.p1
            exact bodyPost_ret (v := .tuple #[.agg #[.int .i64 u, .int .i64 v], .agg #[.int .i64 ((-v) + kk3), .int .i64 u], .bool false, .bool okk]) (by simp [results, Try.results67, go_sem, c2_0, c2_1, c3_0, c3_1]) rfl (by show SpkR w0 w B tv zs _ _; unfold SpkR; exact ⟨⟨u, v, ((-v) + kk3), u, false, okk, rfl, by omega, by omega, by omega, by omega, fun hk => AG.out hk⟩, ⟨hSS.1.t, HM.out.g.trans hSS.1.g, HM.out.b⟩, hSS.1.g⟩)
          · go_simp
            refine (FT.out _).mono ?_
            rintro e wE ⟨rfl, qq⟩
            have m2 : (fun wS => Tm w B tv zs wS ∧ Bx wS B7 #[.int .i64 u, .int .i64 v] 32 ∧ Bx wS B8 #[.int .i64 ((-v) + kk3), .int .i64 u] 32) wE := ⟨hSS.1.new qq, hSS.2.1.kept qq, hSS.2.2.kept qq⟩
            replace X2 := Lib.hid (X2.out.kept qq)
            replace X3 := Lib.hid (X3.out.kept qq)
            refine hK _ _ (fun _ => m2) ?_
            clear hK K hSS qq
            have hSS := m2
            clear m2
            try simp only [List.getElem_toArray, List.getElem_cons_succ, List.getElem_cons_zero, Act.put, List.setIfInBounds_toArray, List.set_cons_zero, List.set_cons_succ]
            refine wpAnyM_two (i := 1) (j := 7) rfl rfl (by kernel_rfl) rfl rfl (fun K hK => ?_) (fun K hK => ?_)
            · have z0 := hSS.2.2.p0
              have z1 := hSS.2.2.p1
              go_simp
              refine hK _ _ (fun _ => hSS) ?_
              clear hK K z0 z1
              try simp only [List.getElem_toArray, List.getElem_cons_succ, List.getElem_cons_zero, Act.put, List.setIfInBounds_toArray, List.set_cons_zero, List.set_cons_succ]
              refine wpAnyM_one (i := 7) rfl (by kernel_rfl) rfl (fun K hK => ?_)
              have z0 := X2.out.p0
              have z1 := X2.out.p1
              have y0 := X2.out.free 0
              have y1 := X2.out.free 1
              go_simp
              have hZ := X2.out.st2 (.int .i64 u) (.int .i64 v)
              have m2 := And.intro ((hSS.1.set h2.out 0 (.int .i64 u)).set h2.out 1 (.int .i64 v)) (And.intro (hSS.2.1.otA2 n7_2.out (.int .i64 u) (.int .i64 v)) (hSS.2.2.otA2 n8_2.out (.int .i64 u) (.int .i64 v)))
              replace X3 := Lib.hid (X3.out.otA2 n3_2.out (.int .i64 u) (.int .i64 v))
              replace X2 := Lib.hid hZ
              refine hK _ _ (fun _ => m2) ?_
              clear hK K hSS hZ z0 z1 y0 y1
              have hSS := m2
              clear m2
              try simp only [List.getElem_toArray, List.getElem_cons_succ, List.getElem_cons_zero, Act.put, List.setIfInBounds_toArray, List.set_cons_zero, List.set_cons_succ]
              refine wpAnyM_one (i := 8) rfl (by kernel_rfl) rfl (fun K hK => ?_)
              have z0 := X3.out.p0
              have z1 := X3.out.p1
              have y0 := X3.out.free 0
              have y1 := X3.out.free 1
              go_simp
              have hZ := X3.out.st2 (.int .i64 ((-v) + kk3)) (.int .i64 u)
              have m2 := And.intro ((hSS.1.set h3.out 0 (.int .i64 ((-v) + kk3))).set h3.out 1 (.int .i64 u)) (And.intro (hSS.2.1.otA2 n7_3.out (.int .i64 ((-v) + kk3)) (.int .i64 u)) (hSS.2.2.otA2 n8_3.out (.int .i64 ((-v) + kk3)) (.int .i64 u)))
              replace X2 := Lib.hid (X2.out.otA2 m3_2.out (.int .i64 ((-v) + kk3)) (.int .i64 u))
              replace X3 := Lib.hid hZ
              refine hK _ _ (fun _ => m2) ?_
              clear hK K hSS hZ z0 z1 y0 y1
              have hSS := m2
              clear m2
              try simp only [List.getElem_toArray, List.getElem_cons_succ, List.getElem_cons_zero, Act.put, List.setIfInBounds_toArray, List.set_cons_zero, List.set_cons_succ]
              refine wpAnyM_one (i := 9) rfl (by kernel_rfl) rfl (fun K hK => ?_)
              go_simp
              refine hK _ _ (fun _ => hSS) ?_
              clear hK K
              try simp only [List.getElem_toArray, List.getElem_cons_succ, List.getElem_cons_zero, Act.put, List.setIfInBounds_toArray, List.set_cons_zero, List.set_cons_succ]
              refine wpAnyM_one (i := 10) rfl (by kernel_rfl) rfl (fun K hK => ?_)
              go_simp
              refine hK _ _ (fun h => absurd h (by decide)) ?_
              clear hK K
              try simp only [List.getElem_toArray, List.getElem_cons_succ, List.getElem_cons_zero, Act.put, List.setIfInBounds_toArray, List.set_cons_zero, List.set_cons_succ]
              refine wpAnyM_done (by kernel_rfl) ?_ _
              go_wp2
              have c2_0 := X2.out.p0
              have c2_1 := X2.out.p1
              have c3_0 := X3.out.p0
              have c3_1 := X3.out.p1
              exact bodyPost_ret (v := .tuple #[.agg #[.int .i64 u, .int .i64 v], .agg #[.int .i64 ((-v) + kk3), .int .i64 u], .bool false, .bool okk]) (by simp [results, Try.results67, go_sem, c2_0, c2_1, c3_0, c3_1]) rfl (by show SpkR w0 w B tv zs _ _; unfold SpkR; exact ⟨⟨u, v, ((-v) + kk3), u, false, okk, rfl, by omega, by omega, by omega, by omega, fun hk => AG.out hk⟩, ⟨hSS.1.t, HM.out.g.trans hSS.1.g, HM.out.b⟩, hSS.1.g⟩)
            · have z0 := X2.out.p0
              have z1 := X2.out.p1
              have y0 := X2.out.free 0
              have y1 := X2.out.free 1
              go_simp
              have hZ := X2.out.st2 (.int .i64 u) (.int .i64 v)
              have m2 := And.intro ((hSS.1.set h2.out 0 (.int .i64 u)).set h2.out 1 (.int .i64 v)) (And.intro (hSS.2.1.otA2 n7_2.out (.int .i64 u) (.int .i64 v)) (hSS.2.2.otA2 n8_2.out (.int .i64 u) (.int .i64 v)))
              replace X3 := Lib.hid (X3.out.otA2 n3_2.out (.int .i64 u) (.int .i64 v))
              replace X2 := Lib.hid hZ
              refine hK _ _ (fun _ => m2) ?_
              clear hK K hSS hZ z0 z1 y0 y1
              have hSS := m2
              clear m2
              try simp only [List.getElem_toArray, List.getElem_cons_succ, List.getElem_cons_zero, Act.put, List.setIfInBounds_toArray, List.set_cons_zero, List.set_cons_succ]
              refine wpAnyM_one (i := 1) rfl (by kernel_rfl) rfl (fun K hK => ?_)
              have z0 := hSS.2.2.p0
              have z1 := hSS.2.2.p1
              go_simp
              refine hK _ _ (fun _ => hSS) ?_
              clear hK K z0 z1
              try simp only [List.getElem_toArray, List.getElem_cons_succ, List.getElem_cons_zero, Act.put, List.setIfInBounds_toArray, List.set_cons_zero, List.set_cons_succ]
              refine wpAnyM_one (i := 8) rfl (by kernel_rfl) rfl (fun K hK => ?_)
              have z0 := X3.out.p0
              have z1 := X3.out.p1
              have y0 := X3.out.free 0
              have y1 := X3.out.free 1
              go_simp
              have hZ := X3.out.st2 (.int .i64 ((-v) + kk3)) (.int .i64 u)
              have m2 := And.intro ((hSS.1.set h3.out 0 (.int .i64 ((-v) + kk3))).set h3.out 1 (.int .i64 u)) (And.intro (hSS.2.1.otA2 n7_3.out (.int .i64 ((-v) + kk3)) (.int .i64 u)) (hSS.2.2.otA2 n8_3.out (.int .i64 ((-v) + kk3)) (.int .i64 u)))
              replace X2 := Lib.hid (X2.out.otA2 m3_2.out (.int .i64 ((-v) + kk3)) (.int .i64 u))
              replace X3 := Lib.hid hZ
              refine hK _ _ (fun _ => m2) ?_
              clear hK K hSS hZ z0 z1 y0 y1
              have hSS := m2
              clear m2
              try simp only [List.getElem_toArray, List.getElem_cons_succ, List.getElem_cons_zero, Act.put, List.setIfInBounds_toArray, List.set_cons_zero, List.set_cons_succ]
              refine wpAnyM_one (i := 9) rfl (by kernel_rfl) rfl (fun K hK => ?_)
              go_simp
              refine hK _ _ (fun _ => hSS) ?_
              clear hK K
              try simp only [List.getElem_toArray, List.getElem_cons_succ, List.getElem_cons_zero, Act.put, List.setIfInBounds_toArray, List.set_cons_zero, List.set_cons_succ]
              refine wpAnyM_one (i := 10) rfl (by kernel_rfl) rfl (fun K hK => ?_)
              go_simp
              refine hK _ _ (fun h => absurd h (by decide)) ?_
              clear hK K
              try simp only [List.getElem_toArray, List.getElem_cons_succ, List.getElem_cons_zero, Act.put, List.setIfInBounds_toArray, List.set_cons_zero, List.set_cons_succ]
              refine wpAnyM_done (by kernel_rfl) ?_ _
              go_wp2
              have c2_0 := X2.out.p0
              have c2_1 := X2.out.p1
              have c3_0 := X3.out.p0
              have c3_1 := X3.out.p1
              exact bodyPost_ret (v := .tuple #[.agg #[.int .i64 u, .int .i64 v], .agg #[.int .i64 ((-v) + kk3), .int .i64 u], .bool false, .bool okk]) (by simp [results, Try.results67, go_sem, c2_0, c2_1, c3_0, c3_1]) rfl (by show SpkR w0 w B tv zs _ _; unfold SpkR; exact ⟨⟨u, v, ((-v) + kk3), u, false, okk, rfl, by omega, by omega, by omega, by omega, fun hk => AG.out hk⟩, ⟨hSS.1.t, HM.out.g.trans hSS.1.g, HM.out.b⟩, hSS.1.g⟩)
        · have z3 : (g3 == 0) = false := beq_eq_false_iff_ne.2 e3
          clear e3 g31 g32
          go_upto_region 17 with fail
          have ft := fun w' => arFit u v (-v) u false (by omega) (by omega) (by omega) (by omega) (by omega) (by omega) (by omega) (by omega) w'
          have AG := Lib.hid (agr_of u v (-v) u false)
          generalize ok : (Ac.fit (Ac.inn u v u v) (Ac.inn (-v) u (-v) u) && Ac.agr false u v (-v) u) = okk at *
          have FT := Lib.hid ft
          have OK := Lib.hid ok
          clear ft ok
          try simp only [List.getElem_toArray, List.getElem_cons_succ, List.getElem_cons_zero, Act.put, List.setIfInBounds_toArray, List.set_cons_zero, List.set_cons_succ]
          refine wp_region_M (fun wS => Tm w B tv zs wS ∧ Bx wS B7 #[.int .i64 u, .int .i64 v] 32 ∧ Bx wS B8 #[.int .i64 (-v), .int .i64 u] 32) 10 (by kernel_rfl) ?_
          have hSS : (fun wS => Tm w B tv zs wS ∧ Bx wS B7 #[.int .i64 u, .int .i64 v] 32 ∧ Bx wS B8 #[.int .i64 (-v), .int .i64 u] 32) (World.drew _) := ⟨MM.out.new (qw_drew1 _), X7.out.kept (qw_drew1 _), X8.out.kept (qw_drew1 _)⟩
          replace X2 := Lib.hid (X2.out.kept (qw_drew1 _))
          replace X3 := Lib.hid (X3.out.kept (qw_drew1 _))
          refine wpM_named (S' := fun wS => (fun wS => Tm w B tv zs wS ∧ Bx wS B7 #[.int .i64 u, .int .i64 v] 32 ∧ Bx wS B8 #[.int .i64 (-v), .int .i64 u] 32) wS ∧ Bx wS B2 #[.int .i64 0, .int .i64 0] 32 ∧ Bx wS B3 #[.int .i64 0, .int .i64 0] 32) ⟨hSS, X2.out, X3.out⟩ ?_
          clear X2 X3 hSS MM X7 X8
          rintro wd ⟨hSS, x2, x3⟩
          have X2 := Lib.hid x2
          have X3 := Lib.hid x3
          clear x2 x3
          refine wpAnyM_take (i := 0) (v := ?_) rfl (by kernel_rfl) (fun _ _ _ h => h) (Or.inl ⟨by rfl, ?_⟩) hSS ?_
          rotate_left 1
          · intro wS hwS
            have y0 := hwS.2.1.p0; have y1 := hwS.2.1.p1; go_simp
            try with_reducible rfl
          simp only [List.getElem_toArray, List.getElem_cons_succ, List.getElem_cons_zero, Act.put, List.setIfInBounds_toArray, List.set_cons_zero, List.set_cons_succ]
          refine wpAnyM_take (i := 2) (v := ?_) rfl (by kernel_rfl) (fun _ _ _ h => h) (Or.inl ⟨by rfl, ?_⟩) hSS ?_
          rotate_left 1
          · intro wS hwS
            go_simp
            try with_reducible rfl
          simp only [List.getElem_toArray, List.getElem_cons_succ, List.getElem_cons_zero, Act.put, List.setIfInBounds_toArray, List.set_cons_zero, List.set_cons_succ]
          refine wpAnyM_takeT (i := 3) (v := ?_) [6, 7, 8, 9, 10] [] rfl (by kernel_rfl) (fun _ _ _ h => h) (Or.inl ⟨by rfl, ?_⟩) hSS ?_
          rotate_left 1
          · intro wS hwS
            have y0 := hwS.2.1.p0; have y1 := hwS.2.1.p1; go_simp
            try with_reducible rfl
          simp only [List.getElem_toArray, List.getElem_cons_succ, List.getElem_cons_zero, Act.put, List.setIfInBounds_toArray, List.set_cons_zero, List.set_cons_succ]
          refine wpAnyM_takeT (i := 4) (v := ?_) [6, 7, 8, 9, 10] [] rfl (by kernel_rfl) (fun _ _ _ h => h) (Or.inl ⟨by rfl, ?_⟩) hSS ?_
          rotate_left 1
          · intro wS hwS
            have y0 := hwS.2.2.p0; have y1 := hwS.2.2.p1; go_simp
            try with_reducible rfl
          simp only [List.getElem_toArray, List.getElem_cons_succ, List.getElem_cons_zero, Act.put, List.setIfInBounds_toArray, List.set_cons_zero, List.set_cons_succ]
          refine wpAnyM_take (i := 5) (v := ?_) rfl (by kernel_rfl) (fun _ _ _ h => h) (Or.inl ⟨by rfl, ?_⟩) hSS ?_
          rotate_left 1
          · intro wS hwS
            go_simp
            try with_reducible rfl
          simp only [List.getElem_toArray, List.getElem_cons_succ, List.getElem_cons_zero, Act.put, List.setIfInBounds_toArray, List.set_cons_zero, List.set_cons_succ]
          refine wpAnyM_two (i := 1) (j := 6) rfl rfl (by kernel_rfl) rfl rfl (fun K hK => ?_) (fun K hK => ?_)
          · have z0 := hSS.2.2.p0
            have z1 := hSS.2.2.p1
            go_simp
            refine hK _ _ (fun _ => hSS) ?_
            clear hK K z0 z1
            try simp only [List.getElem_toArray, List.getElem_cons_succ, List.getElem_cons_zero, Act.put, List.setIfInBounds_toArray, List.set_cons_zero, List.set_cons_succ]
            refine wpAnyM_one (i := 6) rfl (by kernel_rfl) rfl (fun K hK => ?_)
            go_simp
            refine (FT.out _).mono ?_
            rintro e wE ⟨rfl, qq⟩
            have m2 : (fun wS => Tm w B tv zs wS ∧ Bx wS B7 #[.int .i64 u, .int .i64 v] 32 ∧ Bx wS B8 #[.int .i64 (-v), .int .i64 u] 32) wE := ⟨hSS.1.new qq, hSS.2.1.kept qq, hSS.2.2.kept qq⟩
            replace X2 := Lib.hid (X2.out.kept qq)
            replace X3 := Lib.hid (X3.out.kept qq)
            refine hK _ _ (fun _ => m2) ?_
            clear hK K hSS qq
            have hSS := m2
            clear m2
            try simp only [List.getElem_toArray, List.getElem_cons_succ, List.getElem_cons_zero, Act.put, List.setIfInBounds_toArray, List.set_cons_zero, List.set_cons_succ]
            refine wpAnyM_one (i := 7) rfl (by kernel_rfl) rfl (fun K hK => ?_)
            have z0 := X2.out.p0
            have z1 := X2.out.p1
            have y0 := X2.out.free 0
            have y1 := X2.out.free 1
            go_simp
            have hZ := X2.out.st2 (.int .i64 u) (.int .i64 v)
            have m2 := And.intro ((hSS.1.set h2.out 0 (.int .i64 u)).set h2.out 1 (.int .i64 v)) (And.intro (hSS.2.1.otA2 n7_2.out (.int .i64 u) (.int .i64 v)) (hSS.2.2.otA2 n8_2.out (.int .i64 u) (.int .i64 v)))
            replace X3 := Lib.hid (X3.out.otA2 n3_2.out (.int .i64 u) (.int .i64 v))
            replace X2 := Lib.hid hZ
            refine hK _ _ (fun _ => m2) ?_
            clear hK K hSS hZ z0 z1 y0 y1
            have hSS := m2
            clear m2
            try simp only [List.getElem_toArray, List.getElem_cons_succ, List.getElem_cons_zero, Act.put, List.setIfInBounds_toArray, List.set_cons_zero, List.set_cons_succ]
            refine wpAnyM_one (i := 8) rfl (by kernel_rfl) rfl (fun K hK => ?_)
            have z0 := X3.out.p0
            have z1 := X3.out.p1
            have y0 := X3.out.free 0
            have y1 := X3.out.free 1
            go_simp
            have hZ := X3.out.st2 (.int .i64 (-v)) (.int .i64 u)
            have m2 := And.intro ((hSS.1.set h3.out 0 (.int .i64 (-v))).set h3.out 1 (.int .i64 u)) (And.intro (hSS.2.1.otA2 n7_3.out (.int .i64 (-v)) (.int .i64 u)) (hSS.2.2.otA2 n8_3.out (.int .i64 (-v)) (.int .i64 u)))
            replace X2 := Lib.hid (X2.out.otA2 m3_2.out (.int .i64 (-v)) (.int .i64 u))
            replace X3 := Lib.hid hZ
            refine hK _ _ (fun _ => m2) ?_
            clear hK K hSS hZ z0 z1 y0 y1
            have hSS := m2
            clear m2
            try simp only [List.getElem_toArray, List.getElem_cons_succ, List.getElem_cons_zero, Act.put, List.setIfInBounds_toArray, List.set_cons_zero, List.set_cons_succ]
            refine wpAnyM_one (i := 9) rfl (by kernel_rfl) rfl (fun K hK => ?_)
            go_simp
            refine hK _ _ (fun _ => hSS) ?_
            clear hK K
            try simp only [List.getElem_toArray, List.getElem_cons_succ, List.getElem_cons_zero, Act.put, List.setIfInBounds_toArray, List.set_cons_zero, List.set_cons_succ]
            refine wpAnyM_one (i := 10) rfl (by kernel_rfl) rfl (fun K hK => ?_)
            go_simp
            refine hK _ _ (fun h => absurd h (by decide)) ?_
            clear hK K
            try simp only [List.getElem_toArray, List.getElem_cons_succ, List.getElem_cons_zero, Act.put, List.setIfInBounds_toArray, List.set_cons_zero, List.set_cons_succ]
            refine wpAnyM_done (by kernel_rfl) ?_ _
            go_wp2
            have c2_0 := X2.out.p0
            have c2_1 := X2.out.p1
            have c3_0 := X3.out.p0
            have c3_1 := X3.out.p1
            exact bodyPost_ret (v := .tuple #[.agg #[.int .i64 u, .int .i64 v], .agg #[.int .i64 (-v), .int .i64 u], .bool false, .bool okk]) (by simp [results, Try.results67, go_sem, c2_0, c2_1, c3_0, c3_1]) rfl (by show SpkR w0 w B tv zs _ _; unfold SpkR; exact ⟨⟨u, v, (-v), u, false, okk, rfl, by omega, by omega, by omega, by omega, fun hk => AG.out hk⟩, ⟨hSS.1.t, HM.out.g.trans hSS.1.g, HM.out.b⟩, hSS.1.g⟩)
          · go_simp
            refine (FT.out _).mono ?_
            rintro e wE ⟨rfl, qq⟩
            have m2 : (fun wS => Tm w B tv zs wS ∧ Bx wS B7 #[.int .i64 u, .int .i64 v] 32 ∧ Bx wS B8 #[.int .i64 (-v), .int .i64 u] 32) wE := ⟨hSS.1.new qq, hSS.2.1.kept qq, hSS.2.2.kept qq⟩
            replace X2 := Lib.hid (X2.out.kept qq)
            replace X3 := Lib.hid (X3.out.kept qq)
            refine hK _ _ (fun _ => m2) ?_
            clear hK K hSS qq
            have hSS := m2
            clear m2
            try simp only [List.getElem_toArray, List.getElem_cons_succ, List.getElem_cons_zero, Act.put, List.setIfInBounds_toArray, List.set_cons_zero, List.set_cons_succ]
            refine wpAnyM_two (i := 1) (j := 7) rfl rfl (by kernel_rfl) rfl rfl (fun K hK => ?_) (fun K hK => ?_)
            · have z0 := hSS.2.2.p0
              have z1 := hSS.2.2.p1
              go_simp
              refine hK _ _ (fun _ => hSS) ?_
              clear hK K z0 z1
              try simp only [List.getElem_toArray, List.getElem_cons_succ, List.getElem_cons_zero, Act.put, List.setIfInBounds_toArray, List.set_cons_zero, List.set_cons_succ]
              refine wpAnyM_one (i := 7) rfl (by kernel_rfl) rfl (fun K hK => ?_)
              have z0 := X2.out.p0
              have z1 := X2.out.p1
              have y0 := X2.out.free 0
              have y1 := X2.out.free 1
              go_simp
              have hZ := X2.out.st2 (.int .i64 u) (.int .i64 v)
              have m2 := And.intro ((hSS.1.set h2.out 0 (.int .i64 u)).set h2.out 1 (.int .i64 v)) (And.intro (hSS.2.1.otA2 n7_2.out (.int .i64 u) (.int .i64 v)) (hSS.2.2.otA2 n8_2.out (.int .i64 u) (.int .i64 v)))
              replace X3 := Lib.hid (X3.out.otA2 n3_2.out (.int .i64 u) (.int .i64 v))
              replace X2 := Lib.hid hZ
              refine hK _ _ (fun _ => m2) ?_
              clear hK K hSS hZ z0 z1 y0 y1
              have hSS := m2
              clear m2
              try simp only [List.getElem_toArray, List.getElem_cons_succ, List.getElem_cons_zero, Act.put, List.setIfInBounds_toArray, List.set_cons_zero, List.set_cons_succ]
              refine wpAnyM_one (i := 8) rfl (by kernel_rfl) rfl (fun K hK => ?_)
              have z0 := X3.out.p0
              have z1 := X3.out.p1
              have y0 := X3.out.free 0
              have y1 := X3.out.free 1
              go_simp
              have hZ := X3.out.st2 (.int .i64 (-v)) (.int .i64 u)
              have m2 := And.intro ((hSS.1.set h3.out 0 (.int .i64 (-v))).set h3.out 1 (.int .i64 u)) (And.intro (hSS.2.1.otA2 n7_3.out (.int .i64 (-v)) (.int .i64 u)) (hSS.2.2.otA2 n8_3.out (.int .i64 (-v)) (.int .i64 u)))
              replace X2 := Lib.hid (X2.out.otA2 m3_2.out (.int .i64 (-v)) (.int .i64 u))
              replace X3 := Lib.hid hZ
              refine hK _ _ (fun _ => m2) ?_
              clear hK K hSS hZ z0 z1 y0 y1
              have hSS := m2
              clear m2
              try simp only [List.getElem_toArray, List.getElem_cons_succ, List.getElem_cons_zero, Act.put, List.setIfInBounds_toArray, List.set_cons_zero, List.set_cons_succ]
              refine wpAnyM_one (i := 9) rfl (by kernel_rfl) rfl (fun K hK => ?_)
              go_simp
              refine hK _ _ (fun _ => hSS) ?_
              clear hK K
              try simp only [List.getElem_toArray, List.getElem_cons_succ, List.getElem_cons_zero, Act.put, List.setIfInBounds_toArray, List.set_cons_zero, List.set_cons_succ]
              refine wpAnyM_one (i := 10) rfl (by kernel_rfl) rfl (fun K hK => ?_)
              go_simp
              refine hK _ _ (fun h => absurd h (by decide)) ?_
              clear hK K
              try simp only [List.getElem_toArray, List.getElem_cons_succ, List.getElem_cons_zero, Act.put, List.setIfInBounds_toArray, List.set_cons_zero, List.set_cons_succ]
              refine wpAnyM_done (by kernel_rfl) ?_ _
              go_wp2
              have c2_0 := X2.out.p0
              have c2_1 := X2.out.p1
              have c3_0 := X3.out.p0
              have c3_1 := X3.out.p1
              exact bodyPost_ret (v := .tuple #[.agg #[.int .i64 u, .int .i64 v], .agg #[.int .i64 (-v), .int .i64 u], .bool false, .bool okk]) (by simp [results, Try.results67, go_sem, c2_0, c2_1, c3_0, c3_1]) rfl (by show SpkR w0 w B tv zs _ _; unfold SpkR; exact ⟨⟨u, v, (-v), u, false, okk, rfl, by omega, by omega, by omega, by omega, fun hk => AG.out hk⟩, ⟨hSS.1.t, HM.out.g.trans hSS.1.g, HM.out.b⟩, hSS.1.g⟩)
            · have z0 := X2.out.p0
              have z1 := X2.out.p1
              have y0 := X2.out.free 0
              have y1 := X2.out.free 1
              go_simp
              have hZ := X2.out.st2 (.int .i64 u) (.int .i64 v)
              have m2 := And.intro ((hSS.1.set h2.out 0 (.int .i64 u)).set h2.out 1 (.int .i64 v)) (And.intro (hSS.2.1.otA2 n7_2.out (.int .i64 u) (.int .i64 v)) (hSS.2.2.otA2 n8_2.out (.int .i64 u) (.int .i64 v)))
              replace X3 := Lib.hid (X3.out.otA2 n3_2.out (.int .i64 u) (.int .i64 v))
              replace X2 := Lib.hid hZ
              refine hK _ _ (fun _ => m2) ?_
              clear hK K hSS hZ z0 z1 y0 y1
              have hSS := m2
              clear m2
              try simp only [List.getElem_toArray, List.getElem_cons_succ, List.getElem_cons_zero, Act.put, List.setIfInBounds_toArray, List.set_cons_zero, List.set_cons_succ]
              refine wpAnyM_one (i := 1) rfl (by kernel_rfl) rfl (fun K hK => ?_)
              have z0 := hSS.2.2.p0
              have z1 := hSS.2.2.p1
              go_simp
              refine hK _ _ (fun _ => hSS) ?_
              clear hK K z0 z1
              try simp only [List.getElem_toArray, List.getElem_cons_succ, List.getElem_cons_zero, Act.put, List.setIfInBounds_toArray, List.set_cons_zero, List.set_cons_succ]
              refine wpAnyM_one (i := 8) rfl (by kernel_rfl) rfl (fun K hK => ?_)
              have z0 := X3.out.p0
              have z1 := X3.out.p1
              have y0 := X3.out.free 0
              have y1 := X3.out.free 1
              go_simp
              have hZ := X3.out.st2 (.int .i64 (-v)) (.int .i64 u)
              have m2 := And.intro ((hSS.1.set h3.out 0 (.int .i64 (-v))).set h3.out 1 (.int .i64 u)) (And.intro (hSS.2.1.otA2 n7_3.out (.int .i64 (-v)) (.int .i64 u)) (hSS.2.2.otA2 n8_3.out (.int .i64 (-v)) (.int .i64 u)))
              replace X2 := Lib.hid (X2.out.otA2 m3_2.out (.int .i64 (-v)) (.int .i64 u))
              replace X3 := Lib.hid hZ
              refine hK _ _ (fun _ => m2) ?_
              clear hK K hSS hZ z0 z1 y0 y1
              have hSS := m2
              clear m2
              try simp only [List.getElem_toArray, List.getElem_cons_succ, List.getElem_cons_zero, Act.put, List.setIfInBounds_toArray, List.set_cons_zero, List.set_cons_succ]
              refine wpAnyM_one (i := 9) rfl (by kernel_rfl) rfl (fun K hK => ?_)
              go_simp
              refine hK _ _ (fun _ => hSS) ?_
              clear hK K
              try simp only [List.getElem_toArray, List.getElem_cons_succ, List.getElem_cons_zero, Act.put, List.setIfInBounds_toArray, List.set_cons_zero, List.set_cons_succ]
              refine wpAnyM_one (i := 10) rfl (by kernel_rfl) rfl (fun K hK => ?_)
              go_simp
              refine hK _ _ (fun h => absurd h (by decide)) ?_
              clear hK K
              try simp only [List.getElem_toArray, List.getElem_cons_succ, List.getElem_cons_zero, Act.put, List.setIfInBounds_toArray, List.set_cons_zero, List.set_cons_succ]
              refine wpAnyM_done (by kernel_rfl) ?_ _
              go_wp2
              have c2_0 := X2.out.p0
              have c2_1 := X2.out.p1
              have c3_0 := X3.out.p0
              have c3_1 := X3.out.p1
              exact bodyPost_ret (v := .tuple #[.agg #[.int .i64 u, .int .i64 v], .agg #[.int .i64 (-v), .int .i64 u], .bool false, .bool okk]) (by simp [results, Try.results67, go_sem, c2_0, c2_1, c3_0, c3_1]) rfl (by show SpkR w0 w B tv zs _ _; unfold SpkR; exact ⟨⟨u, v, (-v), u, false, okk, rfl, by omega, by omega, by omega, by omega, fun hk => AG.out hk⟩, ⟨hSS.1.t, HM.out.g.trans hSS.1.g, HM.out.b⟩, hSS.1.g⟩)
    · go_upto_region 9 with fail
      go_upto_region 10 with fail
      have c7_0 := X7.out.p0
      have c7_1 := X7.out.p1
      go_upto_region 13 with (go_big_may; ((with_reducible refine sg_pt (x := ?_) (y := ?_) 8 46 ?_ ?_ X8.out ?_); rotate_left 2; (rfl); (rfl); intro w10 xx ss; replace X2 := Lib.hid (ss.oth m8_2.out X2.out); replace X3 := Lib.hid (ss.oth m8_3.out X3.out); replace X7 := Lib.hid (ss.oth m8_7.out X7.out); replace MM := Lib.hid (ss.tm MM.out h8.out); replace X8 := Lib.hid xx; clear xx ss))
      clear c7_0 c7_1
      by_cases e8 : f8 = 0
      · have z8 : (f8 == 0) = true := by simpa using e8
        clear e8
        go_upto_region 14 with fail
        go_upto_region 17 with (go_big_may; (first | ((with_reducible refine ld_pt 7 ?_ X7.out ?_); (rfl)) | ((with_reducible refine sg_pt (x := ?_) (y := ?_) 8 55 ?_ ?_ X8.out ?_); rotate_left 2; (rfl); (rfl); intro w11 xx ss; replace X2 := Lib.hid (ss.oth m8_2.out X2.out); replace X3 := Lib.hid (ss.oth m8_3.out X3.out); replace X7 := Lib.hid (ss.oth m8_7.out X7.out); replace MM := Lib.hid (ss.tm MM.out h8.out); replace X8 := Lib.hid xx; clear xx ss)))
        have ft := fun w' => arFit u v u v true (by omega) (by omega) (by omega) (by omega) (by omega) (by omega) (by omega) (by omega) w'
        have AG := Lib.hid (agr_of u v u v true)
        generalize ok : (Ac.fit (Ac.inn u v u v) (Ac.inn u v u v) && Ac.agr true u v u v) = okk at *
        have FT := Lib.hid ft
        have OK := Lib.hid ok
        clear ft ok
        try simp only [List.getElem_toArray, List.getElem_cons_succ, List.getElem_cons_zero, Act.put, List.setIfInBounds_toArray, List.set_cons_zero, List.set_cons_succ]
        refine wp_region_M (fun wS => Tm w B tv zs wS ∧ Bx wS B7 #[.int .i64 u, .int .i64 v] 32 ∧ Bx wS B8 #[.int .i64 u, .int .i64 v] 32) 10 (by kernel_rfl) ?_
        have hSS : (fun wS => Tm w B tv zs wS ∧ Bx wS B7 #[.int .i64 u, .int .i64 v] 32 ∧ Bx wS B8 #[.int .i64 u, .int .i64 v] 32) (World.drew _) := ⟨MM.out.new (qw_drew1 _), X7.out.kept (qw_drew1 _), X8.out.kept (qw_drew1 _)⟩
        replace X2 := Lib.hid (X2.out.kept (qw_drew1 _))
        replace X3 := Lib.hid (X3.out.kept (qw_drew1 _))
        refine wpM_named (S' := fun wS => (fun wS => Tm w B tv zs wS ∧ Bx wS B7 #[.int .i64 u, .int .i64 v] 32 ∧ Bx wS B8 #[.int .i64 u, .int .i64 v] 32) wS ∧ Bx wS B2 #[.int .i64 0, .int .i64 0] 32 ∧ Bx wS B3 #[.int .i64 0, .int .i64 0] 32) ⟨hSS, X2.out, X3.out⟩ ?_
        clear X2 X3 hSS MM X7 X8
        rintro wd ⟨hSS, x2, x3⟩
        have X2 := Lib.hid x2
        have X3 := Lib.hid x3
        clear x2 x3
        refine wpAnyM_take (i := 0) (v := ?_) rfl (by kernel_rfl) (fun _ _ _ h => h) (Or.inl ⟨by rfl, ?_⟩) hSS ?_
        rotate_left 1
        · intro wS hwS
          have y0 := hwS.2.1.p0; have y1 := hwS.2.1.p1; go_simp
          try with_reducible rfl
        simp only [List.getElem_toArray, List.getElem_cons_succ, List.getElem_cons_zero, Act.put, List.setIfInBounds_toArray, List.set_cons_zero, List.set_cons_succ]
        refine wpAnyM_take (i := 2) (v := ?_) rfl (by kernel_rfl) (fun _ _ _ h => h) (Or.inl ⟨by rfl, ?_⟩) hSS ?_
        rotate_left 1
        · intro wS hwS
          go_simp
          try with_reducible rfl
        simp only [List.getElem_toArray, List.getElem_cons_succ, List.getElem_cons_zero, Act.put, List.setIfInBounds_toArray, List.set_cons_zero, List.set_cons_succ]
        refine wpAnyM_takeT (i := 3) (v := ?_) [6, 7, 8, 9, 10] [] rfl (by kernel_rfl) (fun _ _ _ h => h) (Or.inl ⟨by rfl, ?_⟩) hSS ?_
        rotate_left 1
        · intro wS hwS
          have y0 := hwS.2.1.p0; have y1 := hwS.2.1.p1; go_simp
          try with_reducible rfl
        simp only [List.getElem_toArray, List.getElem_cons_succ, List.getElem_cons_zero, Act.put, List.setIfInBounds_toArray, List.set_cons_zero, List.set_cons_succ]
        refine wpAnyM_takeT (i := 4) (v := ?_) [6, 7, 8, 9, 10] [] rfl (by kernel_rfl) (fun _ _ _ h => h) (Or.inl ⟨by rfl, ?_⟩) hSS ?_
        rotate_left 1
        · intro wS hwS
          have y0 := hwS.2.2.p0; have y1 := hwS.2.2.p1; go_simp
          try with_reducible rfl
        simp only [List.getElem_toArray, List.getElem_cons_succ, List.getElem_cons_zero, Act.put, List.setIfInBounds_toArray, List.set_cons_zero, List.set_cons_succ]
        refine wpAnyM_take (i := 5) (v := ?_) rfl (by kernel_rfl) (fun _ _ _ h => h) (Or.inl ⟨by rfl, ?_⟩) hSS ?_
        rotate_left 1
        · intro wS hwS
          go_simp
          try with_reducible rfl
        simp only [List.getElem_toArray, List.getElem_cons_succ, List.getElem_cons_zero, Act.put, List.setIfInBounds_toArray, List.set_cons_zero, List.set_cons_succ]
        refine wpAnyM_two (i := 1) (j := 6) rfl rfl (by kernel_rfl) rfl rfl (fun K hK => ?_) (fun K hK => ?_)
        · have z0 := hSS.2.2.p0
          have z1 := hSS.2.2.p1
          go_simp
          refine hK _ _ (fun _ => hSS) ?_
          clear hK K z0 z1
          try simp only [List.getElem_toArray, List.getElem_cons_succ, List.getElem_cons_zero, Act.put, List.setIfInBounds_toArray, List.set_cons_zero, List.set_cons_succ]
          refine wpAnyM_one (i := 6) rfl (by kernel_rfl) rfl (fun K hK => ?_)
          go_simp
          refine (FT.out _).mono ?_
          rintro e wE ⟨rfl, qq⟩
          have m2 : (fun wS => Tm w B tv zs wS ∧ Bx wS B7 #[.int .i64 u, .int .i64 v] 32 ∧ Bx wS B8 #[.int .i64 u, .int .i64 v] 32) wE := ⟨hSS.1.new qq, hSS.2.1.kept qq, hSS.2.2.kept qq⟩
          replace X2 := Lib.hid (X2.out.kept qq)
          replace X3 := Lib.hid (X3.out.kept qq)
          refine hK _ _ (fun _ => m2) ?_
          clear hK K hSS qq
          have hSS := m2
          clear m2
          try simp only [List.getElem_toArray, List.getElem_cons_succ, List.getElem_cons_zero, Act.put, List.setIfInBounds_toArray, List.set_cons_zero, List.set_cons_succ]
          refine wpAnyM_one (i := 7) rfl (by kernel_rfl) rfl (fun K hK => ?_)
          have z0 := X2.out.p0
          have z1 := X2.out.p1
          have y0 := X2.out.free 0
          have y1 := X2.out.free 1
          go_simp
          have hZ := X2.out.st2 (.int .i64 u) (.int .i64 v)
          have m2 := And.intro ((hSS.1.set h2.out 0 (.int .i64 u)).set h2.out 1 (.int .i64 v)) (And.intro (hSS.2.1.otA2 n7_2.out (.int .i64 u) (.int .i64 v)) (hSS.2.2.otA2 n8_2.out (.int .i64 u) (.int .i64 v)))
          replace X3 := Lib.hid (X3.out.otA2 n3_2.out (.int .i64 u) (.int .i64 v))
          replace X2 := Lib.hid hZ
          refine hK _ _ (fun _ => m2) ?_
          clear hK K hSS hZ z0 z1 y0 y1
          have hSS := m2
          clear m2
          try simp only [List.getElem_toArray, List.getElem_cons_succ, List.getElem_cons_zero, Act.put, List.setIfInBounds_toArray, List.set_cons_zero, List.set_cons_succ]
          refine wpAnyM_one (i := 8) rfl (by kernel_rfl) rfl (fun K hK => ?_)
          have z0 := X3.out.p0
          have z1 := X3.out.p1
          have y0 := X3.out.free 0
          have y1 := X3.out.free 1
          go_simp
          have hZ := X3.out.st2 (.int .i64 u) (.int .i64 v)
          have m2 := And.intro ((hSS.1.set h3.out 0 (.int .i64 u)).set h3.out 1 (.int .i64 v)) (And.intro (hSS.2.1.otA2 n7_3.out (.int .i64 u) (.int .i64 v)) (hSS.2.2.otA2 n8_3.out (.int .i64 u) (.int .i64 v)))
          replace X2 := Lib.hid (X2.out.otA2 m3_2.out (.int .i64 u) (.int .i64 v))
          replace X3 := Lib.hid hZ
          refine hK _ _ (fun _ => m2) ?_
          clear hK K hSS hZ z0 z1 y0 y1
          have hSS := m2
          clear m2
          try simp only [List.getElem_toArray, List.getElem_cons_succ, List.getElem_cons_zero, Act.put, List.setIfInBounds_toArray, List.set_cons_zero, List.set_cons_succ]
          refine wpAnyM_one (i := 9) rfl (by kernel_rfl) rfl (fun K hK => ?_)
          go_simp
          refine hK _ _ (fun _ => hSS) ?_
          clear hK K
          try simp only [List.getElem_toArray, List.getElem_cons_succ, List.getElem_cons_zero, Act.put, List.setIfInBounds_toArray, List.set_cons_zero, List.set_cons_succ]
          refine wpAnyM_one (i := 10) rfl (by kernel_rfl) rfl (fun K hK => ?_)
          go_simp
          refine hK _ _ (fun h => absurd h (by decide)) ?_
          clear hK K
          try simp only [List.getElem_toArray, List.getElem_cons_succ, List.getElem_cons_zero, Act.put, List.setIfInBounds_toArray, List.set_cons_zero, List.set_cons_succ]
          refine wpAnyM_done (by kernel_rfl) ?_ _
          go_wp2
          have c2_0 := X2.out.p0
          have c2_1 := X2.out.p1
          have c3_0 := X3.out.p0
          have c3_1 := X3.out.p1
          exact bodyPost_ret (v := .tuple #[.agg #[.int .i64 u, .int .i64 v], .agg #[.int .i64 u, .int .i64 v], .bool true, .bool okk]) (by simp [results, Try.results67, go_sem, c2_0, c2_1, c3_0, c3_1]) rfl (by show SpkR w0 w B tv zs _ _; unfold SpkR; exact ⟨⟨u, v, u, v, true, okk, rfl, by omega, by omega, by omega, by omega, fun hk => AG.out hk⟩, ⟨hSS.1.t, HM.out.g.trans hSS.1.g, HM.out.b⟩, hSS.1.g⟩)
        · go_simp
          refine (FT.out _).mono ?_
          rintro e wE ⟨rfl, qq⟩
          have m2 : (fun wS => Tm w B tv zs wS ∧ Bx wS B7 #[.int .i64 u, .int .i64 v] 32 ∧ Bx wS B8 #[.int .i64 u, .int .i64 v] 32) wE := ⟨hSS.1.new qq, hSS.2.1.kept qq, hSS.2.2.kept qq⟩
          replace X2 := Lib.hid (X2.out.kept qq)
          replace X3 := Lib.hid (X3.out.kept qq)
          refine hK _ _ (fun _ => m2) ?_
          clear hK K hSS qq
          have hSS := m2
          clear m2
          try simp only [List.getElem_toArray, List.getElem_cons_succ, List.getElem_cons_zero, Act.put, List.setIfInBounds_toArray, List.set_cons_zero, List.set_cons_succ]
          refine wpAnyM_two (i := 1) (j := 7) rfl rfl (by kernel_rfl) rfl rfl (fun K hK => ?_) (fun K hK => ?_)
          · have z0 := hSS.2.2.p0
            have z1 := hSS.2.2.p1
            go_simp
            refine hK _ _ (fun _ => hSS) ?_
            clear hK K z0 z1
            try simp only [List.getElem_toArray, List.getElem_cons_succ, List.getElem_cons_zero, Act.put, List.setIfInBounds_toArray, List.set_cons_zero, List.set_cons_succ]
            refine wpAnyM_one (i := 7) rfl (by kernel_rfl) rfl (fun K hK => ?_)
            have z0 := X2.out.p0
            have z1 := X2.out.p1
            have y0 := X2.out.free 0
            have y1 := X2.out.free 1
            go_simp
            have hZ := X2.out.st2 (.int .i64 u) (.int .i64 v)
            have m2 := And.intro ((hSS.1.set h2.out 0 (.int .i64 u)).set h2.out 1 (.int .i64 v)) (And.intro (hSS.2.1.otA2 n7_2.out (.int .i64 u) (.int .i64 v)) (hSS.2.2.otA2 n8_2.out (.int .i64 u) (.int .i64 v)))
            replace X3 := Lib.hid (X3.out.otA2 n3_2.out (.int .i64 u) (.int .i64 v))
            replace X2 := Lib.hid hZ
            refine hK _ _ (fun _ => m2) ?_
            clear hK K hSS hZ z0 z1 y0 y1
            have hSS := m2
            clear m2
            try simp only [List.getElem_toArray, List.getElem_cons_succ, List.getElem_cons_zero, Act.put, List.setIfInBounds_toArray, List.set_cons_zero, List.set_cons_succ]
            refine wpAnyM_one (i := 8) rfl (by kernel_rfl) rfl (fun K hK => ?_)
            have z0 := X3.out.p0
            have z1 := X3.out.p1
            have y0 := X3.out.free 0
            have y1 := X3.out.free 1
            go_simp
            have hZ := X3.out.st2 (.int .i64 u) (.int .i64 v)
            have m2 := And.intro ((hSS.1.set h3.out 0 (.int .i64 u)).set h3.out 1 (.int .i64 v)) (And.intro (hSS.2.1.otA2 n7_3.out (.int .i64 u) (.int .i64 v)) (hSS.2.2.otA2 n8_3.out (.int .i64 u) (.int .i64 v)))
            replace X2 := Lib.hid (X2.out.otA2 m3_2.out (.int .i64 u) (.int .i64 v))
            replace X3 := Lib.hid hZ
            refine hK _ _ (fun _ => m2) ?_
            clear hK K hSS hZ z0 z1 y0 y1
            have hSS := m2
            clear m2
            try simp only [List.getElem_toArray, List.getElem_cons_succ, List.getElem_cons_zero, Act.put, List.setIfInBounds_toArray, List.set_cons_zero, List.set_cons_succ]
            refine wpAnyM_one (i := 9) rfl (by kernel_rfl) rfl (fun K hK => ?_)
            go_simp
            refine hK _ _ (fun _ => hSS) ?_
            clear hK K
            try simp only [List.getElem_toArray, List.getElem_cons_succ, List.getElem_cons_zero, Act.put, List.setIfInBounds_toArray, List.set_cons_zero, List.set_cons_succ]
            refine wpAnyM_one (i := 10) rfl (by kernel_rfl) rfl (fun K hK => ?_)
            go_simp
            refine hK _ _ (fun h => absurd h (by decide)) ?_
            clear hK K
            try simp only [List.getElem_toArray, List.getElem_cons_succ, List.getElem_cons_zero, Act.put, List.setIfInBounds_toArray, List.set_cons_zero, List.set_cons_succ]
            refine wpAnyM_done (by kernel_rfl) ?_ _
            go_wp2
            have c2_0 := X2.out.p0
            have c2_1 := X2.out.p1
            have c3_0 := X3.out.p0
            have c3_1 := X3.out.p1
            exact bodyPost_ret (v := .tuple #[.agg #[.int .i64 u, .int .i64 v], .agg #[.int .i64 u, .int .i64 v], .bool true, .bool okk]) (by simp [results, Try.results67, go_sem, c2_0, c2_1, c3_0, c3_1]) rfl (by show SpkR w0 w B tv zs _ _; unfold SpkR; exact ⟨⟨u, v, u, v, true, okk, rfl, by omega, by omega, by omega, by omega, fun hk => AG.out hk⟩, ⟨hSS.1.t, HM.out.g.trans hSS.1.g, HM.out.b⟩, hSS.1.g⟩)
          · have z0 := X2.out.p0
            have z1 := X2.out.p1
            have y0 := X2.out.free 0
            have y1 := X2.out.free 1
            go_simp
            have hZ := X2.out.st2 (.int .i64 u) (.int .i64 v)
            have m2 := And.intro ((hSS.1.set h2.out 0 (.int .i64 u)).set h2.out 1 (.int .i64 v)) (And.intro (hSS.2.1.otA2 n7_2.out (.int .i64 u) (.int .i64 v)) (hSS.2.2.otA2 n8_2.out (.int .i64 u) (.int .i64 v)))
            replace X3 := Lib.hid (X3.out.otA2 n3_2.out (.int .i64 u) (.int .i64 v))
            replace X2 := Lib.hid hZ
            refine hK _ _ (fun _ => m2) ?_
            clear hK K hSS hZ z0 z1 y0 y1
            have hSS := m2
            clear m2
            try simp only [List.getElem_toArray, List.getElem_cons_succ, List.getElem_cons_zero, Act.put, List.setIfInBounds_toArray, List.set_cons_zero, List.set_cons_succ]
            refine wpAnyM_one (i := 1) rfl (by kernel_rfl) rfl (fun K hK => ?_)
            have z0 := hSS.2.2.p0
            have z1 := hSS.2.2.p1
            go_simp
            refine hK _ _ (fun _ => hSS) ?_
            clear hK K z0 z1
            try simp only [List.getElem_toArray, List.getElem_cons_succ, List.getElem_cons_zero, Act.put, List.setIfInBounds_toArray, List.set_cons_zero, List.set_cons_succ]
            refine wpAnyM_one (i := 8) rfl (by kernel_rfl) rfl (fun K hK => ?_)
            have z0 := X3.out.p0
            have z1 := X3.out.p1
            have y0 := X3.out.free 0
            have y1 := X3.out.free 1
            go_simp
            have hZ := X3.out.st2 (.int .i64 u) (.int .i64 v)
            have m2 := And.intro ((hSS.1.set h3.out 0 (.int .i64 u)).set h3.out 1 (.int .i64 v)) (And.intro (hSS.2.1.otA2 n7_3.out (.int .i64 u) (.int .i64 v)) (hSS.2.2.otA2 n8_3.out (.int .i64 u) (.int .i64 v)))
            replace X2 := Lib.hid (X2.out.otA2 m3_2.out (.int .i64 u) (.int .i64 v))
            replace X3 := Lib.hid hZ
            refine hK _ _ (fun _ => m2) ?_
            clear hK K hSS hZ z0 z1 y0 y1
            have hSS := m2
            clear m2
            try simp only [List.getElem_toArray, List.getElem_cons_succ, List.getElem_cons_zero, Act.put, List.setIfInBounds_toArray, List.set_cons_zero, List.set_cons_succ]
            refine wpAnyM_one (i := 9) rfl (by kernel_rfl) rfl (fun K hK => ?_)
            go_simp
            refine hK _ _ (fun _ => hSS) ?_
            clear hK K
            try simp only [List.getElem_toArray, List.getElem_cons_succ, List.getElem_cons_zero, Act.put, List.setIfInBounds_toArray, List.set_cons_zero, List.set_cons_succ]
            refine wpAnyM_one (i := 10) rfl (by kernel_rfl) rfl (fun K hK => ?_)
            go_simp
            refine hK _ _ (fun h => absurd h (by decide)) ?_
            clear hK K
            try simp only [List.getElem_toArray, List.getElem_cons_succ, List.getElem_cons_zero, Act.put, List.setIfInBounds_toArray, List.set_cons_zero, List.set_cons_succ]
            refine wpAnyM_done (by kernel_rfl) ?_ _
            go_wp2
            have c2_0 := X2.out.p0
            have c2_1 := X2.out.p1
            have c3_0 := X3.out.p0
            have c3_1 := X3.out.p1
            exact bodyPost_ret (v := .tuple #[.agg #[.int .i64 u, .int .i64 v], .agg #[.int .i64 u, .int .i64 v], .bool true, .bool okk]) (by simp [results, Try.results67, go_sem, c2_0, c2_1, c3_0, c3_1]) rfl (by show SpkR w0 w B tv zs _ _; unfold SpkR; exact ⟨⟨u, v, u, v, true, okk, rfl, by omega, by omega, by omega, by omega, fun hk => AG.out hk⟩, ⟨hSS.1.t, HM.out.g.trans hSS.1.g, HM.out.b⟩, hSS.1.g⟩)
      · have z8 : (f8 == 0) = false := beq_eq_false_iff_ne.2 e8
        clear e8
        go_upto_region 15 with fail
        go_upto_if 58 with (go_at_call 69; ((with_reducible refine (NX.out 3 (by decide) (by decide) _ MM.out).mono ?_); rintro e w8 ⟨⟨g3, rfl, g31, g32⟩, mm, gg⟩; replace X2 := Lib.hid (X2.out.grM gg (MM.out.nt h2.out)); replace X3 := Lib.hid (X3.out.grM gg (MM.out.nt h3.out)); replace X7 := Lib.hid (X7.out.grM gg (MM.out.nt h7.out)); replace X8 := Lib.hid (X8.out.grM gg (MM.out.nt h8.out)); replace MM := Lib.hid mm; clear mm gg))
        by_cases e3 : g3 = 0
        · have z3 : (g3 == 0) = true := by simpa using e3
          clear e3 g31 g32
          go_upto_region 16 with fail
          have EW := Lib.hid (fun n (h1 : -2 ≤ n) (h2 : n ≤ 2) => IntWalk.i64_in ((-u) + n) (by omega))
          try simp only [List.getElem_toArray, List.getElem_cons_succ, List.getElem_cons_zero, Act.put, List.setIfInBounds_toArray, List.set_cons_zero, List.set_cons_succ]
          refine wp_region_M (fun wS => Tm w B tv zs wS ∧ Bx wS B8 #[.int .i64 (-u), .int .i64 (-v)] 32 ∧ Bx wS B7 #[.int .i64 u, .int .i64 v] 32 ∧ Bx wS B2 #[.int .i64 0, .int .i64 0] 32 ∧ Bx wS B3 #[.int .i64 0, .int .i64 0] 32) 6 (by kernel_rfl) ?_
          have hSS : (fun wS => Tm w B tv zs wS ∧ Bx wS B8 #[.int .i64 (-u), .int .i64 (-v)] 32 ∧ Bx wS B7 #[.int .i64 u, .int .i64 v] 32 ∧ Bx wS B2 #[.int .i64 0, .int .i64 0] 32 ∧ Bx wS B3 #[.int .i64 0, .int .i64 0] 32) (World.drew _) := ⟨MM.out.new (qw_drew1 _), X8.out.kept (qw_drew1 _), X7.out.kept (qw_drew1 _), X2.out.kept (qw_drew1 _), X3.out.kept (qw_drew1 _)⟩
          skip
          refine wpM_named (S' := fun wS => Tm w B tv zs wS ∧ Bx wS B8 #[.int .i64 (-u), .int .i64 (-v)] 32 ∧ Bx wS B7 #[.int .i64 u, .int .i64 v] 32 ∧ Bx wS B2 #[.int .i64 0, .int .i64 0] 32 ∧ Bx wS B3 #[.int .i64 0, .int .i64 0] 32) hSS ?_
          intro wd hSS
          refine wpAnyM_take (i := 0) (v := ?_) rfl (by kernel_rfl) (fun _ _ _ h => h) (Or.inl ⟨by rfl, ?_⟩) hSS ?_
          rotate_left 1
          · intro wS hwS
            go_simp
            try with_reducible rfl
          simp only [List.getElem_toArray, List.getElem_cons_succ, List.getElem_cons_zero, Act.put, List.setIfInBounds_toArray, List.set_cons_zero, List.set_cons_succ]
          refine wpAnyM_take (i := 1) (v := ?_) rfl (by kernel_rfl) (fun _ _ _ h => h) (Or.inl ⟨by rfl, ?_⟩) hSS ?_
          rotate_left 1
          · intro wS hwS
            have y0 := (hwS.2.1).p0; go_simp
            try with_reducible rfl
          simp only [List.getElem_toArray, List.getElem_cons_succ, List.getElem_cons_zero, Act.put, List.setIfInBounds_toArray, List.set_cons_zero, List.set_cons_succ]
          refine wpAnyM_take (i := 2) (v := ?_) rfl (by kernel_rfl) (fun _ _ _ h => h) (Or.inl ⟨by rfl, ?_⟩) hSS ?_
          rotate_left 1
          · intro wS hwS
            go_simp
            try with_reducible rfl
          simp only [List.getElem_toArray, List.getElem_cons_succ, List.getElem_cons_zero, Act.put, List.setIfInBounds_toArray, List.set_cons_zero, List.set_cons_succ]
          refine wpAnyM_one (i := 3) rfl (by kernel_rfl) rfl (fun K hK => ?_)
          go_simp
          refine (RG.out (-2) 2 (by decide) (by decide) (by decide) _ hSS.1).mono ?_
          rintro e wE ⟨⟨kk3, rfl, kk1, kk2⟩, mm, gg⟩
          have m2 : (fun wS => Tm w B tv zs wS ∧ Bx wS B8 #[.int .i64 (-u), .int .i64 (-v)] 32 ∧ Bx wS B7 #[.int .i64 u, .int .i64 v] 32 ∧ Bx wS B2 #[.int .i64 0, .int .i64 0] 32 ∧ Bx wS B3 #[.int .i64 0, .int .i64 0] 32) wE := ⟨mm, (hSS.2.1).grM gg (hSS.1.nt h8.out), (hSS.2.2.1).grM gg (hSS.1.nt h7.out), (hSS.2.2.2.1).grM gg (hSS.1.nt h2.out), (hSS.2.2.2.2).grM gg (hSS.1.nt h3.out)⟩
          clear mm gg
          refine hK _ _ (fun _ => m2) ?_
          clear hK K hSS
          have hSS := m2
          clear m2
          try simp only [List.getElem_toArray, List.getElem_cons_succ, List.getElem_cons_zero, Act.put, List.setIfInBounds_toArray, List.set_cons_zero, List.set_cons_succ]
          refine wpAnyM_take (i := 4) (v := ?_) rfl (by kernel_rfl) (fun _ _ _ h => h) (Or.inl ⟨by rfl, ?_⟩) hSS ?_
          rotate_left 1
          · intro wS hwS
            have ew := EW.out kk3 kk1 kk2; go_simp
            try with_reducible rfl
          simp only [List.getElem_toArray, List.getElem_cons_succ, List.getElem_cons_zero, Act.put, List.setIfInBounds_toArray, List.set_cons_zero, List.set_cons_succ]
          refine wpAnyM_take (i := 5) (v := ?_) rfl (by kernel_rfl) (fun _ _ _ h => h) (Or.inl ⟨by rfl, ?_⟩) hSS ?_
          rotate_left 1
          · intro wS hwS
            go_simp
            try with_reducible rfl
          simp only [List.getElem_toArray, List.getElem_cons_succ, List.getElem_cons_zero, Act.put, List.setIfInBounds_toArray, List.set_cons_zero, List.set_cons_succ]
          refine wpAnyM_one (i := 6) rfl (by kernel_rfl) rfl (fun K hK => ?_)
          have z0 := (hSS.2.1).p0
          have y0 := (hSS.2.1).free 0
          go_simp
          have MM2 := Lib.hid (hSS.1.set h8.out 0 (.int .i64 ((-u) + kk3)))
          have X82 := Lib.hid ((hSS.2.1).set 0 (.int .i64 ((-u) + kk3)))
          have X72 := Lib.hid ((hSS.2.2.1).other (a := ⟨B8, 0, none⟩) (by first | exact (n7_8).out | exact (m8_7).out) (.int .i64 ((-u) + kk3)))
          have X22 := Lib.hid ((hSS.2.2.2.1).other (a := ⟨B8, 0, none⟩) (by first | exact (n2_8).out | exact (m8_2).out) (.int .i64 ((-u) + kk3)))
          have X32 := Lib.hid ((hSS.2.2.2.2).other (a := ⟨B8, 0, none⟩) (by first | exact (n3_8).out | exact (m8_3).out) (.int .i64 ((-u) + kk3)))
          refine hK _ _ (fun h => absurd h (by decide)) ?_
          clear hK K hSS z0 y0
          try simp only [List.getElem_toArray, List.getElem_cons_succ, List.getElem_cons_zero, Act.put, List.setIfInBounds_toArray, List.set_cons_zero, List.set_cons_succ]
          refine wpAnyM_done (by kernel_rfl) ?_ _
          clear MM X8 X7 X2 X3
          generalize World.setCell wE ⟨B8, 0, none⟩ (.int .i64 ((-u) + kk3)) = wF at *
          have MM := MM2
          have X8 : Hid (Bx wF B8 #[.int .i64 ((-u) + kk3), .int .i64 (-v)] 32) := X82
          have X7 := X72
          have X2 := X22
          have X3 := X32
          clear MM2 X82 X72 X22 X32
          go_upto_region 17 with fail
          have ft := fun w' => arFit u v ((-u) + kk3) (-v) false (by omega) (by omega) (by omega) (by omega) (by omega) (by omega) (by omega) (by omega) w'
          have AG := Lib.hid (agr_of u v ((-u) + kk3) (-v) false)
          generalize ok : (Ac.fit (Ac.inn u v u v) (Ac.inn ((-u) + kk3) (-v) ((-u) + kk3) (-v)) && Ac.agr false u v ((-u) + kk3) (-v)) = okk at *
          have FT := Lib.hid ft
          have OK := Lib.hid ok
          clear ft ok
          try simp only [List.getElem_toArray, List.getElem_cons_succ, List.getElem_cons_zero, Act.put, List.setIfInBounds_toArray, List.set_cons_zero, List.set_cons_succ]
          refine wp_region_M (fun wS => Tm w B tv zs wS ∧ Bx wS B7 #[.int .i64 u, .int .i64 v] 32 ∧ Bx wS B8 #[.int .i64 ((-u) + kk3), .int .i64 (-v)] 32) 10 (by kernel_rfl) ?_
          have hSS : (fun wS => Tm w B tv zs wS ∧ Bx wS B7 #[.int .i64 u, .int .i64 v] 32 ∧ Bx wS B8 #[.int .i64 ((-u) + kk3), .int .i64 (-v)] 32) (World.drew _) := ⟨MM.out.new (qw_drew1 _), X7.out.kept (qw_drew1 _), X8.out.kept (qw_drew1 _)⟩
          replace X2 := Lib.hid (X2.out.kept (qw_drew1 _))
          replace X3 := Lib.hid (X3.out.kept (qw_drew1 _))
          refine wpM_named (S' := fun wS => (fun wS => Tm w B tv zs wS ∧ Bx wS B7 #[.int .i64 u, .int .i64 v] 32 ∧ Bx wS B8 #[.int .i64 ((-u) + kk3), .int .i64 (-v)] 32) wS ∧ Bx wS B2 #[.int .i64 0, .int .i64 0] 32 ∧ Bx wS B3 #[.int .i64 0, .int .i64 0] 32) ⟨hSS, X2.out, X3.out⟩ ?_
          clear X2 X3 hSS MM X7 X8
          rintro wd ⟨hSS, x2, x3⟩
          have X2 := Lib.hid x2
          have X3 := Lib.hid x3
          clear x2 x3
          refine wpAnyM_take (i := 0) (v := ?_) rfl (by kernel_rfl) (fun _ _ _ h => h) (Or.inl ⟨by rfl, ?_⟩) hSS ?_
          rotate_left 1
          · intro wS hwS
            have y0 := hwS.2.1.p0; have y1 := hwS.2.1.p1; go_simp
            try with_reducible rfl
          simp only [List.getElem_toArray, List.getElem_cons_succ, List.getElem_cons_zero, Act.put, List.setIfInBounds_toArray, List.set_cons_zero, List.set_cons_succ]
          refine wpAnyM_take (i := 2) (v := ?_) rfl (by kernel_rfl) (fun _ _ _ h => h) (Or.inl ⟨by rfl, ?_⟩) hSS ?_
          rotate_left 1
          · intro wS hwS
            go_simp
            try with_reducible rfl
          simp only [List.getElem_toArray, List.getElem_cons_succ, List.getElem_cons_zero, Act.put, List.setIfInBounds_toArray, List.set_cons_zero, List.set_cons_succ]
          refine wpAnyM_takeT (i := 3) (v := ?_) [6, 7, 8, 9, 10] [] rfl (by kernel_rfl) (fun _ _ _ h => h) (Or.inl ⟨by rfl, ?_⟩) hSS ?_
          rotate_left 1
          · intro wS hwS
            have y0 := hwS.2.1.p0; have y1 := hwS.2.1.p1; go_simp
            try with_reducible rfl
          simp only [List.getElem_toArray, List.getElem_cons_succ, List.getElem_cons_zero, Act.put, List.setIfInBounds_toArray, List.set_cons_zero, List.set_cons_succ]
          refine wpAnyM_takeT (i := 4) (v := ?_) [6, 7, 8, 9, 10] [] rfl (by kernel_rfl) (fun _ _ _ h => h) (Or.inl ⟨by rfl, ?_⟩) hSS ?_
          rotate_left 1
          · intro wS hwS
            have y0 := hwS.2.2.p0; have y1 := hwS.2.2.p1; go_simp
            try with_reducible rfl
          simp only [List.getElem_toArray, List.getElem_cons_succ, List.getElem_cons_zero, Act.put, List.setIfInBounds_toArray, List.set_cons_zero, List.set_cons_succ]
          refine wpAnyM_take (i := 5) (v := ?_) rfl (by kernel_rfl) (fun _ _ _ h => h) (Or.inl ⟨by rfl, ?_⟩) hSS ?_
          rotate_left 1
          · intro wS hwS
            go_simp
            try with_reducible rfl
          simp only [List.getElem_toArray, List.getElem_cons_succ, List.getElem_cons_zero, Act.put, List.setIfInBounds_toArray, List.set_cons_zero, List.set_cons_succ]
          refine wpAnyM_two (i := 1) (j := 6) rfl rfl (by kernel_rfl) rfl rfl (fun K hK => ?_) (fun K hK => ?_)
          · have z0 := hSS.2.2.p0
            have z1 := hSS.2.2.p1
            go_simp
            refine hK _ _ (fun _ => hSS) ?_
            clear hK K z0 z1
            try simp only [List.getElem_toArray, List.getElem_cons_succ, List.getElem_cons_zero, Act.put, List.setIfInBounds_toArray, List.set_cons_zero, List.set_cons_succ]
            refine wpAnyM_one (i := 6) rfl (by kernel_rfl) rfl (fun K hK => ?_)
            go_simp
            refine (FT.out _).mono ?_
            rintro e wE ⟨rfl, qq⟩
            have m2 : (fun wS => Tm w B tv zs wS ∧ Bx wS B7 #[.int .i64 u, .int .i64 v] 32 ∧ Bx wS B8 #[.int .i64 ((-u) + kk3), .int .i64 (-v)] 32) wE := ⟨hSS.1.new qq, hSS.2.1.kept qq, hSS.2.2.kept qq⟩
            replace X2 := Lib.hid (X2.out.kept qq)
            replace X3 := Lib.hid (X3.out.kept qq)
            refine hK _ _ (fun _ => m2) ?_
            clear hK K hSS qq
            have hSS := m2
            clear m2
            try simp only [List.getElem_toArray, List.getElem_cons_succ, List.getElem_cons_zero, Act.put, List.setIfInBounds_toArray, List.set_cons_zero, List.set_cons_succ]
            refine wpAnyM_one (i := 7) rfl (by kernel_rfl) rfl (fun K hK => ?_)
            have z0 := X2.out.p0
            have z1 := X2.out.p1
            have y0 := X2.out.free 0
            have y1 := X2.out.free 1
            go_simp
            have hZ := X2.out.st2 (.int .i64 u) (.int .i64 v)
            have m2 := And.intro ((hSS.1.set h2.out 0 (.int .i64 u)).set h2.out 1 (.int .i64 v)) (And.intro (hSS.2.1.otA2 n7_2.out (.int .i64 u) (.int .i64 v)) (hSS.2.2.otA2 n8_2.out (.int .i64 u) (.int .i64 v)))
            replace X3 := Lib.hid (X3.out.otA2 n3_2.out (.int .i64 u) (.int .i64 v))
            replace X2 := Lib.hid hZ
            refine hK _ _ (fun _ => m2) ?_
            clear hK K hSS hZ z0 z1 y0 y1
            have hSS := m2
            clear m2
            try simp only [List.getElem_toArray, List.getElem_cons_succ, List.getElem_cons_zero, Act.put, List.setIfInBounds_toArray, List.set_cons_zero, List.set_cons_succ]
            refine wpAnyM_one (i := 8) rfl (by kernel_rfl) rfl (fun K hK => ?_)
            have z0 := X3.out.p0
            have z1 := X3.out.p1
            have y0 := X3.out.free 0
            have y1 := X3.out.free 1
            go_simp
            have hZ := X3.out.st2 (.int .i64 ((-u) + kk3)) (.int .i64 (-v))
            have m2 := And.intro ((hSS.1.set h3.out 0 (.int .i64 ((-u) + kk3))).set h3.out 1 (.int .i64 (-v))) (And.intro (hSS.2.1.otA2 n7_3.out (.int .i64 ((-u) + kk3)) (.int .i64 (-v))) (hSS.2.2.otA2 n8_3.out (.int .i64 ((-u) + kk3)) (.int .i64 (-v))))
            replace X2 := Lib.hid (X2.out.otA2 m3_2.out (.int .i64 ((-u) + kk3)) (.int .i64 (-v)))
            replace X3 := Lib.hid hZ
            refine hK _ _ (fun _ => m2) ?_
            clear hK K hSS hZ z0 z1 y0 y1
            have hSS := m2
            clear m2
            try simp only [List.getElem_toArray, List.getElem_cons_succ, List.getElem_cons_zero, Act.put, List.setIfInBounds_toArray, List.set_cons_zero, List.set_cons_succ]
            refine wpAnyM_one (i := 9) rfl (by kernel_rfl) rfl (fun K hK => ?_)
            go_simp
            refine hK _ _ (fun _ => hSS) ?_
            clear hK K
            try simp only [List.getElem_toArray, List.getElem_cons_succ, List.getElem_cons_zero, Act.put, List.setIfInBounds_toArray, List.set_cons_zero, List.set_cons_succ]
            refine wpAnyM_one (i := 10) rfl (by kernel_rfl) rfl (fun K hK => ?_)
            go_simp
            refine hK _ _ (fun h => absurd h (by decide)) ?_
            clear hK K
            try simp only [List.getElem_toArray, List.getElem_cons_succ, List.getElem_cons_zero, Act.put, List.setIfInBounds_toArray, List.set_cons_zero, List.set_cons_succ]
            refine wpAnyM_done (by kernel_rfl) ?_ _
            go_wp2
            have c2_0 := X2.out.p0
            have c2_1 := X2.out.p1
            have c3_0 := X3.out.p0
            have c3_1 := X3.out.p1
            exact bodyPost_ret (v := .tuple #[.agg #[.int .i64 u, .int .i64 v], .agg #[.int .i64 ((-u) + kk3), .int .i64 (-v)], .bool false, .bool okk]) (by simp [results, Try.results67, go_sem, c2_0, c2_1, c3_0, c3_1]) rfl (by show SpkR w0 w B tv zs _ _; unfold SpkR; exact ⟨⟨u, v, ((-u) + kk3), (-v), false, okk, rfl, by omega, by omega, by omega, by omega, fun hk => AG.out hk⟩, ⟨hSS.1.t, HM.out.g.trans hSS.1.g, HM.out.b⟩, hSS.1.g⟩)
          · go_simp
            refine (FT.out _).mono ?_
            rintro e wE ⟨rfl, qq⟩
            have m2 : (fun wS => Tm w B tv zs wS ∧ Bx wS B7 #[.int .i64 u, .int .i64 v] 32 ∧ Bx wS B8 #[.int .i64 ((-u) + kk3), .int .i64 (-v)] 32) wE := ⟨hSS.1.new qq, hSS.2.1.kept qq, hSS.2.2.kept qq⟩
            replace X2 := Lib.hid (X2.out.kept qq)
            replace X3 := Lib.hid (X3.out.kept qq)
            refine hK _ _ (fun _ => m2) ?_
            clear hK K hSS qq
            have hSS := m2
            clear m2
            try simp only [List.getElem_toArray, List.getElem_cons_succ, List.getElem_cons_zero, Act.put, List.setIfInBounds_toArray, List.set_cons_zero, List.set_cons_succ]
            refine wpAnyM_two (i := 1) (j := 7) rfl rfl (by kernel_rfl) rfl rfl (fun K hK => ?_) (fun K hK => ?_)
            · have z0 := hSS.2.2.p0
              have z1 := hSS.2.2.p1
              go_simp
              refine hK _ _ (fun _ => hSS) ?_
              clear hK K z0 z1
              try simp only [List.getElem_toArray, List.getElem_cons_succ, List.getElem_cons_zero, Act.put, List.setIfInBounds_toArray, List.set_cons_zero, List.set_cons_succ]
              refine wpAnyM_one (i := 7) rfl (by kernel_rfl) rfl (fun K hK => ?_)
              have z0 := X2.out.p0
              have z1 := X2.out.p1
              have y0 := X2.out.free 0
              have y1 := X2.out.free 1
              go_simp
              have hZ := X2.out.st2 (.int .i64 u) (.int .i64 v)
              have m2 := And.intro ((hSS.1.set h2.out 0 (.int .i64 u)).set h2.out 1 (.int .i64 v)) (And.intro (hSS.2.1.otA2 n7_2.out (.int .i64 u) (.int .i64 v)) (hSS.2.2.otA2 n8_2.out (.int .i64 u) (.int .i64 v)))
              replace X3 := Lib.hid (X3.out.otA2 n3_2.out (.int .i64 u) (.int .i64 v))
              replace X2 := Lib.hid hZ
              refine hK _ _ (fun _ => m2) ?_
              clear hK K hSS hZ z0 z1 y0 y1
              have hSS := m2
              clear m2
              try simp only [List.getElem_toArray, List.getElem_cons_succ, List.getElem_cons_zero, Act.put, List.setIfInBounds_toArray, List.set_cons_zero, List.set_cons_succ]
              refine wpAnyM_one (i := 8) rfl (by kernel_rfl) rfl (fun K hK => ?_)
              have z0 := X3.out.p0
              have z1 := X3.out.p1
              have y0 := X3.out.free 0
              have y1 := X3.out.free 1
              go_simp
              have hZ := X3.out.st2 (.int .i64 ((-u) + kk3)) (.int .i64 (-v))
              have m2 := And.intro ((hSS.1.set h3.out 0 (.int .i64 ((-u) + kk3))).set h3.out 1 (.int .i64 (-v))) (And.intro (hSS.2.1.otA2 n7_3.out (.int .i64 ((-u) + kk3)) (.int .i64 (-v))) (hSS.2.2.otA2 n8_3.out (.int .i64 ((-u) + kk3)) (.int .i64 (-v))))
              replace X2 := Lib.hid (X2.out.otA2 m3_2.out (.int .i64 ((-u) + kk3)) (.int .i64 (-v)))
              replace X3 := Lib.hid hZ
              refine hK _ _ (fun _ => m2) ?_
              clear hK K hSS hZ z0 z1 y0 y1
              have hSS := m2
              clear m2
              try simp only [List.getElem_toArray, List.getElem_cons_succ, List.getElem_cons_zero, Act.put, List.setIfInBounds_toArray, List.set_cons_zero, List.set_cons_succ]
              refine wpAnyM_one (i := 9) rfl (by kernel_rfl) rfl (fun K hK => ?_)
              go_simp
              refine hK _ _ (fun _ => hSS) ?_
              clear hK K
              try simp only [List.getElem_toArray, List.getElem_cons_succ, List.getElem_cons_zero, Act.put, List.setIfInBounds_toArray, List.set_cons_zero, List.set_cons_succ]
              refine wpAnyM_one (i := 10) rfl (by kernel_rfl) rfl (fun K hK => ?_)
              go_simp
              refine hK _ _ (fun h => absurd h (by decide)) ?_
              clear hK K
              try simp only [List.getElem_toArray, List.getElem_cons_succ, List.getElem_cons_zero, Act.put, List.setIfInBounds_toArray, List.set_cons_zero, List.set_cons_succ]
              refine wpAnyM_done (by kernel_rfl) ?_ _
              go_wp2
              have c2_0 := X2.out.p0
              have c2_1 := X2.out.p1
              have c3_0 := X3.out.p0
              have c3_1 := X3.out.p1
              exact bodyPost_ret (v := .tuple #[.agg #[.int .i64 u, .int .i64 v], .agg #[.int .i64 ((-u) + kk3), .int .i64 (-v)], .bool false, .bool okk]) (by simp [results, Try.results67, go_sem, c2_0, c2_1, c3_0, c3_1]) rfl (by show SpkR w0 w B tv zs _ _; unfold SpkR; exact ⟨⟨u, v, ((-u) + kk3), (-v), false, okk, rfl, by omega, by omega, by omega, by omega, fun hk => AG.out hk⟩, ⟨hSS.1.t, HM.out.g.trans hSS.1.g, HM.out.b⟩, hSS.1.g⟩)
            · have z0 := X2.out.p0
              have z1 := X2.out.p1
              have y0 := X2.out.free 0
              have y1 := X2.out.free 1
              go_simp
              have hZ := X2.out.st2 (.int .i64 u) (.int .i64 v)
              have m2 := And.intro ((hSS.1.set h2.out 0 (.int .i64 u)).set h2.out 1 (.int .i64 v)) (And.intro (hSS.2.1.otA2 n7_2.out (.int .i64 u) (.int .i64 v)) (hSS.2.2.otA2 n8_2.out (.int .i64 u) (.int .i64 v)))
              replace X3 := Lib.hid (X3.out.otA2 n3_2.out (.int .i64 u) (.int .i64 v))
              replace X2 := Lib.hid hZ
              refine hK _ _ (fun _ => m2) ?_
              clear hK K hSS hZ z0 z1 y0 y1
              have hSS := m2
              clear m2
              try simp only [List.getElem_toArray, List.getElem_cons_succ, List.getElem_cons_zero, Act.put, List.setIfInBounds_toArray, List.set_cons_zero, List.set_cons_succ]
              refine wpAnyM_one (i := 1) rfl (by kernel_rfl) rfl (fun K hK => ?_)
              have z0 := hSS.2.2.p0
              have z1 := hSS.2.2.p1
              go_simp
              refine hK _ _ (fun _ => hSS) ?_
              clear hK K z0 z1
              try simp only [List.getElem_toArray, List.getElem_cons_succ, List.getElem_cons_zero, Act.put, List.setIfInBounds_toArray, List.set_cons_zero, List.set_cons_succ]
              refine wpAnyM_one (i := 8) rfl (by kernel_rfl) rfl (fun K hK => ?_)
              have z0 := X3.out.p0
              have z1 := X3.out.p1
              have y0 := X3.out.free 0
              have y1 := X3.out.free 1
              go_simp
              have hZ := X3.out.st2 (.int .i64 ((-u) + kk3)) (.int .i64 (-v))
              have m2 := And.intro ((hSS.1.set h3.out 0 (.int .i64 ((-u) + kk3))).set h3.out 1 (.int .i64 (-v))) (And.intro (hSS.2.1.otA2 n7_3.out (.int .i64 ((-u) + kk3)) (.int .i64 (-v))) (hSS.2.2.otA2 n8_3.out (.int .i64 ((-u) + kk3)) (.int .i64 (-v))))
              replace X2 := Lib.hid (X2.out.otA2 m3_2.out (.int .i64 ((-u) + kk3)) (.int .i64 (-v)))
              replace X3 := Lib.hid hZ
              refine hK _ _ (fun _ => m2) ?_
              clear hK K hSS hZ z0 z1 y0 y1
              have hSS := m2
              clear m2
              try simp only [List.getElem_toArray, List.getElem_cons_succ, List.getElem_cons_zero, Act.put, List.setIfInBounds_toArray, List.set_cons_zero, List.set_cons_succ]
              refine wpAnyM_one (i := 9) rfl (by kernel_rfl) rfl (fun K hK => ?_)
              go_simp
              refine hK _ _ (fun _ => hSS) ?_
              clear hK K
              try simp only [List.getElem_toArray, List.getElem_cons_succ, List.getElem_cons_zero, Act.put, List.setIfInBounds_toArray, List.set_cons_zero, List.set_cons_succ]
              refine wpAnyM_one (i := 10) rfl (by kernel_rfl) rfl (fun K hK => ?_)
              go_simp
              refine hK _ _ (fun h => absurd h (by decide)) ?_
              clear hK K
              try simp only [List.getElem_toArray, List.getElem_cons_succ, List.getElem_cons_zero, Act.put, List.setIfInBounds_toArray, List.set_cons_zero, List.set_cons_succ]
              refine wpAnyM_done (by kernel_rfl) ?_ _
              go_wp2
              have c2_0 := X2.out.p0
              have c2_1 := X2.out.p1
              have c3_0 := X3.out.p0
              have c3_1 := X3.out.p1
              exact bodyPost_ret (v := .tuple #[.agg #[.int .i64 u, .int .i64 v], .agg #[.int .i64 ((-u) + kk3), .int .i64 (-v)], .bool false, .bool okk]) (by simp [results, Try.results67, go_sem, c2_0, c2_1, c3_0, c3_1]) rfl (by show SpkR w0 w B tv zs _ _; unfold SpkR; exact ⟨⟨u, v, ((-u) + kk3), (-v), false, okk, rfl, by omega, by omega, by omega, by omega, fun hk => AG.out hk⟩, ⟨hSS.1.t, HM.out.g.trans hSS.1.g, HM.out.b⟩, hSS.1.g⟩)
        · have z3 : (g3 == 0) = false := beq_eq_false_iff_ne.2 e3
          clear e3 g31 g32
          go_upto_region 17 with fail
          have ft := fun w' => arFit u v (-u) (-v) false (by omega) (by omega) (by omega) (by omega) (by omega) (by omega) (by omega) (by omega) w'
          have AG := Lib.hid (agr_of u v (-u) (-v) false)
          generalize ok : (Ac.fit (Ac.inn u v u v) (Ac.inn (-u) (-v) (-u) (-v)) && Ac.agr false u v (-u) (-v)) = okk at *
          have FT := Lib.hid ft
          have OK := Lib.hid ok
          clear ft ok
          try simp only [List.getElem_toArray, List.getElem_cons_succ, List.getElem_cons_zero, Act.put, List.setIfInBounds_toArray, List.set_cons_zero, List.set_cons_succ]
          refine wp_region_M (fun wS => Tm w B tv zs wS ∧ Bx wS B7 #[.int .i64 u, .int .i64 v] 32 ∧ Bx wS B8 #[.int .i64 (-u), .int .i64 (-v)] 32) 10 (by kernel_rfl) ?_
          have hSS : (fun wS => Tm w B tv zs wS ∧ Bx wS B7 #[.int .i64 u, .int .i64 v] 32 ∧ Bx wS B8 #[.int .i64 (-u), .int .i64 (-v)] 32) (World.drew _) := ⟨MM.out.new (qw_drew1 _), X7.out.kept (qw_drew1 _), X8.out.kept (qw_drew1 _)⟩
          replace X2 := Lib.hid (X2.out.kept (qw_drew1 _))
          replace X3 := Lib.hid (X3.out.kept (qw_drew1 _))
          refine wpM_named (S' := fun wS => (fun wS => Tm w B tv zs wS ∧ Bx wS B7 #[.int .i64 u, .int .i64 v] 32 ∧ Bx wS B8 #[.int .i64 (-u), .int .i64 (-v)] 32) wS ∧ Bx wS B2 #[.int .i64 0, .int .i64 0] 32 ∧ Bx wS B3 #[.int .i64 0, .int .i64 0] 32) ⟨hSS, X2.out, X3.out⟩ ?_
          clear X2 X3 hSS MM X7 X8
          rintro wd ⟨hSS, x2, x3⟩
          have X2 := Lib.hid x2
          have X3 := Lib.hid x3
          clear x2 x3
          refine wpAnyM_take (i := 0) (v := ?_) rfl (by kernel_rfl) (fun _ _ _ h => h) (Or.inl ⟨by rfl, ?_⟩) hSS ?_
          rotate_left 1
          · intro wS hwS
            have y0 := hwS.2.1.p0; have y1 := hwS.2.1.p1; go_simp
            try with_reducible rfl
          simp only [List.getElem_toArray, List.getElem_cons_succ, List.getElem_cons_zero, Act.put, List.setIfInBounds_toArray, List.set_cons_zero, List.set_cons_succ]
          refine wpAnyM_take (i := 2) (v := ?_) rfl (by kernel_rfl) (fun _ _ _ h => h) (Or.inl ⟨by rfl, ?_⟩) hSS ?_
          rotate_left 1
          · intro wS hwS
            go_simp
            try with_reducible rfl
          simp only [List.getElem_toArray, List.getElem_cons_succ, List.getElem_cons_zero, Act.put, List.setIfInBounds_toArray, List.set_cons_zero, List.set_cons_succ]
          refine wpAnyM_takeT (i := 3) (v := ?_) [6, 7, 8, 9, 10] [] rfl (by kernel_rfl) (fun _ _ _ h => h) (Or.inl ⟨by rfl, ?_⟩) hSS ?_
          rotate_left 1
          · intro wS hwS
            have y0 := hwS.2.1.p0; have y1 := hwS.2.1.p1; go_simp
            try with_reducible rfl
          simp only [List.getElem_toArray, List.getElem_cons_succ, List.getElem_cons_zero, Act.put, List.setIfInBounds_toArray, List.set_cons_zero, List.set_cons_succ]
          refine wpAnyM_takeT (i := 4) (v := ?_) [6, 7, 8, 9, 10] [] rfl (by kernel_rfl) (fun _ _ _ h => h) (Or.inl ⟨by rfl, ?_⟩) hSS ?_
          rotate_left 1
          · intro wS hwS
            have y0 := hwS.2.2.p0; have y1 := hwS.2.2.p1; go_simp
            try with_reducible rfl
          simp only [List.getElem_toArray, List.getElem_cons_succ, List.getElem_cons_zero, Act.put, List.setIfInBounds_toArray, List.set_cons_zero, List.set_cons_succ]
          refine wpAnyM_take (i := 5) (v := ?_) rfl (by kernel_rfl) (fun _ _ _ h => h) (Or.inl ⟨by rfl, ?_⟩) hSS ?_
          rotate_left 1
          · intro wS hwS
            go_simp
            try with_reducible rfl
          simp only [List.getElem_toArray, List.getElem_cons_succ, List.getElem_cons_zero, Act.put, List.setIfInBounds_toArray, List.set_cons_zero, List.set_cons_succ]
          refine wpAnyM_two (i := 1) (j := 6) rfl rfl (by kernel_rfl) rfl rfl (fun K hK => ?_) (fun K hK => ?_)
          · have z0 := hSS.2.2.p0
            have z1 := hSS.2.2.p1
            go_simp
            refine hK _ _ (fun _ => hSS) ?_
            clear hK K z0 z1
            try simp only [List.getElem_toArray, List.getElem_cons_succ, List.getElem_cons_zero, Act.put, List.setIfInBounds_toArray, List.set_cons_zero, List.set_cons_succ]
            refine wpAnyM_one (i := 6) rfl (by kernel_rfl) rfl (fun K hK => ?_)
            go_simp
            refine (FT.out _).mono ?_
            rintro e wE ⟨rfl, qq⟩
            have m2 : (fun wS => Tm w B tv zs wS ∧ Bx wS B7 #[.int .i64 u, .int .i64 v] 32 ∧ Bx wS B8 #[.int .i64 (-u), .int .i64 (-v)] 32) wE := ⟨hSS.1.new qq, hSS.2.1.kept qq, hSS.2.2.kept qq⟩
            replace X2 := Lib.hid (X2.out.kept qq)
            replace X3 := Lib.hid (X3.out.kept qq)
            refine hK _ _ (fun _ => m2) ?_
            clear hK K hSS qq
            have hSS := m2
            clear m2
            try simp only [List.getElem_toArray, List.getElem_cons_succ, List.getElem_cons_zero, Act.put, List.setIfInBounds_toArray, List.set_cons_zero, List.set_cons_succ]
            refine wpAnyM_one (i := 7) rfl (by kernel_rfl) rfl (fun K hK => ?_)
            have z0 := X2.out.p0
            have z1 := X2.out.p1
            have y0 := X2.out.free 0
            have y1 := X2.out.free 1
            go_simp
            have hZ := X2.out.st2 (.int .i64 u) (.int .i64 v)
            have m2 := And.intro ((hSS.1.set h2.out 0 (.int .i64 u)).set h2.out 1 (.int .i64 v)) (And.intro (hSS.2.1.otA2 n7_2.out (.int .i64 u) (.int .i64 v)) (hSS.2.2.otA2 n8_2.out (.int .i64 u) (.int .i64 v)))
            replace X3 := Lib.hid (X3.out.otA2 n3_2.out (.int .i64 u) (.int .i64 v))
            replace X2 := Lib.hid hZ
            refine hK _ _ (fun _ => m2) ?_
            clear hK K hSS hZ z0 z1 y0 y1
            have hSS := m2
            clear m2
            try simp only [List.getElem_toArray, List.getElem_cons_succ, List.getElem_cons_zero, Act.put, List.setIfInBounds_toArray, List.set_cons_zero, List.set_cons_succ]
            refine wpAnyM_one (i := 8) rfl (by kernel_rfl) rfl (fun K hK => ?_)
            have z0 := X3.out.p0
            have z1 := X3.out.p1
            have y0 := X3.out.free 0
            have y1 := X3.out.free 1
            go_simp
            have hZ := X3.out.st2 (.int .i64 (-u)) (.int .i64 (-v))
            have m2 := And.intro ((hSS.1.set h3.out 0 (.int .i64 (-u))).set h3.out 1 (.int .i64 (-v))) (And.intro (hSS.2.1.otA2 n7_3.out (.int .i64 (-u)) (.int .i64 (-v))) (hSS.2.2.otA2 n8_3.out (.int .i64 (-u)) (.int .i64 (-v))))
            replace X2 := Lib.hid (X2.out.otA2 m3_2.out (.int .i64 (-u)) (.int .i64 (-v)))
            replace X3 := Lib.hid hZ
            refine hK _ _ (fun _ => m2) ?_
            clear hK K hSS hZ z0 z1 y0 y1
            have hSS := m2
            clear m2
            try simp only [List.getElem_toArray, List.getElem_cons_succ, List.getElem_cons_zero, Act.put, List.setIfInBounds_toArray, List.set_cons_zero, List.set_cons_succ]
            refine wpAnyM_one (i := 9) rfl (by kernel_rfl) rfl (fun K hK => ?_)
            go_simp
            refine hK _ _ (fun _ => hSS) ?_
            clear hK K
            try simp only [List.getElem_toArray, List.getElem_cons_succ, List.getElem_cons_zero, Act.put, List.setIfInBounds_toArray, List.set_cons_zero, List.set_cons_succ]
            refine wpAnyM_one (i := 10) rfl (by kernel_rfl) rfl (fun K hK => ?_)
            go_simp
            refine hK _ _ (fun h => absurd h (by decide)) ?_
            clear hK K
            try simp only [List.getElem_toArray, List.getElem_cons_succ, List.getElem_cons_zero, Act.put, List.setIfInBounds_toArray, List.set_cons_zero, List.set_cons_succ]
            refine wpAnyM_done (by kernel_rfl) ?_ _
            go_wp2
            have c2_0 := X2.out.p0
            have c2_1 := X2.out.p1
            have c3_0 := X3.out.p0
            have c3_1 := X3.out.p1
            exact bodyPost_ret (v := .tuple #[.agg #[.int .i64 u, .int .i64 v], .agg #[.int .i64 (-u), .int .i64 (-v)], .bool false, .bool okk]) (by simp [results, Try.results67, go_sem, c2_0, c2_1, c3_0, c3_1]) rfl (by show SpkR w0 w B tv zs _ _; unfold SpkR; exact ⟨⟨u, v, (-u), (-v), false, okk, rfl, by omega, by omega, by omega, by omega, fun hk => AG.out hk⟩, ⟨hSS.1.t, HM.out.g.trans hSS.1.g, HM.out.b⟩, hSS.1.g⟩)
          · go_simp
            refine (FT.out _).mono ?_
            rintro e wE ⟨rfl, qq⟩
            have m2 : (fun wS => Tm w B tv zs wS ∧ Bx wS B7 #[.int .i64 u, .int .i64 v] 32 ∧ Bx wS B8 #[.int .i64 (-u), .int .i64 (-v)] 32) wE := ⟨hSS.1.new qq, hSS.2.1.kept qq, hSS.2.2.kept qq⟩
            replace X2 := Lib.hid (X2.out.kept qq)
            replace X3 := Lib.hid (X3.out.kept qq)
            refine hK _ _ (fun _ => m2) ?_
            clear hK K hSS qq
            have hSS := m2
            clear m2
            try simp only [List.getElem_toArray, List.getElem_cons_succ, List.getElem_cons_zero, Act.put, List.setIfInBounds_toArray, List.set_cons_zero, List.set_cons_succ]
            refine wpAnyM_two (i := 1) (j := 7) rfl rfl (by kernel_rfl) rfl rfl (fun K hK => ?_) (fun K hK => ?_)
            · have z0 := hSS.2.2.p0
              have z1 := hSS.2.2.p1
              go_simp
              refine hK _ _ (fun _ => hSS) ?_
              clear hK K z0 z1
              try simp only [List.getElem_toArray, List.getElem_cons_succ, List.getElem_cons_zero, Act.put, List.setIfInBounds_toArray, List.set_cons_zero, List.set_cons_succ]
              refine wpAnyM_one (i := 7) rfl (by kernel_rfl) rfl (fun K hK => ?_)
              have z0 := X2.out.p0
              have z1 := X2.out.p1
              have y0 := X2.out.free 0
              have y1 := X2.out.free 1
              go_simp
              have hZ := X2.out.st2 (.int .i64 u) (.int .i64 v)
              have m2 := And.intro ((hSS.1.set h2.out 0 (.int .i64 u)).set h2.out 1 (.int .i64 v)) (And.intro (hSS.2.1.otA2 n7_2.out (.int .i64 u) (.int .i64 v)) (hSS.2.2.otA2 n8_2.out (.int .i64 u) (.int .i64 v)))
              replace X3 := Lib.hid (X3.out.otA2 n3_2.out (.int .i64 u) (.int .i64 v))
              replace X2 := Lib.hid hZ
              refine hK _ _ (fun _ => m2) ?_
              clear hK K hSS hZ z0 z1 y0 y1
              have hSS := m2
              clear m2
              try simp only [List.getElem_toArray, List.getElem_cons_succ, List.getElem_cons_zero, Act.put, List.setIfInBounds_toArray, List.set_cons_zero, List.set_cons_succ]
              refine wpAnyM_one (i := 8) rfl (by kernel_rfl) rfl (fun K hK => ?_)
              have z0 := X3.out.p0
              have z1 := X3.out.p1
              have y0 := X3.out.free 0
              have y1 := X3.out.free 1
              go_simp
              have hZ := X3.out.st2 (.int .i64 (-u)) (.int .i64 (-v))
              have m2 := And.intro ((hSS.1.set h3.out 0 (.int .i64 (-u))).set h3.out 1 (.int .i64 (-v))) (And.intro (hSS.2.1.otA2 n7_3.out (.int .i64 (-u)) (.int .i64 (-v))) (hSS.2.2.otA2 n8_3.out (.int .i64 (-u)) (.int .i64 (-v))))
              replace X2 := Lib.hid (X2.out.otA2 m3_2.out (.int .i64 (-u)) (.int .i64 (-v)))
              replace X3 := Lib.hid hZ
              refine hK _ _ (fun _ => m2) ?_
              clear hK K hSS hZ z0 z1 y0 y1
              have hSS := m2
              clear m2
              try simp only [List.getElem_toArray, List.getElem_cons_succ, List.getElem_cons_zero, Act.put, List.setIfInBounds_toArray, List.set_cons_zero, List.set_cons_succ]
              refine wpAnyM_one (i := 9) rfl (by kernel_rfl) rfl (fun K hK => ?_)
              go_simp
              refine hK _ _ (fun _ => hSS) ?_
              clear hK K
              try simp only [List.getElem_toArray, List.getElem_cons_succ, List.getElem_cons_zero, Act.put, List.setIfInBounds_toArray, List.set_cons_zero, List.set_cons_succ]
              refine wpAnyM_one (i := 10) rfl (by kernel_rfl) rfl (fun K hK => ?_)
              go_simp
              refine hK _ _ (fun h => absurd h (by decide)) ?_
              clear hK K
              try simp only [List.getElem_toArray, List.getElem_cons_succ, List.getElem_cons_zero, Act.put, List.setIfInBounds_toArray, List.set_cons_zero, List.set_cons_succ]
              refine wpAnyM_done (by kernel_rfl) ?_ _
              go_wp2
              have c2_0 := X2.out.p0
              have c2_1 := X2.out.p1
              have c3_0 := X3.out.p0
              have c3_1 := X3.out.p1
              exact bodyPost_ret (v := .tuple #[.agg #[.int .i64 u, .int .i64 v], .agg #[.int .i64 (-u), .int .i64 (-v)], .bool false, .bool okk]) (by simp [results, Try.results67, go_sem, c2_0, c2_1, c3_0, c3_1]) rfl (by show SpkR w0 w B tv zs _ _; unfold SpkR; exact ⟨⟨u, v, (-u), (-v), false, okk, rfl, by omega, by omega, by omega, by omega, fun hk => AG.out hk⟩, ⟨hSS.1.t, HM.out.g.trans hSS.1.g, HM.out.b⟩, hSS.1.g⟩)
            · have z0 := X2.out.p0
              have z1 := X2.out.p1
              have y0 := X2.out.free 0
              have y1 := X2.out.free 1
              go_simp
              have hZ := X2.out.st2 (.int .i64 u) (.int .i64 v)
              have m2 := And.intro ((hSS.1.set h2.out 0 (.int .i64 u)).set h2.out 1 (.int .i64 v)) (And.intro (hSS.2.1.otA2 n7_2.out (.int .i64 u) (.int .i64 v)) (hSS.2.2.otA2 n8_2.out (.int .i64 u) (.int .i64 v)))
              replace X3 := Lib.hid (X3.out.otA2 n3_2.out (.int .i64 u) (.int .i64 v))
              replace X2 := Lib.hid hZ
              refine hK _ _ (fun _ => m2) ?_
              clear hK K hSS hZ z0 z1 y0 y1
              have hSS := m2
              clear m2
              try simp only [List.getElem_toArray, List.getElem_cons_succ, List.getElem_cons_zero, Act.put, List.setIfInBounds_toArray, List.set_cons_zero, List.set_cons_succ]
              refine wpAnyM_one (i := 1) rfl (by kernel_rfl) rfl (fun K hK => ?_)
              have z0 := hSS.2.2.p0
              have z1 := hSS.2.2.p1
              go_simp
              refine hK _ _ (fun _ => hSS) ?_
              clear hK K z0 z1
              try simp only [List.getElem_toArray, List.getElem_cons_succ, List.getElem_cons_zero, Act.put, List.setIfInBounds_toArray, List.set_cons_zero, List.set_cons_succ]
              refine wpAnyM_one (i := 8) rfl (by kernel_rfl) rfl (fun K hK => ?_)
              have z0 := X3.out.p0
              have z1 := X3.out.p1
              have y0 := X3.out.free 0
              have y1 := X3.out.free 1
              go_simp
              have hZ := X3.out.st2 (.int .i64 (-u)) (.int .i64 (-v))
              have m2 := And.intro ((hSS.1.set h3.out 0 (.int .i64 (-u))).set h3.out 1 (.int .i64 (-v))) (And.intro (hSS.2.1.otA2 n7_3.out (.int .i64 (-u)) (.int .i64 (-v))) (hSS.2.2.otA2 n8_3.out (.int .i64 (-u)) (.int .i64 (-v))))
              replace X2 := Lib.hid (X2.out.otA2 m3_2.out (.int .i64 (-u)) (.int .i64 (-v)))
              replace X3 := Lib.hid hZ
              refine hK _ _ (fun _ => m2) ?_
              clear hK K hSS hZ z0 z1 y0 y1
              have hSS := m2
              clear m2
              try simp only [List.getElem_toArray, List.getElem_cons_succ, List.getElem_cons_zero, Act.put, List.setIfInBounds_toArray, List.set_cons_zero, List.set_cons_succ]
              refine wpAnyM_one (i := 9) rfl (by kernel_rfl) rfl (fun K hK => ?_)
              go_simp
              refine hK _ _ (fun _ => hSS) ?_
              clear hK K
              try simp only [List.getElem_toArray, List.getElem_cons_succ, List.getElem_cons_zero, Act.put, List.setIfInBounds_toArray, List.set_cons_zero, List.set_cons_succ]
              refine wpAnyM_one (i := 10) rfl (by kernel_rfl) rfl (fun K hK => ?_)
              go_simp
              refine hK _ _ (fun h => absurd h (by decide)) ?_
              clear hK K
              try simp only [List.getElem_toArray, List.getElem_cons_succ, List.getElem_cons_zero, Act.put, List.setIfInBounds_toArray, List.set_cons_zero, List.set_cons_succ]
              refine wpAnyM_done (by kernel_rfl) ?_ _
              go_wp2
              have c2_0 := X2.out.p0
              have c2_1 := X2.out.p1
              have c3_0 := X3.out.p0
              have c3_1 := X3.out.p1
              exact bodyPost_ret (v := .tuple #[.agg #[.int .i64 u, .int .i64 v], .agg #[.int .i64 (-u), .int .i64 (-v)], .bool false, .bool okk]) (by simp [results, Try.results67, go_sem, c2_0, c2_1, c3_0, c3_1]) rfl (by show SpkR w0 w B tv zs _ _; unfold SpkR; exact ⟨⟨u, v, (-u), (-v), false, okk, rfl, by omega, by omega, by omega, by omega, fun hk => AG.out hk⟩, ⟨hSS.1.t, HM.out.g.trans hSS.1.g, HM.out.b⟩, hSS.1.g⟩)
    · go_upto_region 9 with fail
      go_upto_region 11 with fail
      go_upto_region 12 with fail
      have c7_0 := X7.out.p0
      have c7_1 := X7.out.p1
      go_upto_region 13 with (go_big_may; ((with_reducible refine sg_pt (x := ?_) (y := ?_) 8 53 ?_ ?_ X8.out ?_); rotate_left 2; (rfl); (rfl); intro w10 xx ss; replace X2 := Lib.hid (ss.oth m8_2.out X2.out); replace X3 := Lib.hid (ss.oth m8_3.out X3.out); replace X7 := Lib.hid (ss.oth m8_7.out X7.out); replace MM := Lib.hid (ss.tm MM.out h8.out); replace X8 := Lib.hid xx; clear xx ss))
      clear c7_0 c7_1
      by_cases e8 : f8 = 0
      · have z8 : (f8 == 0) = true := by simpa using e8
        clear e8
        go_upto_region 14 with fail
        go_upto_region 17 with (go_big_may; (first | ((with_reducible refine ld_pt 7 ?_ X7.out ?_); (rfl)) | ((with_reducible refine sg_pt (x := ?_) (y := ?_) 8 55 ?_ ?_ X8.out ?_); rotate_left 2; (rfl); (rfl); intro w11 xx ss; replace X2 := Lib.hid (ss.oth m8_2.out X2.out); replace X3 := Lib.hid (ss.oth m8_3.out X3.out); replace X7 := Lib.hid (ss.oth m8_7.out X7.out); replace MM := Lib.hid (ss.tm MM.out h8.out); replace X8 := Lib.hid xx; clear xx ss)))
        have ft := fun w' => arFit u v u v true (by omega) (by omega) (by omega) (by omega) (by omega) (by omega) (by omega) (by omega) w'
        have AG := Lib.hid (agr_of u v u v true)
        generalize ok : (Ac.fit (Ac.inn u v u v) (Ac.inn u v u v) && Ac.agr true u v u v) = okk at *
        have FT := Lib.hid ft
        have OK := Lib.hid ok
        clear ft ok
        try simp only [List.getElem_toArray, List.getElem_cons_succ, List.getElem_cons_zero, Act.put, List.setIfInBounds_toArray, List.set_cons_zero, List.set_cons_succ]
        refine wp_region_M (fun wS => Tm w B tv zs wS ∧ Bx wS B7 #[.int .i64 u, .int .i64 v] 32 ∧ Bx wS B8 #[.int .i64 u, .int .i64 v] 32) 10 (by kernel_rfl) ?_
        have hSS : (fun wS => Tm w B tv zs wS ∧ Bx wS B7 #[.int .i64 u, .int .i64 v] 32 ∧ Bx wS B8 #[.int .i64 u, .int .i64 v] 32) (World.drew _) := ⟨MM.out.new (qw_drew1 _), X7.out.kept (qw_drew1 _), X8.out.kept (qw_drew1 _)⟩
        replace X2 := Lib.hid (X2.out.kept (qw_drew1 _))
        replace X3 := Lib.hid (X3.out.kept (qw_drew1 _))
        refine wpM_named (S' := fun wS => (fun wS => Tm w B tv zs wS ∧ Bx wS B7 #[.int .i64 u, .int .i64 v] 32 ∧ Bx wS B8 #[.int .i64 u, .int .i64 v] 32) wS ∧ Bx wS B2 #[.int .i64 0, .int .i64 0] 32 ∧ Bx wS B3 #[.int .i64 0, .int .i64 0] 32) ⟨hSS, X2.out, X3.out⟩ ?_
        clear X2 X3 hSS MM X7 X8
        rintro wd ⟨hSS, x2, x3⟩
        have X2 := Lib.hid x2
        have X3 := Lib.hid x3
        clear x2 x3
        refine wpAnyM_take (i := 0) (v := ?_) rfl (by kernel_rfl) (fun _ _ _ h => h) (Or.inl ⟨by rfl, ?_⟩) hSS ?_
        rotate_left 1
        · intro wS hwS
          have y0 := hwS.2.1.p0; have y1 := hwS.2.1.p1; go_simp
          try with_reducible rfl
        simp only [List.getElem_toArray, List.getElem_cons_succ, List.getElem_cons_zero, Act.put, List.setIfInBounds_toArray, List.set_cons_zero, List.set_cons_succ]
        refine wpAnyM_take (i := 2) (v := ?_) rfl (by kernel_rfl) (fun _ _ _ h => h) (Or.inl ⟨by rfl, ?_⟩) hSS ?_
        rotate_left 1
        · intro wS hwS
          go_simp
          try with_reducible rfl
        simp only [List.getElem_toArray, List.getElem_cons_succ, List.getElem_cons_zero, Act.put, List.setIfInBounds_toArray, List.set_cons_zero, List.set_cons_succ]
        refine wpAnyM_takeT (i := 3) (v := ?_) [6, 7, 8, 9, 10] [] rfl (by kernel_rfl) (fun _ _ _ h => h) (Or.inl ⟨by rfl, ?_⟩) hSS ?_
        rotate_left 1
        · intro wS hwS
          have y0 := hwS.2.1.p0; have y1 := hwS.2.1.p1; go_simp
          try with_reducible rfl
        simp only [List.getElem_toArray, List.getElem_cons_succ, List.getElem_cons_zero, Act.put, List.setIfInBounds_toArray, List.set_cons_zero, List.set_cons_succ]
        refine wpAnyM_takeT (i := 4) (v := ?_) [6, 7, 8, 9, 10] [] rfl (by kernel_rfl) (fun _ _ _ h => h) (Or.inl ⟨by rfl, ?_⟩) hSS ?_
        rotate_left 1
        · intro wS hwS
          have y0 := hwS.2.2.p0; have y1 := hwS.2.2.p1; go_simp
          try with_reducible rfl
        simp only [List.getElem_toArray, List.getElem_cons_succ, List.getElem_cons_zero, Act.put, List.setIfInBounds_toArray, List.set_cons_zero, List.set_cons_succ]
        refine wpAnyM_take (i := 5) (v := ?_) rfl (by kernel_rfl) (fun _ _ _ h => h) (Or.inl ⟨by rfl, ?_⟩) hSS ?_
        rotate_left 1
        · intro wS hwS
          go_simp
          try with_reducible rfl
        simp only [List.getElem_toArray, List.getElem_cons_succ, List.getElem_cons_zero, Act.put, List.setIfInBounds_toArray, List.set_cons_zero, List.set_cons_succ]
        refine wpAnyM_two (i := 1) (j := 6) rfl rfl (by kernel_rfl) rfl rfl (fun K hK => ?_) (fun K hK => ?_)
        · have z0 := hSS.2.2.p0
          have z1 := hSS.2.2.p1
          go_simp
          refine hK _ _ (fun _ => hSS) ?_
          clear hK K z0 z1
          try simp only [List.getElem_toArray, List.getElem_cons_succ, List.getElem_cons_zero, Act.put, List.setIfInBounds_toArray, List.set_cons_zero, List.set_cons_succ]
          refine wpAnyM_one (i := 6) rfl (by kernel_rfl) rfl (fun K hK => ?_)
          go_simp
          refine (FT.out _).mono ?_
          rintro e wE ⟨rfl, qq⟩
          have m2 : (fun wS => Tm w B tv zs wS ∧ Bx wS B7 #[.int .i64 u, .int .i64 v] 32 ∧ Bx wS B8 #[.int .i64 u, .int .i64 v] 32) wE := ⟨hSS.1.new qq, hSS.2.1.kept qq, hSS.2.2.kept qq⟩
          replace X2 := Lib.hid (X2.out.kept qq)
          replace X3 := Lib.hid (X3.out.kept qq)
          refine hK _ _ (fun _ => m2) ?_
          clear hK K hSS qq
          have hSS := m2
          clear m2
          try simp only [List.getElem_toArray, List.getElem_cons_succ, List.getElem_cons_zero, Act.put, List.setIfInBounds_toArray, List.set_cons_zero, List.set_cons_succ]
          refine wpAnyM_one (i := 7) rfl (by kernel_rfl) rfl (fun K hK => ?_)
          have z0 := X2.out.p0
          have z1 := X2.out.p1
          have y0 := X2.out.free 0
          have y1 := X2.out.free 1
          go_simp
          have hZ := X2.out.st2 (.int .i64 u) (.int .i64 v)
          have m2 := And.intro ((hSS.1.set h2.out 0 (.int .i64 u)).set h2.out 1 (.int .i64 v)) (And.intro (hSS.2.1.otA2 n7_2.out (.int .i64 u) (.int .i64 v)) (hSS.2.2.otA2 n8_2.out (.int .i64 u) (.int .i64 v)))
          replace X3 := Lib.hid (X3.out.otA2 n3_2.out (.int .i64 u) (.int .i64 v))
          replace X2 := Lib.hid hZ
          refine hK _ _ (fun _ => m2) ?_
          clear hK K hSS hZ z0 z1 y0 y1
          have hSS := m2
          clear m2
          try simp only [List.getElem_toArray, List.getElem_cons_succ, List.getElem_cons_zero, Act.put, List.setIfInBounds_toArray, List.set_cons_zero, List.set_cons_succ]
          refine wpAnyM_one (i := 8) rfl (by kernel_rfl) rfl (fun K hK => ?_)
          have z0 := X3.out.p0
          have z1 := X3.out.p1
          have y0 := X3.out.free 0
          have y1 := X3.out.free 1
          go_simp
          have hZ := X3.out.st2 (.int .i64 u) (.int .i64 v)
          have m2 := And.intro ((hSS.1.set h3.out 0 (.int .i64 u)).set h3.out 1 (.int .i64 v)) (And.intro (hSS.2.1.otA2 n7_3.out (.int .i64 u) (.int .i64 v)) (hSS.2.2.otA2 n8_3.out (.int .i64 u) (.int .i64 v)))
          replace X2 := Lib.hid (X2.out.otA2 m3_2.out (.int .i64 u) (.int .i64 v))
          replace X3 := Lib.hid hZ
          refine hK _ _ (fun _ => m2) ?_
          clear hK K hSS hZ z0 z1 y0 y1
          have hSS := m2
          clear m2
          try simp only [List.getElem_toArray, List.getElem_cons_succ, List.getElem_cons_zero, Act.put, List.setIfInBounds_toArray, List.set_cons_zero, List.set_cons_succ]
          refine wpAnyM_one (i := 9) rfl (by kernel_rfl) rfl (fun K hK => ?_)
          go_simp
          refine hK _ _ (fun _ => hSS) ?_
          clear hK K
          try simp only [List.getElem_toArray, List.getElem_cons_succ, List.getElem_cons_zero, Act.put, List.setIfInBounds_toArray, List.set_cons_zero, List.set_cons_succ]
          refine wpAnyM_one (i := 10) rfl (by kernel_rfl) rfl (fun K hK => ?_)
          go_simp
          refine hK _ _ (fun h => absurd h (by decide)) ?_
          clear hK K
          try simp only [List.getElem_toArray, List.getElem_cons_succ, List.getElem_cons_zero, Act.put, List.setIfInBounds_toArray, List.set_cons_zero, List.set_cons_succ]
          refine wpAnyM_done (by kernel_rfl) ?_ _
          go_wp2
          have c2_0 := X2.out.p0
          have c2_1 := X2.out.p1
          have c3_0 := X3.out.p0
          have c3_1 := X3.out.p1
          exact bodyPost_ret (v := .tuple #[.agg #[.int .i64 u, .int .i64 v], .agg #[.int .i64 u, .int .i64 v], .bool true, .bool okk]) (by simp [results, Try.results67, go_sem, c2_0, c2_1, c3_0, c3_1]) rfl (by show SpkR w0 w B tv zs _ _; unfold SpkR; exact ⟨⟨u, v, u, v, true, okk, rfl, by omega, by omega, by omega, by omega, fun hk => AG.out hk⟩, ⟨hSS.1.t, HM.out.g.trans hSS.1.g, HM.out.b⟩, hSS.1.g⟩)
        · go_simp
          refine (FT.out _).mono ?_
          rintro e wE ⟨rfl, qq⟩
          have m2 : (fun wS => Tm w B tv zs wS ∧ Bx wS B7 #[.int .i64 u, .int .i64 v] 32 ∧ Bx wS B8 #[.int .i64 u, .int .i64 v] 32) wE := ⟨hSS.1.new qq, hSS.2.1.kept qq, hSS.2.2.kept qq⟩
          replace X2 := Lib.hid (X2.out.kept qq)
          replace X3 := Lib.hid (X3.out.kept qq)
          refine hK _ _ (fun _ => m2) ?_
          clear hK K hSS qq
          have hSS := m2
          clear m2
          try simp only [List.getElem_toArray, List.getElem_cons_succ, List.getElem_cons_zero, Act.put, List.setIfInBounds_toArray, List.set_cons_zero, List.set_cons_succ]
          refine wpAnyM_two (i := 1) (j := 7) rfl rfl (by kernel_rfl) rfl rfl (fun K hK => ?_) (fun K hK => ?_)
          · have z0 := hSS.2.2.p0
            have z1 := hSS.2.2.p1
            go_simp
            refine hK _ _ (fun _ => hSS) ?_
            clear hK K z0 z1
            try simp only [List.getElem_toArray, List.getElem_cons_succ, List.getElem_cons_zero, Act.put, List.setIfInBounds_toArray, List.set_cons_zero, List.set_cons_succ]
            refine wpAnyM_one (i := 7) rfl (by kernel_rfl) rfl (fun K hK => ?_)
            have z0 := X2.out.p0
            have z1 := X2.out.p1
            have y0 := X2.out.free 0
            have y1 := X2.out.free 1
            go_simp
            have hZ := X2.out.st2 (.int .i64 u) (.int .i64 v)
            have m2 := And.intro ((hSS.1.set h2.out 0 (.int .i64 u)).set h2.out 1 (.int .i64 v)) (And.intro (hSS.2.1.otA2 n7_2.out (.int .i64 u) (.int .i64 v)) (hSS.2.2.otA2 n8_2.out (.int .i64 u) (.int .i64 v)))
            replace X3 := Lib.hid (X3.out.otA2 n3_2.out (.int .i64 u) (.int .i64 v))
            replace X2 := Lib.hid hZ
            refine hK _ _ (fun _ => m2) ?_
            clear hK K hSS hZ z0 z1 y0 y1
            have hSS := m2
            clear m2
            try simp only [List.getElem_toArray, List.getElem_cons_succ, List.getElem_cons_zero, Act.put, List.setIfInBounds_toArray, List.set_cons_zero, List.set_cons_succ]
            refine wpAnyM_one (i := 8) rfl (by kernel_rfl) rfl (fun K hK => ?_)
            have z0 := X3.out.p0
            have z1 := X3.out.p1
            have y0 := X3.out.free 0
            have y1 := X3.out.free 1
            go_simp
            have hZ := X3.out.st2 (.int .i64 u) (.int .i64 v)
            have m2 := And.intro ((hSS.1.set h3.out 0 (.int .i64 u)).set h3.out 1 (.int .i64 v)) (And.intro (hSS.2.1.otA2 n7_3.out (.int .i64 u) (.int .i64 v)) (hSS.2.2.otA2 n8_3.out (.int .i64 u) (.int .i64 v)))
            replace X2 := Lib.hid (X2.out.otA2 m3_2.out (.int .i64 u) (.int .i64 v))
            replace X3 := Lib.hid hZ
            refine hK _ _ (fun _ => m2) ?_
            clear hK K hSS hZ z0 z1 y0 y1
            have hSS := m2
            clear m2
            try simp only [List.getElem_toArray, List.getElem_cons_succ, List.getElem_cons_zero, Act.put, List.setIfInBounds_toArray, List.set_cons_zero, List.set_cons_succ]
            refine wpAnyM_one (i := 9) rfl (by kernel_rfl) rfl (fun K hK => ?_)
            go_simp
            refine hK _ _ (fun _ => hSS) ?_
            clear hK K
            try simp only [List.getElem_toArray, List.getElem_cons_succ, List.getElem_cons_zero, Act.put, List.setIfInBounds_toArray, List.set_cons_zero, List.set_cons_succ]
            refine wpAnyM_one (i := 10) rfl (by kernel_rfl) rfl (fun K hK => ?_)
            go_simp
            refine hK _ _ (fun h => absurd h (by decide)) ?_
            clear hK K
            try simp only [List.getElem_toArray, List.getElem_cons_succ, List.getElem_cons_zero, Act.put, List.setIfInBounds_toArray, List.set_cons_zero, List.set_cons_succ]
            refine wpAnyM_done (by kernel_rfl) ?_ _
            go_wp2
            have c2_0 := X2.out.p0
            have c2_1 := X2.out.p1
            have c3_0 := X3.out.p0
            have c3_1 := X3.out.p1
            exact bodyPost_ret (v := .tuple #[.agg #[.int .i64 u, .int .i64 v], .agg #[.int .i64 u, .int .i64 v], .bool true, .bool okk]) (by simp [results, Try.results67, go_sem, c2_0, c2_1, c3_0, c3_1]) rfl (by show SpkR w0 w B tv zs _ _; unfold SpkR; exact ⟨⟨u, v, u, v, true, okk, rfl, by omega, by omega, by omega, by omega, fun hk => AG.out hk⟩, ⟨hSS.1.t, HM.out.g.trans hSS.1.g, HM.out.b⟩, hSS.1.g⟩)
          · have z0 := X2.out.p0
            have z1 := X2.out.p1
            have y0 := X2.out.free 0
            have y1 := X2.out.free 1
            go_simp
            have hZ := X2.out.st2 (.int .i64 u) (.int .i64 v)
            have m2 := And.intro ((hSS.1.set h2.out 0 (.int .i64 u)).set h2.out 1 (.int .i64 v)) (And.intro (hSS.2.1.otA2 n7_2.out (.int .i64 u) (.int .i64 v)) (hSS.2.2.otA2 n8_2.out (.int .i64 u) (.int .i64 v)))
            replace X3 := Lib.hid (X3.out.otA2 n3_2.out (.int .i64 u) (.int .i64 v))
            replace X2 := Lib.hid hZ
            refine hK _ _ (fun _ => m2) ?_
            clear hK K hSS hZ z0 z1 y0 y1
            have hSS := m2
            clear m2
            try simp only [List.getElem_toArray, List.getElem_cons_succ, List.getElem_cons_zero, Act.put, List.setIfInBounds_toArray, List.set_cons_zero, List.set_cons_succ]
            refine wpAnyM_one (i := 1) rfl (by kernel_rfl) rfl (fun K hK => ?_)
            have z0 := hSS.2.2.p0
            have z1 := hSS.2.2.p1
            go_simp
            refine hK _ _ (fun _ => hSS) ?_
            clear hK K z0 z1
            try simp only [List.getElem_toArray, List.getElem_cons_succ, List.getElem_cons_zero, Act.put, List.setIfInBounds_toArray, List.set_cons_zero, List.set_cons_succ]
            refine wpAnyM_one (i := 8) rfl (by kernel_rfl) rfl (fun K hK => ?_)
            have z0 := X3.out.p0
            have z1 := X3.out.p1
            have y0 := X3.out.free 0
            have y1 := X3.out.free 1
            go_simp
            have hZ := X3.out.st2 (.int .i64 u) (.int .i64 v)
            have m2 := And.intro ((hSS.1.set h3.out 0 (.int .i64 u)).set h3.out 1 (.int .i64 v)) (And.intro (hSS.2.1.otA2 n7_3.out (.int .i64 u) (.int .i64 v)) (hSS.2.2.otA2 n8_3.out (.int .i64 u) (.int .i64 v)))
            replace X2 := Lib.hid (X2.out.otA2 m3_2.out (.int .i64 u) (.int .i64 v))
            replace X3 := Lib.hid hZ
            refine hK _ _ (fun _ => m2) ?_
            clear hK K hSS hZ z0 z1 y0 y1
            have hSS := m2
            clear m2
            try simp only [List.getElem_toArray, List.getElem_cons_succ, List.getElem_cons_zero, Act.put, List.setIfInBounds_toArray, List.set_cons_zero, List.set_cons_succ]
            refine wpAnyM_one (i := 9) rfl (by kernel_rfl) rfl (fun K hK => ?_)
            go_simp
            refine hK _ _ (fun _ => hSS) ?_
            clear hK K
            try simp only [List.getElem_toArray, List.getElem_cons_succ, List.getElem_cons_zero, Act.put, List.setIfInBounds_toArray, List.set_cons_zero, List.set_cons_succ]
            refine wpAnyM_one (i := 10) rfl (by kernel_rfl) rfl (fun K hK => ?_)
            go_simp
            refine hK _ _ (fun h => absurd h (by decide)) ?_
            clear hK K
            try simp only [List.getElem_toArray, List.getElem_cons_succ, List.getElem_cons_zero, Act.put, List.setIfInBounds_toArray, List.set_cons_zero, List.set_cons_succ]
            refine wpAnyM_done (by kernel_rfl) ?_ _
            go_wp2
            have c2_0 := X2.out.p0
            have c2_1 := X2.out.p1
            have c3_0 := X3.out.p0
            have c3_1 := X3.out.p1
            exact bodyPost_ret (v := .tuple #[.agg #[.int .i64 u, .int .i64 v], .agg #[.int .i64 u, .int .i64 v], .bool true, .bool okk]) (by simp [results, Try.results67, go_sem, c2_0, c2_1, c3_0, c3_1]) rfl (by show SpkR w0 w B tv zs _ _; unfold SpkR; exact ⟨⟨u, v, u, v, true, okk, rfl, by omega, by omega, by omega, by omega, fun hk => AG.out hk⟩, ⟨hSS.1.t, HM.out.g.trans hSS.1.g, HM.out.b⟩, hSS.1.g⟩)
      · have z8 : (f8 == 0) = false := beq_eq_false_iff_ne.2 e8
        clear e8
        go_upto_region 15 with fail
        go_upto_if 58 with (go_at_call 69; ((with_reducible refine (NX.out 3 (by decide) (by decide) _ MM.out).mono ?_); rintro e w8 ⟨⟨g3, rfl, g31, g32⟩, mm, gg⟩; replace X2 := Lib.hid (X2.out.grM gg (MM.out.nt h2.out)); replace X3 := Lib.hid (X3.out.grM gg (MM.out.nt h3.out)); replace X7 := Lib.hid (X7.out.grM gg (MM.out.nt h7.out)); replace X8 := Lib.hid (X8.out.grM gg (MM.out.nt h8.out)); replace MM := Lib.hid mm; clear mm gg))
        by_cases e3 : g3 = 0
        · have z3 : (g3 == 0) = true := by simpa using e3
          clear e3 g31 g32
          go_upto_region 16 with fail
          have EW := Lib.hid (fun n (h1 : -2 ≤ n) (h2 : n ≤ 2) => IntWalk.i64_in (v + n) (by omega))
          try simp only [List.getElem_toArray, List.getElem_cons_succ, List.getElem_cons_zero, Act.put, List.setIfInBounds_toArray, List.set_cons_zero, List.set_cons_succ]
          refine wp_region_M (fun wS => Tm w B tv zs wS ∧ Bx wS B8 #[.int .i64 v, .int .i64 u] 32 ∧ Bx wS B7 #[.int .i64 u, .int .i64 v] 32 ∧ Bx wS B2 #[.int .i64 0, .int .i64 0] 32 ∧ Bx wS B3 #[.int .i64 0, .int .i64 0] 32) 6 (by kernel_rfl) ?_
          have hSS : (fun wS => Tm w B tv zs wS ∧ Bx wS B8 #[.int .i64 v, .int .i64 u] 32 ∧ Bx wS B7 #[.int .i64 u, .int .i64 v] 32 ∧ Bx wS B2 #[.int .i64 0, .int .i64 0] 32 ∧ Bx wS B3 #[.int .i64 0, .int .i64 0] 32) (World.drew _) := ⟨MM.out.new (qw_drew1 _), X8.out.kept (qw_drew1 _), X7.out.kept (qw_drew1 _), X2.out.kept (qw_drew1 _), X3.out.kept (qw_drew1 _)⟩
          skip
          refine wpM_named (S' := fun wS => Tm w B tv zs wS ∧ Bx wS B8 #[.int .i64 v, .int .i64 u] 32 ∧ Bx wS B7 #[.int .i64 u, .int .i64 v] 32 ∧ Bx wS B2 #[.int .i64 0, .int .i64 0] 32 ∧ Bx wS B3 #[.int .i64 0, .int .i64 0] 32) hSS ?_
          intro wd hSS
          refine wpAnyM_take (i := 0) (v := ?_) rfl (by kernel_rfl) (fun _ _ _ h => h) (Or.inl ⟨by rfl, ?_⟩) hSS ?_
          rotate_left 1
          · intro wS hwS
            go_simp
            try with_reducible rfl
          simp only [List.getElem_toArray, List.getElem_cons_succ, List.getElem_cons_zero, Act.put, List.setIfInBounds_toArray, List.set_cons_zero, List.set_cons_succ]
          refine wpAnyM_take (i := 1) (v := ?_) rfl (by kernel_rfl) (fun _ _ _ h => h) (Or.inl ⟨by rfl, ?_⟩) hSS ?_
          rotate_left 1
          · intro wS hwS
            have y0 := (hwS.2.1).p0; go_simp
            try with_reducible rfl
          simp only [List.getElem_toArray, List.getElem_cons_succ, List.getElem_cons_zero, Act.put, List.setIfInBounds_toArray, List.set_cons_zero, List.set_cons_succ]
          refine wpAnyM_take (i := 2) (v := ?_) rfl (by kernel_rfl) (fun _ _ _ h => h) (Or.inl ⟨by rfl, ?_⟩) hSS ?_
          rotate_left 1
          · intro wS hwS
            go_simp
            try with_reducible rfl
          simp only [List.getElem_toArray, List.getElem_cons_succ, List.getElem_cons_zero, Act.put, List.setIfInBounds_toArray, List.set_cons_zero, List.set_cons_succ]
          refine wpAnyM_one (i := 3) rfl (by kernel_rfl) rfl (fun K hK => ?_)
          go_simp
          refine (RG.out (-2) 2 (by decide) (by decide) (by decide) _ hSS.1).mono ?_
          rintro e wE ⟨⟨kk3, rfl, kk1, kk2⟩, mm, gg⟩
          have m2 : (fun wS => Tm w B tv zs wS ∧ Bx wS B8 #[.int .i64 v, .int .i64 u] 32 ∧ Bx wS B7 #[.int .i64 u, .int .i64 v] 32 ∧ Bx wS B2 #[.int .i64 0, .int .i64 0] 32 ∧ Bx wS B3 #[.int .i64 0, .int .i64 0] 32) wE := ⟨mm, (hSS.2.1).grM gg (hSS.1.nt h8.out), (hSS.2.2.1).grM gg (hSS.1.nt h7.out), (hSS.2.2.2.1).grM gg (hSS.1.nt h2.out), (hSS.2.2.2.2).grM gg (hSS.1.nt h3.out)⟩
          clear mm gg
          refine hK _ _ (fun _ => m2) ?_
          clear hK K hSS
          have hSS := m2
          clear m2
          try simp only [List.getElem_toArray, List.getElem_cons_succ, List.getElem_cons_zero, Act.put, List.setIfInBounds_toArray, List.set_cons_zero, List.set_cons_succ]
          refine wpAnyM_take (i := 4) (v := ?_) rfl (by kernel_rfl) (fun _ _ _ h => h) (Or.inl ⟨by rfl, ?_⟩) hSS ?_
          rotate_left 1
          · intro wS hwS
            have ew := EW.out kk3 kk1 kk2; go_simp
            try with_reducible rfl
          simp only [List.getElem_toArray, List.getElem_cons_succ, List.getElem_cons_zero, Act.put, List.setIfInBounds_toArray, List.set_cons_zero, List.set_cons_succ]
          refine wpAnyM_take (i := 5) (v := ?_) rfl (by kernel_rfl) (fun _ _ _ h => h) (Or.inl ⟨by rfl, ?_⟩) hSS ?_
          rotate_left 1
          · intro wS hwS
            go_simp
            try with_reducible rfl
          simp only [List.getElem_toArray, List.getElem_cons_succ, List.getElem_cons_zero, Act.put, List.setIfInBounds_toArray, List.set_cons_zero, List.set_cons_succ]
          refine wpAnyM_one (i := 6) rfl (by kernel_rfl) rfl (fun K hK => ?_)
          have z0 := (hSS.2.1).p0
          have y0 := (hSS.2.1).free 0
          go_simp
          have MM2 := Lib.hid (hSS.1.set h8.out 0 (.int .i64 (v + kk3)))
          have X82 := Lib.hid ((hSS.2.1).set 0 (.int .i64 (v + kk3)))
          have X72 := Lib.hid ((hSS.2.2.1).other (a := ⟨B8, 0, none⟩) (by first | exact (n7_8).out | exact (m8_7).out) (.int .i64 (v + kk3)))
          have X22 := Lib.hid ((hSS.2.2.2.1).other (a := ⟨B8, 0, none⟩) (by first | exact (n2_8).out | exact (m8_2).out) (.int .i64 (v + kk3)))
          have X32 := Lib.hid ((hSS.2.2.2.2).other (a := ⟨B8, 0, none⟩) (by first | exact (n3_8).out | exact (m8_3).out) (.int .i64 (v + kk3)))
          refine hK _ _ (fun h => absurd h (by decide)) ?_
          clear hK K hSS z0 y0
          try simp only [List.getElem_toArray, List.getElem_cons_succ, List.getElem_cons_zero, Act.put, List.setIfInBounds_toArray, List.set_cons_zero, List.set_cons_succ]
          refine wpAnyM_done (by kernel_rfl) ?_ _
          clear MM X8 X7 X2 X3
          generalize World.setCell wE ⟨B8, 0, none⟩ (.int .i64 (v + kk3)) = wF at *
          have MM := MM2
          have X8 : Hid (Bx wF B8 #[.int .i64 (v + kk3), .int .i64 u] 32) := X82
          have X7 := X72
          have X2 := X22
          have X3 := X32
          clear MM2 X82 X72 X22 X32
          go_upto_region 17 with fail
          have ft := fun w' => arFit u v (v + kk3) u false (by omega) (by omega) (by omega) (by omega) (by omega) (by omega) (by omega) (by omega) w'
          have AG := Lib.hid (agr_of u v (v + kk3) u false)
          generalize ok : (Ac.fit (Ac.inn u v u v) (Ac.inn (v + kk3) u (v + kk3) u) && Ac.agr false u v (v + kk3) u) = okk at *
          have FT := Lib.hid ft
          have OK := Lib.hid ok
          clear ft ok
          try simp only [List.getElem_toArray, List.getElem_cons_succ, List.getElem_cons_zero, Act.put, List.setIfInBounds_toArray, List.set_cons_zero, List.set_cons_succ]
          refine wp_region_M (fun wS => Tm w B tv zs wS ∧ Bx wS B7 #[.int .i64 u, .int .i64 v] 32 ∧ Bx wS B8 #[.int .i64 (v + kk3), .int .i64 u] 32) 10 (by kernel_rfl) ?_
          have hSS : (fun wS => Tm w B tv zs wS ∧ Bx wS B7 #[.int .i64 u, .int .i64 v] 32 ∧ Bx wS B8 #[.int .i64 (v + kk3), .int .i64 u] 32) (World.drew _) := ⟨MM.out.new (qw_drew1 _), X7.out.kept (qw_drew1 _), X8.out.kept (qw_drew1 _)⟩
          replace X2 := Lib.hid (X2.out.kept (qw_drew1 _))
          replace X3 := Lib.hid (X3.out.kept (qw_drew1 _))
          refine wpM_named (S' := fun wS => (fun wS => Tm w B tv zs wS ∧ Bx wS B7 #[.int .i64 u, .int .i64 v] 32 ∧ Bx wS B8 #[.int .i64 (v + kk3), .int .i64 u] 32) wS ∧ Bx wS B2 #[.int .i64 0, .int .i64 0] 32 ∧ Bx wS B3 #[.int .i64 0, .int .i64 0] 32) ⟨hSS, X2.out, X3.out⟩ ?_
          clear X2 X3 hSS MM X7 X8
          rintro wd ⟨hSS, x2, x3⟩
          have X2 := Lib.hid x2
          have X3 := Lib.hid x3
          clear x2 x3
          refine wpAnyM_take (i := 0) (v := ?_) rfl (by kernel_rfl) (fun _ _ _ h => h) (Or.inl ⟨by rfl, ?_⟩) hSS ?_
          rotate_left 1
          · intro wS hwS
            have y0 := hwS.2.1.p0; have y1 := hwS.2.1.p1; go_simp
            try with_reducible rfl
          simp only [List.getElem_toArray, List.getElem_cons_succ, List.getElem_cons_zero, Act.put, List.setIfInBounds_toArray, List.set_cons_zero, List.set_cons_succ]
          refine wpAnyM_take (i := 2) (v := ?_) rfl (by kernel_rfl) (fun _ _ _ h => h) (Or.inl ⟨by rfl, ?_⟩) hSS ?_
          rotate_left 1
          · intro wS hwS
            go_simp
            try with_reducible rfl
          simp only [List.getElem_toArray, List.getElem_cons_succ, List.getElem_cons_zero, Act.put, List.setIfInBounds_toArray, List.set_cons_zero, List.set_cons_succ]
          refine wpAnyM_takeT (i := 3) (v := ?_) [6, 7, 8, 9, 10] [] rfl (by kernel_rfl) (fun _ _ _ h => h) (Or.inl ⟨by rfl, ?_⟩) hSS ?_
          rotate_left 1
          · intro wS hwS
            have y0 := hwS.2.1.p0; have y1 := hwS.2.1.p1; go_simp
            try with_reducible rfl
          simp only [List.getElem_toArray, List.getElem_cons_succ, List.getElem_cons_zero, Act.put, List.setIfInBounds_toArray, List.set_cons_zero, List.set_cons_succ]
          refine wpAnyM_takeT (i := 4) (v := ?_) [6, 7, 8, 9, 10] [] rfl (by kernel_rfl) (fun _ _ _ h => h) (Or.inl ⟨by rfl, ?_⟩) hSS ?_
          rotate_left 1
          · intro wS hwS
            have y0 := hwS.2.2.p0; have y1 := hwS.2.2.p1; go_simp
            try with_reducible rfl
          simp only [List.getElem_toArray, List.getElem_cons_succ, List.getElem_cons_zero, Act.put, List.setIfInBounds_toArray, List.set_cons_zero, List.set_cons_succ]
          refine wpAnyM_take (i := 5) (v := ?_) rfl (by kernel_rfl) (fun _ _ _ h => h) (Or.inl ⟨by rfl, ?_⟩) hSS ?_
          rotate_left 1
          · intro wS hwS
            go_simp
            try with_reducible rfl
          simp only [List.getElem_toArray, List.getElem_cons_succ, List.getElem_cons_zero, Act.put, List.setIfInBounds_toArray, List.set_cons_zero, List.set_cons_succ]
          refine wpAnyM_two (i := 1) (j := 6) rfl rfl (by kernel_rfl) rfl rfl (fun K hK => ?_) (fun K hK => ?_)
          · have z0 := hSS.2.2.p0
            have z1 := hSS.2.2.p1
            go_simp
            refine hK _ _ (fun _ => hSS) ?_
            clear hK K z0 z1
            try simp only [List.getElem_toArray, List.getElem_cons_succ, List.getElem_cons_zero, Act.put, List.setIfInBounds_toArray, List.set_cons_zero, List.set_cons_succ]
            refine wpAnyM_one (i := 6) rfl (by kernel_rfl) rfl (fun K hK => ?_)
            go_simp
            refine (FT.out _).mono ?_
            rintro e wE ⟨rfl, qq⟩
            have m2 : (fun wS => Tm w B tv zs wS ∧ Bx wS B7 #[.int .i64 u, .int .i64 v] 32 ∧ Bx wS B8 #[.int .i64 (v + kk3), .int .i64 u] 32) wE := ⟨hSS.1.new qq, hSS.2.1.kept qq, hSS.2.2.kept qq⟩
            replace X2 := Lib.hid (X2.out.kept qq)
            replace X3 := Lib.hid (X3.out.kept qq)
            refine hK _ _ (fun _ => m2) ?_
            clear hK K hSS qq
            have hSS := m2
            clear m2
            try simp only [List.getElem_toArray, List.getElem_cons_succ, List.getElem_cons_zero, Act.put, List.setIfInBounds_toArray, List.set_cons_zero, List.set_cons_succ]
            refine wpAnyM_one (i := 7) rfl (by kernel_rfl) rfl (fun K hK => ?_)
            have z0 := X2.out.p0
            have z1 := X2.out.p1
            have y0 := X2.out.free 0
            have y1 := X2.out.free 1
            go_simp
            have hZ := X2.out.st2 (.int .i64 u) (.int .i64 v)
            have m2 := And.intro ((hSS.1.set h2.out 0 (.int .i64 u)).set h2.out 1 (.int .i64 v)) (And.intro (hSS.2.1.otA2 n7_2.out (.int .i64 u) (.int .i64 v)) (hSS.2.2.otA2 n8_2.out (.int .i64 u) (.int .i64 v)))
            replace X3 := Lib.hid (X3.out.otA2 n3_2.out (.int .i64 u) (.int .i64 v))
            replace X2 := Lib.hid hZ
            refine hK _ _ (fun _ => m2) ?_
            clear hK K hSS hZ z0 z1 y0 y1
            have hSS := m2
            clear m2
            try simp only [List.getElem_toArray, List.getElem_cons_succ, List.getElem_cons_zero, Act.put, List.setIfInBounds_toArray, List.set_cons_zero, List.set_cons_succ]
            refine wpAnyM_one (i := 8) rfl (by kernel_rfl) rfl (fun K hK => ?_)
            have z0 := X3.out.p0
            have z1 := X3.out.p1
            have y0 := X3.out.free 0
            have y1 := X3.out.free 1
            go_simp
            have hZ := X3.out.st2 (.int .i64 (v + kk3)) (.int .i64 u)
            have m2 := And.intro ((hSS.1.set h3.out 0 (.int .i64 (v + kk3))).set h3.out 1 (.int .i64 u)) (And.intro (hSS.2.1.otA2 n7_3.out (.int .i64 (v + kk3)) (.int .i64 u)) (hSS.2.2.otA2 n8_3.out (.int .i64 (v + kk3)) (.int .i64 u)))
            replace X2 := Lib.hid (X2.out.otA2 m3_2.out (.int .i64 (v + kk3)) (.int .i64 u))
            replace X3 := Lib.hid hZ
            refine hK _ _ (fun _ => m2) ?_
            clear hK K hSS hZ z0 z1 y0 y1
            have hSS := m2
            clear m2
            try simp only [List.getElem_toArray, List.getElem_cons_succ, List.getElem_cons_zero, Act.put, List.setIfInBounds_toArray, List.set_cons_zero, List.set_cons_succ]
            refine wpAnyM_one (i := 9) rfl (by kernel_rfl) rfl (fun K hK => ?_)
            go_simp
            refine hK _ _ (fun _ => hSS) ?_
            clear hK K
            try simp only [List.getElem_toArray, List.getElem_cons_succ, List.getElem_cons_zero, Act.put, List.setIfInBounds_toArray, List.set_cons_zero, List.set_cons_succ]
            refine wpAnyM_one (i := 10) rfl (by kernel_rfl) rfl (fun K hK => ?_)
            go_simp
            refine hK _ _ (fun h => absurd h (by decide)) ?_
            clear hK K
            try simp only [List.getElem_toArray, List.getElem_cons_succ, List.getElem_cons_zero, Act.put, List.setIfInBounds_toArray, List.set_cons_zero, List.set_cons_succ]
            refine wpAnyM_done (by kernel_rfl) ?_ _
            go_wp2
            have c2_0 := X2.out.p0
            have c2_1 := X2.out.p1
            have c3_0 := X3.out.p0
            have c3_1 := X3.out.p1
            exact bodyPost_ret (v := .tuple #[.agg #[.int .i64 u, .int .i64 v], .agg #[.int .i64 (v + kk3), .int .i64 u], .bool false, .bool okk]) (by simp [results, Try.results67, go_sem, c2_0, c2_1, c3_0, c3_1]) rfl (by show SpkR w0 w B tv zs _ _; unfold SpkR; exact ⟨⟨u, v, (v + kk3), u, false, okk, rfl, by omega, by omega, by omega, by omega, fun hk => AG.out hk⟩, ⟨hSS.1.t, HM.out.g.trans hSS.1.g, HM.out.b⟩, hSS.1.g⟩)
          · go_simp
            refine (FT.out _).mono ?_
            rintro e wE ⟨rfl, qq⟩
            have m2 : (fun wS => Tm w B tv zs wS ∧ Bx wS B7 #[.int .i64 u, .int .i64 v] 32 ∧ Bx wS B8 #[.int .i64 (v + kk3), .int .i64 u] 32) wE := ⟨hSS.1.new qq, hSS.2.1.kept qq, hSS.2.2.kept qq⟩
            replace X2 := Lib.hid (X2.out.kept qq)
            replace X3 := Lib.hid (X3.out.kept qq)
            refine hK _ _ (fun _ => m2) ?_
            clear hK K hSS qq
            have hSS := m2
            clear m2
            try simp only [List.getElem_toArray, List.getElem_cons_succ, List.getElem_cons_zero, Act.put, List.setIfInBounds_toArray, List.set_cons_zero, List.set_cons_succ]
            refine wpAnyM_two (i := 1) (j := 7) rfl rfl (by kernel_rfl) rfl rfl (fun K hK => ?_) (fun K hK => ?_)
            · have z0 := hSS.2.2.p0
              have z1 := hSS.2.2.p1
              go_simp
              refine hK _ _ (fun _ => hSS) ?_
              clear hK K z0 z1
              try simp only [List.getElem_toArray, List.getElem_cons_succ, List.getElem_cons_zero, Act.put, List.setIfInBounds_toArray, List.set_cons_zero, List.set_cons_succ]
              refine wpAnyM_one (i := 7) rfl (by kernel_rfl) rfl (fun K hK => ?_)
              have z0 := X2.out.p0
              have z1 := X2.out.p1
              have y0 := X2.out.free 0
              have y1 := X2.out.free 1
              go_simp
              have hZ := X2.out.st2 (.int .i64 u) (.int .i64 v)
              have m2 := And.intro ((hSS.1.set h2.out 0 (.int .i64 u)).set h2.out 1 (.int .i64 v)) (And.intro (hSS.2.1.otA2 n7_2.out (.int .i64 u) (.int .i64 v)) (hSS.2.2.otA2 n8_2.out (.int .i64 u) (.int .i64 v)))
              replace X3 := Lib.hid (X3.out.otA2 n3_2.out (.int .i64 u) (.int .i64 v))
              replace X2 := Lib.hid hZ
              refine hK _ _ (fun _ => m2) ?_
              clear hK K hSS hZ z0 z1 y0 y1
              have hSS := m2
              clear m2
              try simp only [List.getElem_toArray, List.getElem_cons_succ, List.getElem_cons_zero, Act.put, List.setIfInBounds_toArray, List.set_cons_zero, List.set_cons_succ]
              refine wpAnyM_one (i := 8) rfl (by kernel_rfl) rfl (fun K hK => ?_)
              have z0 := X3.out.p0
              have z1 := X3.out.p1
              have y0 := X3.out.free 0
              have y1 := X3.out.free 1
              go_simp
              have hZ := X3.out.st2 (.int .i64 (v + kk3)) (.int .i64 u)
              have m2 := And.intro ((hSS.1.set h3.out 0 (.int .i64 (v + kk3))).set h3.out 1 (.int .i64 u)) (And.intro (hSS.2.1.otA2 n7_3.out (.int .i64 (v + kk3)) (.int .i64 u)) (hSS.2.2.otA2 n8_3.out (.int .i64 (v + kk3)) (.int .i64 u)))
              replace X2 := Lib.hid (X2.out.otA2 m3_2.out (.int .i64 (v + kk3)) (.int .i64 u))
              replace X3 := Lib.hid hZ
              refine hK _ _ (fun _ => m2) ?_
              clear hK K hSS hZ z0 z1 y0 y1
              have hSS := m2
              clear m2
              try simp only [List.getElem_toArray, List.getElem_cons_succ, List.getElem_cons_zero, Act.put, List.setIfInBounds_toArray, List.set_cons_zero, List.set_cons_succ]
              refine wpAnyM_one (i := 9) rfl (by kernel_rfl) rfl (fun K hK => ?_)
              go_simp
              refine hK _ _ (fun _ => hSS) ?_
              clear hK K
              try simp only [List.getElem_toArray, List.getElem_cons_succ, List.getElem_cons_zero, Act.put, List.setIfInBounds_toArray, List.set_cons_zero, List.set_cons_succ]
              refine wpAnyM_one (i := 10) rfl (by kernel_rfl) rfl (fun K hK => ?_)
              go_simp
              refine hK _ _ (fun h => absurd h (by decide)) ?_
              clear hK K
              try simp only [List.getElem_toArray, List.getElem_cons_succ, List.getElem_cons_zero, Act.put, List.setIfInBounds_toArray, List.set_cons_zero, List.set_cons_succ]
              refine wpAnyM_done (by kernel_rfl) ?_ _
              go_wp2
              have c2_0 := X2.out.p0
              have c2_1 := X2.out.p1
              have c3_0 := X3.out.p0
              have c3_1 := X3.out.p1
              exact bodyPost_ret (v := .tuple #[.agg #[.int .i64 u, .int .i64 v], .agg #[.int .i64 (v + kk3), .int .i64 u], .bool false, .bool okk]) (by simp [results, Try.results67, go_sem, c2_0, c2_1, c3_0, c3_1]) rfl (by show SpkR w0 w B tv zs _ _; unfold SpkR; exact ⟨⟨u, v, (v + kk3), u, false, okk, rfl, by omega, by omega, by omega, by omega, fun hk => AG.out hk⟩, ⟨hSS.1.t, HM.out.g.trans hSS.1.g, HM.out.b⟩, hSS.1.g⟩)
            · have z0 := X2.out.p0
              have z1 := X2.out.p1
              have y0 := X2.out.free 0
              have y1 := X2.out.free 1
              go_simp
              have hZ := X2.out.st2 (.int .i64 u) (.int .i64 v)
              have m2 := And.intro ((hSS.1.set h2.out 0 (.int .i64 u)).set h2.out 1 (.int .i64 v)) (And.intro (hSS.2.1.otA2 n7_2.out (.int .i64 u) (.int .i64 v)) (hSS.2.2.otA2 n8_2.out (.int .i64 u) (.int .i64 v)))
              replace X3 := Lib.hid (X3.out.otA2 n3_2.out (.int .i64 u) (.int .i64 v))
              replace X2 := Lib.hid hZ
              refine hK _ _ (fun _ => m2) ?_
              clear hK K hSS hZ z0 z1 y0 y1
              have hSS := m2
              clear m2
              try simp only [List.getElem_toArray, List.getElem_cons_succ, List.getElem_cons_zero, Act.put, List.setIfInBounds_toArray, List.set_cons_zero, List.set_cons_succ]
              refine wpAnyM_one (i := 1) rfl (by kernel_rfl) rfl (fun K hK => ?_)
              have z0 := hSS.2.2.p0
              have z1 := hSS.2.2.p1
              go_simp
              refine hK _ _ (fun _ => hSS) ?_
              clear hK K z0 z1
              try simp only [List.getElem_toArray, List.getElem_cons_succ, List.getElem_cons_zero, Act.put, List.setIfInBounds_toArray, List.set_cons_zero, List.set_cons_succ]
              refine wpAnyM_one (i := 8) rfl (by kernel_rfl) rfl (fun K hK => ?_)
              have z0 := X3.out.p0
              have z1 := X3.out.p1
              have y0 := X3.out.free 0
              have y1 := X3.out.free 1
              go_simp
              have hZ := X3.out.st2 (.int .i64 (v + kk3)) (.int .i64 u)
              have m2 := And.intro ((hSS.1.set h3.out 0 (.int .i64 (v + kk3))).set h3.out 1 (.int .i64 u)) (And.intro (hSS.2.1.otA2 n7_3.out (.int .i64 (v + kk3)) (.int .i64 u)) (hSS.2.2.otA2 n8_3.out (.int .i64 (v + kk3)) (.int .i64 u)))
              replace X2 := Lib.hid (X2.out.otA2 m3_2.out (.int .i64 (v + kk3)) (.int .i64 u))
              replace X3 := Lib.hid hZ
              refine hK _ _ (fun _ => m2) ?_
              clear hK K hSS hZ z0 z1 y0 y1
              have hSS := m2
              clear m2
              try simp only [List.getElem_toArray, List.getElem_cons_succ, List.getElem_cons_zero, Act.put, List.setIfInBounds_toArray, List.set_cons_zero, List.set_cons_succ]
              refine wpAnyM_one (i := 9) rfl (by kernel_rfl) rfl (fun K hK => ?_)
              go_simp
              refine hK _ _ (fun _ => hSS) ?_
              clear hK K
              try simp only [List.getElem_toArray, List.getElem_cons_succ, List.getElem_cons_zero, Act.put, List.setIfInBounds_toArray, List.set_cons_zero, List.set_cons_succ]
              refine wpAnyM_one (i := 10) rfl (by kernel_rfl) rfl (fun K hK => ?_)
              go_simp
              refine hK _ _ (fun h => absurd h (by decide)) ?_
              clear hK K
              try simp only [List.getElem_toArray, List.getElem_cons_succ, List.getElem_cons_zero, Act.put, List.setIfInBounds_toArray, List.set_cons_zero, List.set_cons_succ]
              refine wpAnyM_done (by kernel_rfl) ?_ _
              go_wp2
              have c2_0 := X2.out.p0
              have c2_1 := X2.out.p1
              have c3_0 := X3.out.p0
              have c3_1 := X3.out.p1
              exact bodyPost_ret (v := .tuple #[.agg #[.int .i64 u, .int .i64 v], .agg #[.int .i64 (v + kk3), .int .i64 u], .bool false, .bool okk]) (by simp [results, Try.results67, go_sem, c2_0, c2_1, c3_0, c3_1]) rfl (by show SpkR w0 w B tv zs _ _; unfold SpkR; exact ⟨⟨u, v, (v + kk3), u, false, okk, rfl, by omega, by omega, by omega, by omega, fun hk => AG.out hk⟩, ⟨hSS.1.t, HM.out.g.trans hSS.1.g, HM.out.b⟩, hSS.1.g⟩)
        · have z3 : (g3 == 0) = false := beq_eq_false_iff_ne.2 e3
          clear e3 g31 g32
          go_upto_region 17 with fail
          have ft := fun w' => arFit u v v u false (by omega) (by omega) (by omega) (by omega) (by omega) (by omega) (by omega) (by omega) w'
          have AG := Lib.hid (agr_of u v v u false)
          generalize ok : (Ac.fit (Ac.inn u v u v) (Ac.inn v u v u) && Ac.agr false u v v u) = okk at *
          have FT := Lib.hid ft
          have OK := Lib.hid ok
          clear ft ok
          try simp only [List.getElem_toArray, List.getElem_cons_succ, List.getElem_cons_zero, Act.put, List.setIfInBounds_toArray, List.set_cons_zero, List.set_cons_succ]
          refine wp_region_M (fun wS => Tm w B tv zs wS ∧ Bx wS B7 #[.int .i64 u, .int .i64 v] 32 ∧ Bx wS B8 #[.int .i64 v, .int .i64 u] 32) 10 (by kernel_rfl) ?_
          have hSS : (fun wS => Tm w B tv zs wS ∧ Bx wS B7 #[.int .i64 u, .int .i64 v] 32 ∧ Bx wS B8 #[.int .i64 v, .int .i64 u] 32) (World.drew _) := ⟨MM.out.new (qw_drew1 _), X7.out.kept (qw_drew1 _), X8.out.kept (qw_drew1 _)⟩
          replace X2 := Lib.hid (X2.out.kept (qw_drew1 _))
          replace X3 := Lib.hid (X3.out.kept (qw_drew1 _))
          refine wpM_named (S' := fun wS => (fun wS => Tm w B tv zs wS ∧ Bx wS B7 #[.int .i64 u, .int .i64 v] 32 ∧ Bx wS B8 #[.int .i64 v, .int .i64 u] 32) wS ∧ Bx wS B2 #[.int .i64 0, .int .i64 0] 32 ∧ Bx wS B3 #[.int .i64 0, .int .i64 0] 32) ⟨hSS, X2.out, X3.out⟩ ?_
          clear X2 X3 hSS MM X7 X8
          rintro wd ⟨hSS, x2, x3⟩
          have X2 := Lib.hid x2
          have X3 := Lib.hid x3
          clear x2 x3
          refine wpAnyM_take (i := 0) (v := ?_) rfl (by kernel_rfl) (fun _ _ _ h => h) (Or.inl ⟨by rfl, ?_⟩) hSS ?_
          rotate_left 1
          · intro wS hwS
            have y0 := hwS.2.1.p0; have y1 := hwS.2.1.p1; go_simp
            try with_reducible rfl
          simp only [List.getElem_toArray, List.getElem_cons_succ, List.getElem_cons_zero, Act.put, List.setIfInBounds_toArray, List.set_cons_zero, List.set_cons_succ]
          refine wpAnyM_take (i := 2) (v := ?_) rfl (by kernel_rfl) (fun _ _ _ h => h) (Or.inl ⟨by rfl, ?_⟩) hSS ?_
          rotate_left 1
          · intro wS hwS
            go_simp
            try with_reducible rfl
          simp only [List.getElem_toArray, List.getElem_cons_succ, List.getElem_cons_zero, Act.put, List.setIfInBounds_toArray, List.set_cons_zero, List.set_cons_succ]
          refine wpAnyM_takeT (i := 3) (v := ?_) [6, 7, 8, 9, 10] [] rfl (by kernel_rfl) (fun _ _ _ h => h) (Or.inl ⟨by rfl, ?_⟩) hSS ?_
          rotate_left 1
          · intro wS hwS
            have y0 := hwS.2.1.p0; have y1 := hwS.2.1.p1; go_simp
            try with_reducible rfl
          simp only [List.getElem_toArray, List.getElem_cons_succ, List.getElem_cons_zero, Act.put, List.setIfInBounds_toArray, List.set_cons_zero, List.set_cons_succ]
          refine wpAnyM_takeT (i := 4) (v := ?_) [6, 7, 8, 9, 10] [] rfl (by kernel_rfl) (fun _ _ _ h => h) (Or.inl ⟨by rfl, ?_⟩) hSS ?_
          rotate_left 1
          · intro wS hwS
            have y0 := hwS.2.2.p0; have y1 := hwS.2.2.p1; go_simp
            try with_reducible rfl
          simp only [List.getElem_toArray, List.getElem_cons_succ, List.getElem_cons_zero, Act.put, List.setIfInBounds_toArray, List.set_cons_zero, List.set_cons_succ]
          refine wpAnyM_take (i := 5) (v := ?_) rfl (by kernel_rfl) (fun _ _ _ h => h) (Or.inl ⟨by rfl, ?_⟩) hSS ?_
          rotate_left 1
          · intro wS hwS
            go_simp
            try with_reducible rfl
          simp only [List.getElem_toArray, List.getElem_cons_succ, List.getElem_cons_zero, Act.put, List.setIfInBounds_toArray, List.set_cons_zero, List.set_cons_succ]
          refine wpAnyM_two (i := 1) (j := 6) rfl rfl (by kernel_rfl) rfl rfl (fun K hK => ?_) (fun K hK => ?_)
          · have z0 := hSS.2.2.p0
            have z1 := hSS.2.2.p1
            go_simp
            refine hK _ _ (fun _ => hSS) ?_
            clear hK K z0 z1
            try simp only [List.getElem_toArray, List.getElem_cons_succ, List.getElem_cons_zero, Act.put, List.setIfInBounds_toArray, List.set_cons_zero, List.set_cons_succ]
            refine wpAnyM_one (i := 6) rfl (by kernel_rfl) rfl (fun K hK => ?_)
            go_simp
            refine (FT.out _).mono ?_
            rintro e wE ⟨rfl, qq⟩
            have m2 : (fun wS => Tm w B tv zs wS ∧ Bx wS B7 #[.int .i64 u, .int .i64 v] 32 ∧ Bx wS B8 #[.int .i64 v, .int .i64 u] 32) wE := ⟨hSS.1.new qq, hSS.2.1.kept qq, hSS.2.2.kept qq⟩
            replace X2 := Lib.hid (X2.out.kept qq)
            replace X3 := Lib.hid (X3.out.kept qq)
            refine hK _ _ (fun _ => m2) ?_
            clear hK K hSS qq
            have hSS := m2
            clear m2
            try simp only [List.getElem_toArray, List.getElem_cons_succ, List.getElem_cons_zero, Act.put, List.setIfInBounds_toArray, List.set_cons_zero, List.set_cons_succ]
            refine wpAnyM_one (i := 7) rfl (by kernel_rfl) rfl (fun K hK => ?_)
            have z0 := X2.out.p0
            have z1 := X2.out.p1
            have y0 := X2.out.free 0
            have y1 := X2.out.free 1
            go_simp
            have hZ := X2.out.st2 (.int .i64 u) (.int .i64 v)
            have m2 := And.intro ((hSS.1.set h2.out 0 (.int .i64 u)).set h2.out 1 (.int .i64 v)) (And.intro (hSS.2.1.otA2 n7_2.out (.int .i64 u) (.int .i64 v)) (hSS.2.2.otA2 n8_2.out (.int .i64 u) (.int .i64 v)))
            replace X3 := Lib.hid (X3.out.otA2 n3_2.out (.int .i64 u) (.int .i64 v))
            replace X2 := Lib.hid hZ
            refine hK _ _ (fun _ => m2) ?_
            clear hK K hSS hZ z0 z1 y0 y1
            have hSS := m2
            clear m2
            try simp only [List.getElem_toArray, List.getElem_cons_succ, List.getElem_cons_zero, Act.put, List.setIfInBounds_toArray, List.set_cons_zero, List.set_cons_succ]
            refine wpAnyM_one (i := 8) rfl (by kernel_rfl) rfl (fun K hK => ?_)
            have z0 := X3.out.p0
            have z1 := X3.out.p1
            have y0 := X3.out.free 0
            have y1 := X3.out.free 1
            go_simp
            have hZ := X3.out.st2 (.int .i64 v) (.int .i64 u)
            have m2 := And.intro ((hSS.1.set h3.out 0 (.int .i64 v)).set h3.out 1 (.int .i64 u)) (And.intro (hSS.2.1.otA2 n7_3.out (.int .i64 v) (.int .i64 u)) (hSS.2.2.otA2 n8_3.out (.int .i64 v) (.int .i64 u)))
            replace X2 := Lib.hid (X2.out.otA2 m3_2.out (.int .i64 v) (.int .i64 u))
            replace X3 := Lib.hid hZ
            refine hK _ _ (fun _ => m2) ?_
            clear hK K hSS hZ z0 z1 y0 y1
            have hSS := m2
            clear m2
            try simp only [List.getElem_toArray, List.getElem_cons_succ, List.getElem_cons_zero, Act.put, List.setIfInBounds_toArray, List.set_cons_zero, List.set_cons_succ]
            refine wpAnyM_one (i := 9) rfl (by kernel_rfl) rfl (fun K hK => ?_)
            go_simp
            refine hK _ _ (fun _ => hSS) ?_
            clear hK K
            try simp only [List.getElem_toArray, List.getElem_cons_succ, List.getElem_cons_zero, Act.put, List.setIfInBounds_toArray, List.set_cons_zero, List.set_cons_succ]
            refine wpAnyM_one (i := 10) rfl (by kernel_rfl) rfl (fun K hK => ?_)
            go_simp
            refine hK _ _ (fun h => absurd h (by decide)) ?_
            clear hK K
            try simp only [List.getElem_toArray, List.getElem_cons_succ, List.getElem_cons_zero, Act.put, List.setIfInBounds_toArray, List.set_cons_zero, List.set_cons_succ]
            refine wpAnyM_done (by kernel_rfl) ?_ _
            go_wp2
            have c2_0 := X2.out.p0
            have c2_1 := X2.out.p1
            have c3_0 := X3.out.p0
            have c3_1 := X3.out.p1
            exact bodyPost_ret (v := .tuple #[.agg #[.int .i64 u, .int .i64 v], .agg #[.int .i64 v, .int .i64 u], .bool false, .bool okk]) (by simp [results, Try.results67, go_sem, c2_0, c2_1, c3_0, c3_1]) rfl (by show SpkR w0 w B tv zs _ _; unfold SpkR; exact ⟨⟨u, v, v, u, false, okk, rfl, by omega, by omega, by omega, by omega, fun hk => AG.out hk⟩, ⟨hSS.1.t, HM.out.g.trans hSS.1.g, HM.out.b⟩, hSS.1.g⟩)
          · go_simp
            refine (FT.out _).mono ?_
            rintro e wE ⟨rfl, qq⟩
            have m2 : (fun wS => Tm w B tv zs wS ∧ Bx wS B7 #[.int .i64 u, .int .i64 v] 32 ∧ Bx wS B8 #[.int .i64 v, .int .i64 u] 32) wE := ⟨hSS.1.new qq, hSS.2.1.kept qq, hSS.2.2.kept qq⟩
            replace X2 := Lib.hid (X2.out.kept qq)
            replace X3 := Lib.hid (X3.out.kept qq)
            refine hK _ _ (fun _ => m2) ?_
            clear hK K hSS qq
            have hSS := m2
            clear m2
            try simp only [List.getElem_toArray, List.getElem_cons_succ, List.getElem_cons_zero, Act.put, List.setIfInBounds_toArray, List.set_cons_zero, List.set_cons_succ]
            refine wpAnyM_two (i := 1) (j := 7) rfl rfl (by kernel_rfl) rfl rfl (fun K hK => ?_) (fun K hK => ?_)
            · have z0 := hSS.2.2.p0
              have z1 := hSS.2.2.p1
              go_simp
              refine hK _ _ (fun _ => hSS) ?_
              clear hK K z0 z1
              try simp only [List.getElem_toArray, List.getElem_cons_succ, List.getElem_cons_zero, Act.put, List.setIfInBounds_toArray, List.set_cons_zero, List.set_cons_succ]
              refine wpAnyM_one (i := 7) rfl (by kernel_rfl) rfl (fun K hK => ?_)
              have z0 := X2.out.p0
              have z1 := X2.out.p1
              have y0 := X2.out.free 0
              have y1 := X2.out.free 1
              go_simp
              have hZ := X2.out.st2 (.int .i64 u) (.int .i64 v)
              have m2 := And.intro ((hSS.1.set h2.out 0 (.int .i64 u)).set h2.out 1 (.int .i64 v)) (And.intro (hSS.2.1.otA2 n7_2.out (.int .i64 u) (.int .i64 v)) (hSS.2.2.otA2 n8_2.out (.int .i64 u) (.int .i64 v)))
              replace X3 := Lib.hid (X3.out.otA2 n3_2.out (.int .i64 u) (.int .i64 v))
              replace X2 := Lib.hid hZ
              refine hK _ _ (fun _ => m2) ?_
              clear hK K hSS hZ z0 z1 y0 y1
              have hSS := m2
              clear m2
              try simp only [List.getElem_toArray, List.getElem_cons_succ, List.getElem_cons_zero, Act.put, List.setIfInBounds_toArray, List.set_cons_zero, List.set_cons_succ]
              refine wpAnyM_one (i := 8) rfl (by kernel_rfl) rfl (fun K hK => ?_)
              have z0 := X3.out.p0
              have z1 := X3.out.p1
              have y0 := X3.out.free 0
              have y1 := X3.out.free 1
              go_simp
              have hZ := X3.out.st2 (.int .i64 v) (.int .i64 u)
              have m2 := And.intro ((hSS.1.set h3.out 0 (.int .i64 v)).set h3.out 1 (.int .i64 u)) (And.intro (hSS.2.1.otA2 n7_3.out (.int .i64 v) (.int .i64 u)) (hSS.2.2.otA2 n8_3.out (.int .i64 v) (.int .i64 u)))
              replace X2 := Lib.hid (X2.out.otA2 m3_2.out (.int .i64 v) (.int .i64 u))
              replace X3 := Lib.hid hZ
              refine hK _ _ (fun _ => m2) ?_
              clear hK K hSS hZ z0 z1 y0 y1
              have hSS := m2
              clear m2
              try simp only [List.getElem_toArray, List.getElem_cons_succ, List.getElem_cons_zero, Act.put, List.setIfInBounds_toArray, List.set_cons_zero, List.set_cons_succ]
              refine wpAnyM_one (i := 9) rfl (by kernel_rfl) rfl (fun K hK => ?_)
              go_simp
              refine hK _ _ (fun _ => hSS) ?_
              clear hK K
              try simp only [List.getElem_toArray, List.getElem_cons_succ, List.getElem_cons_zero, Act.put, List.setIfInBounds_toArray, List.set_cons_zero, List.set_cons_succ]
              refine wpAnyM_one (i := 10) rfl (by kernel_rfl) rfl (fun K hK => ?_)
              go_simp
              refine hK _ _ (fun h => absurd h (by decide)) ?_
              clear hK K
              try simp only [List.getElem_toArray, List.getElem_cons_succ, List.getElem_cons_zero, Act.put, List.setIfInBounds_toArray, List.set_cons_zero, List.set_cons_succ]
              refine wpAnyM_done (by kernel_rfl) ?_ _
              go_wp2
              have c2_0 := X2.out.p0
              have c2_1 := X2.out.p1
              have c3_0 := X3.out.p0
              have c3_1 := X3.out.p1
              exact bodyPost_ret (v := .tuple #[.agg #[.int .i64 u, .int .i64 v], .agg #[.int .i64 v, .int .i64 u], .bool false, .bool okk]) (by simp [results, Try.results67, go_sem, c2_0, c2_1, c3_0, c3_1]) rfl (by show SpkR w0 w B tv zs _ _; unfold SpkR; exact ⟨⟨u, v, v, u, false, okk, rfl, by omega, by omega, by omega, by omega, fun hk => AG.out hk⟩, ⟨hSS.1.t, HM.out.g.trans hSS.1.g, HM.out.b⟩, hSS.1.g⟩)
            · have z0 := X2.out.p0
              have z1 := X2.out.p1
              have y0 := X2.out.free 0
              have y1 := X2.out.free 1
              go_simp
              have hZ := X2.out.st2 (.int .i64 u) (.int .i64 v)
              have m2 := And.intro ((hSS.1.set h2.out 0 (.int .i64 u)).set h2.out 1 (.int .i64 v)) (And.intro (hSS.2.1.otA2 n7_2.out (.int .i64 u) (.int .i64 v)) (hSS.2.2.otA2 n8_2.out (.int .i64 u) (.int .i64 v)))
              replace X3 := Lib.hid (X3.out.otA2 n3_2.out (.int .i64 u) (.int .i64 v))
              replace X2 := Lib.hid hZ
              refine hK _ _ (fun _ => m2) ?_
              clear hK K hSS hZ z0 z1 y0 y1
              have hSS := m2
              clear m2
              try simp only [List.getElem_toArray, List.getElem_cons_succ, List.getElem_cons_zero, Act.put, List.setIfInBounds_toArray, List.set_cons_zero, List.set_cons_succ]
              refine wpAnyM_one (i := 1) rfl (by kernel_rfl) rfl (fun K hK => ?_)
              have z0 := hSS.2.2.p0
              have z1 := hSS.2.2.p1
              go_simp
              refine hK _ _ (fun _ => hSS) ?_
              clear hK K z0 z1
              try simp only [List.getElem_toArray, List.getElem_cons_succ, List.getElem_cons_zero, Act.put, List.setIfInBounds_toArray, List.set_cons_zero, List.set_cons_succ]
              refine wpAnyM_one (i := 8) rfl (by kernel_rfl) rfl (fun K hK => ?_)
              have z0 := X3.out.p0
              have z1 := X3.out.p1
              have y0 := X3.out.free 0
              have y1 := X3.out.free 1
              go_simp
              have hZ := X3.out.st2 (.int .i64 v) (.int .i64 u)
              have m2 := And.intro ((hSS.1.set h3.out 0 (.int .i64 v)).set h3.out 1 (.int .i64 u)) (And.intro (hSS.2.1.otA2 n7_3.out (.int .i64 v) (.int .i64 u)) (hSS.2.2.otA2 n8_3.out (.int .i64 v) (.int .i64 u)))
              replace X2 := Lib.hid (X2.out.otA2 m3_2.out (.int .i64 v) (.int .i64 u))
              replace X3 := Lib.hid hZ
              refine hK _ _ (fun _ => m2) ?_
              clear hK K hSS hZ z0 z1 y0 y1
              have hSS := m2
              clear m2
              try simp only [List.getElem_toArray, List.getElem_cons_succ, List.getElem_cons_zero, Act.put, List.setIfInBounds_toArray, List.set_cons_zero, List.set_cons_succ]
              refine wpAnyM_one (i := 9) rfl (by kernel_rfl) rfl (fun K hK => ?_)
              go_simp
              refine hK _ _ (fun _ => hSS) ?_
              clear hK K
              try simp only [List.getElem_toArray, List.getElem_cons_succ, List.getElem_cons_zero, Act.put, List.setIfInBounds_toArray, List.set_cons_zero, List.set_cons_succ]
              refine wpAnyM_one (i := 10) rfl (by kernel_rfl) rfl (fun K hK => ?_)
              go_simp
              refine hK _ _ (fun h => absurd h (by decide)) ?_
              clear hK K
              try simp only [List.getElem_toArray, List.getElem_cons_succ, List.getElem_cons_zero, Act.put, List.setIfInBounds_toArray, List.set_cons_zero, List.set_cons_succ]
              refine wpAnyM_done (by kernel_rfl) ?_ _
              go_wp2
              have c2_0 := X2.out.p0
              have c2_1 := X2.out.p1
              have c3_0 := X3.out.p0
              have c3_1 := X3.out.p1
              exact bodyPost_ret (v := .tuple #[.agg #[.int .i64 u, .int .i64 v], .agg #[.int .i64 v, .int .i64 u], .bool false, .bool okk]) (by simp [results, Try.results67, go_sem, c2_0, c2_1, c3_0, c3_1]) rfl (by show SpkR w0 w B tv zs _ _; unfold SpkR; exact ⟨⟨u, v, v, u, false, okk, rfl, by omega, by omega, by omega, by omega, fun hk => AG.out hk⟩, ⟨hSS.1.t, HM.out.g.trans hSS.1.g, HM.out.b⟩, hSS.1.g⟩)
    · go_upto_region 9 with fail
      go_upto_region 11 with fail
      go_upto_region 6 with fail
      have c7_0 := X7.out.p0
      have c7_1 := X7.out.p1
      go_upto_region 13 with (go_big_may; ((with_reducible refine sg_pt (x := ?_) (y := ?_) 8 29 ?_ ?_ X8.out ?_); rotate_left 2; (rfl); (rfl); intro w10 xx ss; replace X2 := Lib.hid (ss.oth m8_2.out X2.out); replace X3 := Lib.hid (ss.oth m8_3.out X3.out); replace X7 := Lib.hid (ss.oth m8_7.out X7.out); replace MM := Lib.hid (ss.tm MM.out h8.out); replace X8 := Lib.hid xx; clear xx ss))
      clear c7_0 c7_1
      by_cases e8 : f8 = 0
      · have z8 : (f8 == 0) = true := by simpa using e8
        clear e8
        go_upto_region 14 with fail
        go_upto_region 17 with (go_big_may; (first | ((with_reducible refine ld_pt 7 ?_ X7.out ?_); (rfl)) | ((with_reducible refine sg_pt (x := ?_) (y := ?_) 8 55 ?_ ?_ X8.out ?_); rotate_left 2; (rfl); (rfl); intro w11 xx ss; replace X2 := Lib.hid (ss.oth m8_2.out X2.out); replace X3 := Lib.hid (ss.oth m8_3.out X3.out); replace X7 := Lib.hid (ss.oth m8_7.out X7.out); replace MM := Lib.hid (ss.tm MM.out h8.out); replace X8 := Lib.hid xx; clear xx ss)))
        have ft := fun w' => arFit u v u v true (by omega) (by omega) (by omega) (by omega) (by omega) (by omega) (by omega) (by omega) w'
        have AG := Lib.hid (agr_of u v u v true)
        generalize ok : (Ac.fit (Ac.inn u v u v) (Ac.inn u v u v) && Ac.agr true u v u v) = okk at *
        have FT := Lib.hid ft
        have OK := Lib.hid ok
        clear ft ok
        try simp only [List.getElem_toArray, List.getElem_cons_succ, List.getElem_cons_zero, Act.put, List.setIfInBounds_toArray, List.set_cons_zero, List.set_cons_succ]
        refine wp_region_M (fun wS => Tm w B tv zs wS ∧ Bx wS B7 #[.int .i64 u, .int .i64 v] 32 ∧ Bx wS B8 #[.int .i64 u, .int .i64 v] 32) 10 (by kernel_rfl) ?_
        have hSS : (fun wS => Tm w B tv zs wS ∧ Bx wS B7 #[.int .i64 u, .int .i64 v] 32 ∧ Bx wS B8 #[.int .i64 u, .int .i64 v] 32) (World.drew _) := ⟨MM.out.new (qw_drew1 _), X7.out.kept (qw_drew1 _), X8.out.kept (qw_drew1 _)⟩
        replace X2 := Lib.hid (X2.out.kept (qw_drew1 _))
        replace X3 := Lib.hid (X3.out.kept (qw_drew1 _))
        refine wpM_named (S' := fun wS => (fun wS => Tm w B tv zs wS ∧ Bx wS B7 #[.int .i64 u, .int .i64 v] 32 ∧ Bx wS B8 #[.int .i64 u, .int .i64 v] 32) wS ∧ Bx wS B2 #[.int .i64 0, .int .i64 0] 32 ∧ Bx wS B3 #[.int .i64 0, .int .i64 0] 32) ⟨hSS, X2.out, X3.out⟩ ?_
        clear X2 X3 hSS MM X7 X8
        rintro wd ⟨hSS, x2, x3⟩
        have X2 := Lib.hid x2
        have X3 := Lib.hid x3
        clear x2 x3
        refine wpAnyM_take (i := 0) (v := ?_) rfl (by kernel_rfl) (fun _ _ _ h => h) (Or.inl ⟨by rfl, ?_⟩) hSS ?_
        rotate_left 1
        · intro wS hwS
          have y0 := hwS.2.1.p0; have y1 := hwS.2.1.p1; go_simp
          try with_reducible rfl
        simp only [List.getElem_toArray, List.getElem_cons_succ, List.getElem_cons_zero, Act.put, List.setIfInBounds_toArray, List.set_cons_zero, List.set_cons_succ]
        refine wpAnyM_take (i := 2) (v := ?_) rfl (by kernel_rfl) (fun _ _ _ h => h) (Or.inl ⟨by rfl, ?_⟩) hSS ?_
        rotate_left 1
        · intro wS hwS
          go_simp
          try with_reducible rfl
        simp only [List.getElem_toArray, List.getElem_cons_succ, List.getElem_cons_zero, Act.put, List.setIfInBounds_toArray, List.set_cons_zero, List.set_cons_succ]
        refine wpAnyM_takeT (i := 3) (v := ?_) [6, 7, 8, 9, 10] [] rfl (by kernel_rfl) (fun _ _ _ h => h) (Or.inl ⟨by rfl, ?_⟩) hSS ?_
        rotate_left 1
        · intro wS hwS
          have y0 := hwS.2.1.p0; have y1 := hwS.2.1.p1; go_simp
          try with_reducible rfl
        simp only [List.getElem_toArray, List.getElem_cons_succ, List.getElem_cons_zero, Act.put, List.setIfInBounds_toArray, List.set_cons_zero, List.set_cons_succ]
        refine wpAnyM_takeT (i := 4) (v := ?_) [6, 7, 8, 9, 10] [] rfl (by kernel_rfl) (fun _ _ _ h => h) (Or.inl ⟨by rfl, ?_⟩) hSS ?_
        rotate_left 1
        · intro wS hwS
          have y0 := hwS.2.2.p0; have y1 := hwS.2.2.p1; go_simp
          try with_reducible rfl
        simp only [List.getElem_toArray, List.getElem_cons_succ, List.getElem_cons_zero, Act.put, List.setIfInBounds_toArray, List.set_cons_zero, List.set_cons_succ]
        refine wpAnyM_take (i := 5) (v := ?_) rfl (by kernel_rfl) (fun _ _ _ h => h) (Or.inl ⟨by rfl, ?_⟩) hSS ?_
        rotate_left 1
        · intro wS hwS
          go_simp
          try with_reducible rfl
        simp only [List.getElem_toArray, List.getElem_cons_succ, List.getElem_cons_zero, Act.put, List.setIfInBounds_toArray, List.set_cons_zero, List.set_cons_succ]
        refine wpAnyM_two (i := 1) (j := 6) rfl rfl (by kernel_rfl) rfl rfl (fun K hK => ?_) (fun K hK => ?_)
        · have z0 := hSS.2.2.p0
          have z1 := hSS.2.2.p1
          go_simp
          refine hK _ _ (fun _ => hSS) ?_
          clear hK K z0 z1
          try simp only [List.getElem_toArray, List.getElem_cons_succ, List.getElem_cons_zero, Act.put, List.setIfInBounds_toArray, List.set_cons_zero, List.set_cons_succ]
          refine wpAnyM_one (i := 6) rfl (by kernel_rfl) rfl (fun K hK => ?_)
          go_simp
          refine (FT.out _).mono ?_
          rintro e wE ⟨rfl, qq⟩
          have m2 : (fun wS => Tm w B tv zs wS ∧ Bx wS B7 #[.int .i64 u, .int .i64 v] 32 ∧ Bx wS B8 #[.int .i64 u, .int .i64 v] 32) wE := ⟨hSS.1.new qq, hSS.2.1.kept qq, hSS.2.2.kept qq⟩
          replace X2 := Lib.hid (X2.out.kept qq)
          replace X3 := Lib.hid (X3.out.kept qq)
          refine hK _ _ (fun _ => m2) ?_
          clear hK K hSS qq
          have hSS := m2
          clear m2
          try simp only [List.getElem_toArray, List.getElem_cons_succ, List.getElem_cons_zero, Act.put, List.setIfInBounds_toArray, List.set_cons_zero, List.set_cons_succ]
          refine wpAnyM_one (i := 7) rfl (by kernel_rfl) rfl (fun K hK => ?_)
          have z0 := X2.out.p0
          have z1 := X2.out.p1
          have y0 := X2.out.free 0
          have y1 := X2.out.free 1
          go_simp
          have hZ := X2.out.st2 (.int .i64 u) (.int .i64 v)
          have m2 := And.intro ((hSS.1.set h2.out 0 (.int .i64 u)).set h2.out 1 (.int .i64 v)) (And.intro (hSS.2.1.otA2 n7_2.out (.int .i64 u) (.int .i64 v)) (hSS.2.2.otA2 n8_2.out (.int .i64 u) (.int .i64 v)))
          replace X3 := Lib.hid (X3.out.otA2 n3_2.out (.int .i64 u) (.int .i64 v))
          replace X2 := Lib.hid hZ
          refine hK _ _ (fun _ => m2) ?_
          clear hK K hSS hZ z0 z1 y0 y1
          have hSS := m2
          clear m2
          try simp only [List.getElem_toArray, List.getElem_cons_succ, List.getElem_cons_zero, Act.put, List.setIfInBounds_toArray, List.set_cons_zero, List.set_cons_succ]
          refine wpAnyM_one (i := 8) rfl (by kernel_rfl) rfl (fun K hK => ?_)
          have z0 := X3.out.p0
          have z1 := X3.out.p1
          have y0 := X3.out.free 0
          have y1 := X3.out.free 1
          go_simp
          have hZ := X3.out.st2 (.int .i64 u) (.int .i64 v)
          have m2 := And.intro ((hSS.1.set h3.out 0 (.int .i64 u)).set h3.out 1 (.int .i64 v)) (And.intro (hSS.2.1.otA2 n7_3.out (.int .i64 u) (.int .i64 v)) (hSS.2.2.otA2 n8_3.out (.int .i64 u) (.int .i64 v)))
          replace X2 := Lib.hid (X2.out.otA2 m3_2.out (.int .i64 u) (.int .i64 v))
          replace X3 := Lib.hid hZ
          refine hK _ _ (fun _ => m2) ?_
          clear hK K hSS hZ z0 z1 y0 y1
          have hSS := m2
          clear m2
          try simp only [List.getElem_toArray, List.getElem_cons_succ, List.getElem_cons_zero, Act.put, List.setIfInBounds_toArray, List.set_cons_zero, List.set_cons_succ]
          refine wpAnyM_one (i := 9) rfl (by kernel_rfl) rfl (fun K hK => ?_)
          go_simp
          refine hK _ _ (fun _ => hSS) ?_
          clear hK K
          try simp only [List.getElem_toArray, List.getElem_cons_succ, List.getElem_cons_zero, Act.put, List.setIfInBounds_toArray, List.set_cons_zero, List.set_cons_succ]
          refine wpAnyM_one (i := 10) rfl (by kernel_rfl) rfl (fun K hK => ?_)
          go_simp
          refine hK _ _ (fun h => absurd h (by decide)) ?_
          clear hK K
          try simp only [List.getElem_toArray, List.getElem_cons_succ, List.getElem_cons_zero, Act.put, List.setIfInBounds_toArray, List.set_cons_zero, List.set_cons_succ]
          refine wpAnyM_done (by kernel_rfl) ?_ _
          go_wp2
          have c2_0 := X2.out.p0
          have c2_1 := X2.out.p1
          have c3_0 := X3.out.p0
          have c3_1 := X3.out.p1
          exact bodyPost_ret (v := .tuple #[.agg #[.int .i64 u, .int .i64 v], .agg #[.int .i64 u, .int .i64 v], .bool true, .bool okk]) (by simp [results, Try.results67, go_sem, c2_0, c2_1, c3_0, c3_1]) rfl (by show SpkR w0 w B tv zs _ _; unfold SpkR; exact ⟨⟨u, v, u, v, true, okk, rfl, by omega, by omega, by omega, by omega, fun hk => AG.out hk⟩, ⟨hSS.1.t, HM.out.g.trans hSS.1.g, HM.out.b⟩, hSS.1.g⟩)
        · go_simp
          refine (FT.out _).mono ?_
          rintro e wE ⟨rfl, qq⟩
          have m2 : (fun wS => Tm w B tv zs wS ∧ Bx wS B7 #[.int .i64 u, .int .i64 v] 32 ∧ Bx wS B8 #[.int .i64 u, .int .i64 v] 32) wE := ⟨hSS.1.new qq, hSS.2.1.kept qq, hSS.2.2.kept qq⟩
          replace X2 := Lib.hid (X2.out.kept qq)
          replace X3 := Lib.hid (X3.out.kept qq)
          refine hK _ _ (fun _ => m2) ?_
          clear hK K hSS qq
          have hSS := m2
          clear m2
          try simp only [List.getElem_toArray, List.getElem_cons_succ, List.getElem_cons_zero, Act.put, List.setIfInBounds_toArray, List.set_cons_zero, List.set_cons_succ]
          refine wpAnyM_two (i := 1) (j := 7) rfl rfl (by kernel_rfl) rfl rfl (fun K hK => ?_) (fun K hK => ?_)
          · have z0 := hSS.2.2.p0
            have z1 := hSS.2.2.p1
            go_simp
            refine hK _ _ (fun _ => hSS) ?_
            clear hK K z0 z1
            try simp only [List.getElem_toArray, List.getElem_cons_succ, List.getElem_cons_zero, Act.put, List.setIfInBounds_toArray, List.set_cons_zero, List.set_cons_succ]
            refine wpAnyM_one (i := 7) rfl (by kernel_rfl) rfl (fun K hK => ?_)
            have z0 := X2.out.p0
            have z1 := X2.out.p1
            have y0 := X2.out.free 0
            have y1 := X2.out.free 1
            go_simp
            have hZ := X2.out.st2 (.int .i64 u) (.int .i64 v)
            have m2 := And.intro ((hSS.1.set h2.out 0 (.int .i64 u)).set h2.out 1 (.int .i64 v)) (And.intro (hSS.2.1.otA2 n7_2.out (.int .i64 u) (.int .i64 v)) (hSS.2.2.otA2 n8_2.out (.int .i64 u) (.int .i64 v)))
            replace X3 := Lib.hid (X3.out.otA2 n3_2.out (.int .i64 u) (.int .i64 v))
            replace X2 := Lib.hid hZ
            refine hK _ _ (fun _ => m2) ?_
            clear hK K hSS hZ z0 z1 y0 y1
            have hSS := m2
            clear m2
            try simp only [List.getElem_toArray, List.getElem_cons_succ, List.getElem_cons_zero, Act.put, List.setIfInBounds_toArray, List.set_cons_zero, List.set_cons_succ]
            refine wpAnyM_one (i := 8) rfl (by kernel_rfl) rfl (fun K hK => ?_)
            have z0 := X3.out.p0
            have z1 := X3.out.p1
            have y0 := X3.out.free 0
            have y1 := X3.out.free 1
            go_simp
            have hZ := X3.out.st2 (.int .i64 u) (.int .i64 v)
            have m2 := And.intro ((hSS.1.set h3.out 0 (.int .i64 u)).set h3.out 1 (.int .i64 v)) (And.intro (hSS.2.1.otA2 n7_3.out (.int .i64 u) (.int .i64 v)) (hSS.2.2.otA2 n8_3.out (.int .i64 u) (.int .i64 v)))
            replace X2 := Lib.hid (X2.out.otA2 m3_2.out (.int .i64 u) (.int .i64 v))
            replace X3 := Lib.hid hZ
            refine hK _ _ (fun _ => m2) ?_
            clear hK K hSS hZ z0 z1 y0 y1
            have hSS := m2
            clear m2
            try simp only [List.getElem_toArray, List.getElem_cons_succ, List.getElem_cons_zero, Act.put, List.setIfInBounds_toArray, List.set_cons_zero, List.set_cons_succ]
            refine wpAnyM_one (i := 9) rfl (by kernel_rfl) rfl (fun K hK => ?_)
            go_simp
            refine hK _ _ (fun _ => hSS) ?_
            clear hK K
            try simp only [List.getElem_toArray, List.getElem_cons_succ, List.getElem_cons_zero, Act.put, List.setIfInBounds_toArray, List.set_cons_zero, List.set_cons_succ]
            refine wpAnyM_one (i := 10) rfl (by kernel_rfl) rfl (fun K hK => ?_)
            go_simp
            refine hK _ _ (fun h => absurd h (by decide)) ?_
            clear hK K
            try simp only [List.getElem_toArray, List.getElem_cons_succ, List.getElem_cons_zero, Act.put, List.setIfInBounds_toArray, List.set_cons_zero, List.set_cons_succ]
            refine wpAnyM_done (by kernel_rfl) ?_ _
            go_wp2
            have c2_0 := X2.out.p0
            have c2_1 := X2.out.p1
            have c3_0 := X3.out.p0
            have c3_1 := X3.out.p1
            exact bodyPost_ret (v := .tuple #[.agg #[.int .i64 u, .int .i64 v], .agg #[.int .i64 u, .int .i64 v], .bool true, .bool okk]) (by simp [results, Try.results67, go_sem, c2_0, c2_1, c3_0, c3_1]) rfl (by show SpkR w0 w B tv zs _ _; unfold SpkR; exact ⟨⟨u, v, u, v, true, okk, rfl, by omega, by omega, by omega, by omega, fun hk => AG.out hk⟩, ⟨hSS.1.t, HM.out.g.trans hSS.1.g, HM.out.b⟩, hSS.1.g⟩)
          · have z0 := X2.out.p0
            have z1 := X2.out.p1
            have y0 := X2.out.free 0
            have y1 := X2.out.free 1
            go_simp
            have hZ := X2.out.st2 (.int .i64 u) (.int .i64 v)
            have m2 := And.intro ((hSS.1.set h2.out 0 (.int .i64 u)).set h2.out 1 (.int .i64 v)) (And.intro (hSS.2.1.otA2 n7_2.out (.int .i64 u) (.int .i64 v)) (hSS.2.2.otA2 n8_2.out (.int .i64 u) (.int .i64 v)))
            replace X3 := Lib.hid (X3.out.otA2 n3_2.out (.int .i64 u) (.int .i64 v))
            replace X2 := Lib.hid hZ
            refine hK _ _ (fun _ => m2) ?_
            clear hK K hSS hZ z0 z1 y0 y1
            have hSS := m2
            clear m2
            try simp only [List.getElem_toArray, List.getElem_cons_succ, List.getElem_cons_zero, Act.put, List.setIfInBounds_toArray, List.set_cons_zero, List.set_cons_succ]
            refine wpAnyM_one (i := 1) rfl (by kernel_rfl) rfl (fun K hK => ?_)
            have z0 := hSS.2.2.p0
            have z1 := hSS.2.2.p1
            go_simp
            refine hK _ _ (fun _ => hSS) ?_
            clear hK K z0 z1
            try simp only [List.getElem_toArray, List.getElem_cons_succ, List.getElem_cons_zero, Act.put, List.setIfInBounds_toArray, List.set_cons_zero, List.set_cons_succ]
            refine wpAnyM_one (i := 8) rfl (by kernel_rfl) rfl (fun K hK => ?_)
            have z0 := X3.out.p0
            have z1 := X3.out.p1
            have y0 := X3.out.free 0
            have y1 := X3.out.free 1
            go_simp
            have hZ := X3.out.st2 (.int .i64 u) (.int .i64 v)
            have m2 := And.intro ((hSS.1.set h3.out 0 (.int .i64 u)).set h3.out 1 (.int .i64 v)) (And.intro (hSS.2.1.otA2 n7_3.out (.int .i64 u) (.int .i64 v)) (hSS.2.2.otA2 n8_3.out (.int .i64 u) (.int .i64 v)))
            replace X2 := Lib.hid (X2.out.otA2 m3_2.out (.int .i64 u) (.int .i64 v))
            replace X3 := Lib.hid hZ
            refine hK _ _ (fun _ => m2) ?_
            clear hK K hSS hZ z0 z1 y0 y1
            have hSS := m2
            clear m2
            try simp only [List.getElem_toArray, List.getElem_cons_succ, List.getElem_cons_zero, Act.put, List.setIfInBounds_toArray, List.set_cons_zero, List.set_cons_succ]
            refine wpAnyM_one (i := 9) rfl (by kernel_rfl) rfl (fun K hK => ?_)
            go_simp
            refine hK _ _ (fun _ => hSS) ?_
            clear hK K
            try simp only [List.getElem_toArray, List.getElem_cons_succ, List.getElem_cons_zero, Act.put, List.setIfInBounds_toArray, List.set_cons_zero, List.set_cons_succ]
            refine wpAnyM_one (i := 10) rfl (by kernel_rfl) rfl (fun K hK => ?_)
            go_simp
            refine hK _ _ (fun h => absurd h (by decide)) ?_
            clear hK K
            try simp only [List.getElem_toArray, List.getElem_cons_succ, List.getElem_cons_zero, Act.put, List.setIfInBounds_toArray, List.set_cons_zero, List.set_cons_succ]
            refine wpAnyM_done (by kernel_rfl) ?_ _
            go_wp2
            have c2_0 := X2.out.p0
            have c2_1 := X2.out.p1
            have c3_0 := X3.out.p0
            have c3_1 := X3.out.p1
            exact bodyPost_ret (v := .tuple #[.agg #[.int .i64 u, .int .i64 v], .agg #[.int .i64 u, .int .i64 v], .bool true, .bool okk]) (by simp [results, Try.results67, go_sem, c2_0, c2_1, c3_0, c3_1]) rfl (by show SpkR w0 w B tv zs _ _; unfold SpkR; exact ⟨⟨u, v, u, v, true, okk, rfl, by omega, by omega, by omega, by omega, fun hk => AG.out hk⟩, ⟨hSS.1.t, HM.out.g.trans hSS.1.g, HM.out.b⟩, hSS.1.g⟩)
      · have z8 : (f8 == 0) = false := beq_eq_false_iff_ne.2 e8
        clear e8
        go_upto_region 15 with fail
        go_upto_if 58 with (go_at_call 69; ((with_reducible refine (NX.out 3 (by decide) (by decide) _ MM.out).mono ?_); rintro e w8 ⟨⟨g3, rfl, g31, g32⟩, mm, gg⟩; replace X2 := Lib.hid (X2.out.grM gg (MM.out.nt h2.out)); replace X3 := Lib.hid (X3.out.grM gg (MM.out.nt h3.out)); replace X7 := Lib.hid (X7.out.grM gg (MM.out.nt h7.out)); replace X8 := Lib.hid (X8.out.grM gg (MM.out.nt h8.out)); replace MM := Lib.hid mm; clear mm gg))
        by_cases e3 : g3 = 0
        · have z3 : (g3 == 0) = true := by simpa using e3
          clear e3 g31 g32
          go_upto_region 16 with fail
          have EW := Lib.hid (fun n (h1 : -2 ≤ n) (h2 : n ≤ 2) => IntWalk.i64_in (v + n) (by omega))
          try simp only [List.getElem_toArray, List.getElem_cons_succ, List.getElem_cons_zero, Act.put, List.setIfInBounds_toArray, List.set_cons_zero, List.set_cons_succ]
          refine wp_region_M (fun wS => Tm w B tv zs wS ∧ Bx wS B8 #[.int .i64 v, .int .i64 (-u)] 32 ∧ Bx wS B7 #[.int .i64 u, .int .i64 v] 32 ∧ Bx wS B2 #[.int .i64 0, .int .i64 0] 32 ∧ Bx wS B3 #[.int .i64 0, .int .i64 0] 32) 6 (by kernel_rfl) ?_
          have hSS : (fun wS => Tm w B tv zs wS ∧ Bx wS B8 #[.int .i64 v, .int .i64 (-u)] 32 ∧ Bx wS B7 #[.int .i64 u, .int .i64 v] 32 ∧ Bx wS B2 #[.int .i64 0, .int .i64 0] 32 ∧ Bx wS B3 #[.int .i64 0, .int .i64 0] 32) (World.drew _) := ⟨MM.out.new (qw_drew1 _), X8.out.kept (qw_drew1 _), X7.out.kept (qw_drew1 _), X2.out.kept (qw_drew1 _), X3.out.kept (qw_drew1 _)⟩
          skip
          refine wpM_named (S' := fun wS => Tm w B tv zs wS ∧ Bx wS B8 #[.int .i64 v, .int .i64 (-u)] 32 ∧ Bx wS B7 #[.int .i64 u, .int .i64 v] 32 ∧ Bx wS B2 #[.int .i64 0, .int .i64 0] 32 ∧ Bx wS B3 #[.int .i64 0, .int .i64 0] 32) hSS ?_
          intro wd hSS
          refine wpAnyM_take (i := 0) (v := ?_) rfl (by kernel_rfl) (fun _ _ _ h => h) (Or.inl ⟨by rfl, ?_⟩) hSS ?_
          rotate_left 1
          · intro wS hwS
            go_simp
            try with_reducible rfl
          simp only [List.getElem_toArray, List.getElem_cons_succ, List.getElem_cons_zero, Act.put, List.setIfInBounds_toArray, List.set_cons_zero, List.set_cons_succ]
          refine wpAnyM_take (i := 1) (v := ?_) rfl (by kernel_rfl) (fun _ _ _ h => h) (Or.inl ⟨by rfl, ?_⟩) hSS ?_
          rotate_left 1
          · intro wS hwS
            have y0 := (hwS.2.1).p0; go_simp
            try with_reducible rfl
          simp only [List.getElem_toArray, List.getElem_cons_succ, List.getElem_cons_zero, Act.put, List.setIfInBounds_toArray, List.set_cons_zero, List.set_cons_succ]
          refine wpAnyM_take (i := 2) (v := ?_) rfl (by kernel_rfl) (fun _ _ _ h => h) (Or.inl ⟨by rfl, ?_⟩) hSS ?_
          rotate_left 1
          · intro wS hwS
            go_simp
            try with_reducible rfl
          simp only [List.getElem_toArray, List.getElem_cons_succ, List.getElem_cons_zero, Act.put, List.setIfInBounds_toArray, List.set_cons_zero, List.set_cons_succ]
          refine wpAnyM_one (i := 3) rfl (by kernel_rfl) rfl (fun K hK => ?_)
          go_simp
          refine (RG.out (-2) 2 (by decide) (by decide) (by decide) _ hSS.1).mono ?_
          rintro e wE ⟨⟨kk3, rfl, kk1, kk2⟩, mm, gg⟩
          have m2 : (fun wS => Tm w B tv zs wS ∧ Bx wS B8 #[.int .i64 v, .int .i64 (-u)] 32 ∧ Bx wS B7 #[.int .i64 u, .int .i64 v] 32 ∧ Bx wS B2 #[.int .i64 0, .int .i64 0] 32 ∧ Bx wS B3 #[.int .i64 0, .int .i64 0] 32) wE := ⟨mm, (hSS.2.1).grM gg (hSS.1.nt h8.out), (hSS.2.2.1).grM gg (hSS.1.nt h7.out), (hSS.2.2.2.1).grM gg (hSS.1.nt h2.out), (hSS.2.2.2.2).grM gg (hSS.1.nt h3.out)⟩
          clear mm gg
          refine hK _ _ (fun _ => m2) ?_
          clear hK K hSS
          have hSS := m2
          clear m2
          try simp only [List.getElem_toArray, List.getElem_cons_succ, List.getElem_cons_zero, Act.put, List.setIfInBounds_toArray, List.set_cons_zero, List.set_cons_succ]
          refine wpAnyM_take (i := 4) (v := ?_) rfl (by kernel_rfl) (fun _ _ _ h => h) (Or.inl ⟨by rfl, ?_⟩) hSS ?_
          rotate_left 1
          · intro wS hwS
            have ew := EW.out kk3 kk1 kk2; go_simp
            try with_reducible rfl
          simp only [List.getElem_toArray, List.getElem_cons_succ, List.getElem_cons_zero, Act.put, List.setIfInBounds_toArray, List.set_cons_zero, List.set_cons_succ]
          refine wpAnyM_take (i := 5) (v := ?_) rfl (by kernel_rfl) (fun _ _ _ h => h) (Or.inl ⟨by rfl, ?_⟩) hSS ?_
          rotate_left 1
          · intro wS hwS
            go_simp
            try with_reducible rfl
          simp only [List.getElem_toArray, List.getElem_cons_succ, List.getElem_cons_zero, Act.put, List.setIfInBounds_toArray, List.set_cons_zero, List.set_cons_succ]
          refine wpAnyM_one (i := 6) rfl (by kernel_rfl) rfl (fun K hK => ?_)
          have z0 := (hSS.2.1).p0
          have y0 := (hSS.2.1).free 0
          go_simp
          have MM2 := Lib.hid (hSS.1.set h8.out 0 (.int .i64 (v + kk3)))
          have X82 := Lib.hid ((hSS.2.1).set 0 (.int .i64 (v + kk3)))
          have X72 := Lib.hid ((hSS.2.2.1).other (a := ⟨B8, 0, none⟩) (by first | exact (n7_8).out | exact (m8_7).out) (.int .i64 (v + kk3)))
          have X22 := Lib.hid ((hSS.2.2.2.1).other (a := ⟨B8, 0, none⟩) (by first | exact (n2_8).out | exact (m8_2).out) (.int .i64 (v + kk3)))
          have X32 := Lib.hid ((hSS.2.2.2.2).other (a := ⟨B8, 0, none⟩) (by first | exact (n3_8).out | exact (m8_3).out) (.int .i64 (v + kk3)))
          refine hK _ _ (fun h => absurd h (by decide)) ?_
          clear hK K hSS z0 y0
          try simp only [List.getElem_toArray, List.getElem_cons_succ, List.getElem_cons_zero, Act.put, List.setIfInBounds_toArray, List.set_cons_zero, List.set_cons_succ]
          refine wpAnyM_done (by kernel_rfl) ?_ _
          clear MM X8 X7 X2 X3
          generalize World.setCell wE ⟨B8, 0, none⟩ (.int .i64 (v + kk3)) = wF at *
          have MM := MM2
          have X8 : Hid (Bx wF B8 #[.int .i64 (v + kk3), .int .i64 (-u)] 32) := X82
          have X7 := X72
          have X2 := X22
          have X3 := X32
          clear MM2 X82 X72 X22 X32
          go_upto_region 17 with fail
          have ft := fun w' => arFit u v (v + kk3) (-u) false (by omega) (by omega) (by omega) (by omega) (by omega) (by omega) (by omega) (by omega) w'
          have AG := Lib.hid (agr_of u v (v + kk3) (-u) false)
          generalize ok : (Ac.fit (Ac.inn u v u v) (Ac.inn (v + kk3) (-u) (v + kk3) (-u)) && Ac.agr false u v (v + kk3) (-u)) = okk at *
          have FT := Lib.hid ft
          have OK := Lib.hid ok
          clear ft ok
          try simp only [List.getElem_toArray, List.getElem_cons_succ, List.getElem_cons_zero, Act.put, List.setIfInBounds_toArray, List.set_cons_zero, List.set_cons_succ]
          refine wp_region_M (fun wS => Tm w B tv zs wS ∧ Bx wS B7 #[.int .i64 u, .int .i64 v] 32 ∧ Bx wS B8 #[.int .i64 (v + kk3), .int .i64 (-u)] 32) 10 (by kernel_rfl) ?_
          have hSS : (fun wS => Tm w B tv zs wS ∧ Bx wS B7 #[.int .i64 u, .int .i64 v] 32 ∧ Bx wS B8 #[.int .i64 (v + kk3), .int .i64 (-u)] 32) (World.drew _) := ⟨MM.out.new (qw_drew1 _), X7.out.kept (qw_drew1 _), X8.out.kept (qw_drew1 _)⟩
          replace X2 := Lib.hid (X2.out.kept (qw_drew1 _))
          replace X3 := Lib.hid (X3.out.kept (qw_drew1 _))
          refine wpM_named (S' := fun wS => (fun wS => Tm w B tv zs wS ∧ Bx wS B7 #[.int .i64 u, .int .i64 v] 32 ∧ Bx wS B8 #[.int .i64 (v + kk3), .int .i64 (-u)] 32) wS ∧ Bx wS B2 #[.int .i64 0, .int .i64 0] 32 ∧ Bx wS B3 #[.int .i64 0, .int .i64 0] 32) ⟨hSS, X2.out, X3.out⟩ ?_
          clear X2 X3 hSS MM X7 X8
          rintro wd ⟨hSS, x2, x3⟩
          have X2 := Lib.hid x2
          have X3 := Lib.hid x3
          clear x2 x3
          refine wpAnyM_take (i := 0) (v := ?_) rfl (by kernel_rfl) (fun _ _ _ h => h) (Or.inl ⟨by rfl, ?_⟩) hSS ?_
          rotate_left 1
          · intro wS hwS
            have y0 := hwS.2.1.p0; have y1 := hwS.2.1.p1; go_simp
            try with_reducible rfl
          simp only [List.getElem_toArray, List.getElem_cons_succ, List.getElem_cons_zero, Act.put, List.setIfInBounds_toArray, List.set_cons_zero, List.set_cons_succ]
          refine wpAnyM_take (i := 2) (v := ?_) rfl (by kernel_rfl) (fun _ _ _ h => h) (Or.inl ⟨by rfl, ?_⟩) hSS ?_
          rotate_left 1
          · intro wS hwS
            go_simp
            try with_reducible rfl
          simp only [List.getElem_toArray, List.getElem_cons_succ, List.getElem_cons_zero, Act.put, List.setIfInBounds_toArray, List.set_cons_zero, List.set_cons_succ]
          refine wpAnyM_takeT (i := 3) (v := ?_) [6, 7, 8, 9, 10] [] rfl (by kernel_rfl) (fun _ _ _ h => h) (Or.inl ⟨by rfl, ?_⟩) hSS ?_
          rotate_left 1
          · intro wS hwS
            have y0 := hwS.2.1.p0; have y1 := hwS.2.1.p1; go_simp
            try with_reducible rfl
          simp only [List.getElem_toArray, List.getElem_cons_succ, List.getElem_cons_zero, Act.put, List.setIfInBounds_toArray, List.set_cons_zero, List.set_cons_succ]
          refine wpAnyM_takeT (i := 4) (v := ?_) [6, 7, 8, 9, 10] [] rfl (by kernel_rfl) (fun _ _ _ h => h) (Or.inl ⟨by rfl, ?_⟩) hSS ?_
          rotate_left 1
          · intro wS hwS
            have y0 := hwS.2.2.p0; have y1 := hwS.2.2.p1; go_simp
            try with_reducible rfl
          simp only [List.getElem_toArray, List.getElem_cons_succ, List.getElem_cons_zero, Act.put, List.setIfInBounds_toArray, List.set_cons_zero, List.set_cons_succ]
          refine wpAnyM_take (i := 5) (v := ?_) rfl (by kernel_rfl) (fun _ _ _ h => h) (Or.inl ⟨by rfl, ?_⟩) hSS ?_
          rotate_left 1
          · intro wS hwS
            go_simp
            try with_reducible rfl
          simp only [List.getElem_toArray, List.getElem_cons_succ, List.getElem_cons_zero, Act.put, List.setIfInBounds_toArray, List.set_cons_zero, List.set_cons_succ]
          refine wpAnyM_two (i := 1) (j := 6) rfl rfl (by kernel_rfl) rfl rfl (fun K hK => ?_) (fun K hK => ?_)
          · have z0 := hSS.2.2.p0
            have z1 := hSS.2.2.p1
            go_simp
            refine hK _ _ (fun _ => hSS) ?_
            clear hK K z0 z1
            try simp only [List.getElem_toArray, List.getElem_cons_succ, List.getElem_cons_zero, Act.put, List.setIfInBounds_toArray, List.set_cons_zero, List.set_cons_succ]
            refine wpAnyM_one (i := 6) rfl (by kernel_rfl) rfl (fun K hK => ?_)
            go_simp
            refine (FT.out _).mono ?_
            rintro e wE ⟨rfl, qq⟩
            have m2 : (fun wS => Tm w B tv zs wS ∧ Bx wS B7 #[.int .i64 u, .int .i64 v] 32 ∧ Bx wS B8 #[.int .i64 (v + kk3), .int .i64 (-u)] 32) wE := ⟨hSS.1.new qq, hSS.2.1.kept qq, hSS.2.2.kept qq⟩
            replace X2 := Lib.hid (X2.out.kept qq)
            replace X3 := Lib.hid (X3.out.kept qq)
            refine hK _ _ (fun _ => m2) ?_
            clear hK K hSS qq
            have hSS := m2
            clear m2
            try simp only [List.getElem_toArray, List.getElem_cons_succ, List.getElem_cons_zero, Act.put, List.setIfInBounds_toArray, List.set_cons_zero, List.set_cons_succ]
            refine wpAnyM_one (i := 7) rfl (by kernel_rfl) rfl (fun K hK => ?_)
            have z0 := X2.out.p0
            have z1 := X2.out.p1
            have y0 := X2.out.free 0
            have y1 := X2.out.free 1
            go_simp
            have hZ := X2.out.st2 (.int .i64 u) (.int .i64 v)
            have m2 := And.intro ((hSS.1.set h2.out 0 (.int .i64 u)).set h2.out 1 (.int .i64 v)) (And.intro (hSS.2.1.otA2 n7_2.out (.int .i64 u) (.int .i64 v)) (hSS.2.2.otA2 n8_2.out (.int .i64 u) (.int .i64 v)))
            replace X3 := Lib.hid (X3.out.otA2 n3_2.out (.int .i64 u) (.int .i64 v))
            replace X2 := Lib.hid hZ
            refine hK _ _ (fun _ => m2) ?_
            clear hK K hSS hZ z0 z1 y0 y1
            have hSS := m2
            clear m2
            try simp only [List.getElem_toArray, List.getElem_cons_succ, List.getElem_cons_zero, Act.put, List.setIfInBounds_toArray, List.set_cons_zero, List.set_cons_succ]
            refine wpAnyM_one (i := 8) rfl (by kernel_rfl) rfl (fun K hK => ?_)
            have z0 := X3.out.p0
            have z1 := X3.out.p1
            have y0 := X3.out.free 0
            have y1 := X3.out.free 1
            go_simp
            have hZ := X3.out.st2 (.int .i64 (v + kk3)) (.int .i64 (-u))
            have m2 := And.intro ((hSS.1.set h3.out 0 (.int .i64 (v + kk3))).set h3.out 1 (.int .i64 (-u))) (And.intro (hSS.2.1.otA2 n7_3.out (.int .i64 (v + kk3)) (.int .i64 (-u))) (hSS.2.2.otA2 n8_3.out (.int .i64 (v + kk3)) (.int .i64 (-u))))
            replace X2 := Lib.hid (X2.out.otA2 m3_2.out (.int .i64 (v + kk3)) (.int .i64 (-u)))
            replace X3 := Lib.hid hZ
            refine hK _ _ (fun _ => m2) ?_
            clear hK K hSS hZ z0 z1 y0 y1
            have hSS := m2
            clear m2
            try simp only [List.getElem_toArray, List.getElem_cons_succ, List.getElem_cons_zero, Act.put, List.setIfInBounds_toArray, List.set_cons_zero, List.set_cons_succ]
            refine wpAnyM_one (i := 9) rfl (by kernel_rfl) rfl (fun K hK => ?_)
            go_simp
            refine hK _ _ (fun _ => hSS) ?_
            clear hK K
            try simp only [List.getElem_toArray, List.getElem_cons_succ, List.getElem_cons_zero, Act.put, List.setIfInBounds_toArray, List.set_cons_zero, List.set_cons_succ]
            refine wpAnyM_one (i := 10) rfl (by kernel_rfl) rfl (fun K hK => ?_)
            go_simp
            refine hK _ _ (fun h => absurd h (by decide)) ?_
            clear hK K
            try simp only [List.getElem_toArray, List.getElem_cons_succ, List.getElem_cons_zero, Act.put, List.setIfInBounds_toArray, List.set_cons_zero, List.set_cons_succ]
            refine wpAnyM_done (by kernel_rfl) ?_ _
            go_wp2
            have c2_0 := X2.out.p0
            have c2_1 := X2.out.p1
            have c3_0 := X3.out.p0
            have c3_1 := X3.out.p1
            exact bodyPost_ret (v := .tuple #[.agg #[.int .i64 u, .int .i64 v], .agg #[.int .i64 (v + kk3), .int .i64 (-u)], .bool false, .bool okk]) (by simp [results, Try.results67, go_sem, c2_0, c2_1, c3_0, c3_1]) rfl (by show SpkR w0 w B tv zs _ _; unfold SpkR; exact ⟨⟨u, v, (v + kk3), (-u), false, okk, rfl, by omega, by omega, by omega, by omega, fun hk => AG.out hk⟩, ⟨hSS.1.t, HM.out.g.trans hSS.1.g, HM.out.b⟩, hSS.1.g⟩)
          · go_simp
            refine (FT.out _).mono ?_
            rintro e wE ⟨rfl, qq⟩
            have m2 : (fun wS => Tm w B tv zs wS ∧ Bx wS B7 #[.int .i64 u, .int .i64 v] 32 ∧ Bx wS B8 #[.int .i64 (v + kk3), .int .i64 (-u)] 32) wE := ⟨hSS.1.new qq, hSS.2.1.kept qq, hSS.2.2.kept qq⟩
            replace X2 := Lib.hid (X2.out.kept qq)
            replace X3 := Lib.hid (X3.out.kept qq)
            refine hK _ _ (fun _ => m2) ?_
            clear hK K hSS qq
            have hSS := m2
            clear m2
            try simp only [List.getElem_toArray, List.getElem_cons_succ, List.getElem_cons_zero, Act.put, List.setIfInBounds_toArray, List.set_cons_zero, List.set_cons_succ]
            refine wpAnyM_two (i := 1) (j := 7) rfl rfl (by kernel_rfl) rfl rfl (fun K hK => ?_) (fun K hK => ?_)
            · have z0 := hSS.2.2.p0
              have z1 := hSS.2.2.p1
              go_simp
              refine hK _ _ (fun _ => hSS) ?_
              clear hK K z0 z1
              try simp only [List.getElem_toArray, List.getElem_cons_succ, List.getElem_cons_zero, Act.put, List.setIfInBounds_toArray, List.set_cons_zero, List.set_cons_succ]
              refine wpAnyM_one (i := 7) rfl (by kernel_rfl) rfl (fun K hK => ?_)
              have z0 := X2.out.p0
              have z1 := X2.out.p1
              have y0 := X2.out.free 0
              have y1 := X2.out.free 1
              go_simp
              have hZ := X2.out.st2 (.int .i64 u) (.int .i64 v)
              have m2 := And.intro ((hSS.1.set h2.out 0 (.int .i64 u)).set h2.out 1 (.int .i64 v)) (And.intro (hSS.2.1.otA2 n7_2.out (.int .i64 u) (.int .i64 v)) (hSS.2.2.otA2 n8_2.out (.int .i64 u) (.int .i64 v)))
              replace X3 := Lib.hid (X3.out.otA2 n3_2.out (.int .i64 u) (.int .i64 v))
              replace X2 := Lib.hid hZ
              refine hK _ _ (fun _ => m2) ?_
              clear hK K hSS hZ z0 z1 y0 y1
              have hSS := m2
              clear m2
              try simp only [List.getElem_toArray, List.getElem_cons_succ, List.getElem_cons_zero, Act.put, List.setIfInBounds_toArray, List.set_cons_zero, List.set_cons_succ]
              refine wpAnyM_one (i := 8) rfl (by kernel_rfl) rfl (fun K hK => ?_)
              have z0 := X3.out.p0
              have z1 := X3.out.p1
              have y0 := X3.out.free 0
              have y1 := X3.out.free 1
              go_simp
              have hZ := X3.out.st2 (.int .i64 (v + kk3)) (.int .i64 (-u))
              have m2 := And.intro ((hSS.1.set h3.out 0 (.int .i64 (v + kk3))).set h3.out 1 (.int .i64 (-u))) (And.intro (hSS.2.1.otA2 n7_3.out (.int .i64 (v + kk3)) (.int .i64 (-u))) (hSS.2.2.otA2 n8_3.out (.int .i64 (v + kk3)) (.int .i64 (-u))))
              replace X2 := Lib.hid (X2.out.otA2 m3_2.out (.int .i64 (v + kk3)) (.int .i64 (-u)))
              replace X3 := Lib.hid hZ
              refine hK _ _ (fun _ => m2) ?_
              clear hK K hSS hZ z0 z1 y0 y1
              have hSS := m2
              clear m2
              try simp only [List.getElem_toArray, List.getElem_cons_succ, List.getElem_cons_zero, Act.put, List.setIfInBounds_toArray, List.set_cons_zero, List.set_cons_succ]
              refine wpAnyM_one (i := 9) rfl (by kernel_rfl) rfl (fun K hK => ?_)
              go_simp
              refine hK _ _ (fun _ => hSS) ?_
              clear hK K
              try simp only [List.getElem_toArray, List.getElem_cons_succ, List.getElem_cons_zero, Act.put, List.setIfInBounds_toArray, List.set_cons_zero, List.set_cons_succ]
              refine wpAnyM_one (i := 10) rfl (by kernel_rfl) rfl (fun K hK => ?_)
              go_simp
              refine hK _ _ (fun h => absurd h (by decide)) ?_
              clear hK K
              try simp only [List.getElem_toArray, List.getElem_cons_succ, List.getElem_cons_zero, Act.put, List.setIfInBounds_toArray, List.set_cons_zero, List.set_cons_succ]
              refine wpAnyM_done (by kernel_rfl) ?_ _
              go_wp2
              have c2_0 := X2.out.p0
              have c2_1 := X2.out.p1
              have c3_0 := X3.out.p0
              have c3_1 := X3.out.p1
              exact bodyPost_ret (v := .tuple #[.agg #[.int .i64 u, .int .i64 v], .agg #[.int .i64 (v + kk3), .int .i64 (-u)], .bool false, .bool okk]) (by simp [results, Try.results67, go_sem, c2_0, c2_1, c3_0, c3_1]) rfl (by show SpkR w0 w B tv zs _ _; unfold SpkR; exact ⟨⟨u, v, (v + kk3), (-u), false, okk, rfl, by omega, by omega, by omega, by omega, fun hk => AG.out hk⟩, ⟨hSS.1.t, HM.out.g.trans hSS.1.g, HM.out.b⟩, hSS.1.g⟩)
            · have z0 := X2.out.p0
              have z1 := X2.out.p1
              have y0 := X2.out.free 0
              have y1 := X2.out.free 1
              go_simp
              have hZ := X2.out.st2 (.int .i64 u) (.int .i64 v)
              have m2 := And.intro ((hSS.1.set h2.out 0 (.int .i64 u)).set h2.out 1 (.int .i64 v)) (And.intro (hSS.2.1.otA2 n7_2.out (.int .i64 u) (.int .i64 v)) (hSS.2.2.otA2 n8_2.out (.int .i64 u) (.int .i64 v)))
              replace X3 := Lib.hid (X3.out.otA2 n3_2.out (.int .i64 u) (.int .i64 v))
              replace X2 := Lib.hid hZ
              refine hK _ _ (fun _ => m2) ?_
              clear hK K hSS hZ z0 z1 y0 y1
              have hSS := m2
              clear m2
              try simp only [List.getElem_toArray, List.getElem_cons_succ, List.getElem_cons_zero, Act.put, List.setIfInBounds_toArray, List.set_cons_zero, List.set_cons_succ]
              refine wpAnyM_one (i := 1) rfl (by kernel_rfl) rfl (fun K hK => ?_)
              have z0 := hSS.2.2.p0
              have z1 := hSS.2.2.p1
              go_simp
              refine hK _ _ (fun _ => hSS) ?_
              clear hK K z0 z1
              try simp only [List.getElem_toArray, List.getElem_cons_succ, List.getElem_cons_zero, Act.put, List.setIfInBounds_toArray, List.set_cons_zero, List.set_cons_succ]
              refine wpAnyM_one (i := 8) rfl (by kernel_rfl) rfl (fun K hK => ?_)
              have z0 := X3.out.p0
              have z1 := X3.out.p1
              have y0 := X3.out.free 0
              have y1 := X3.out.free 1
              go_simp
              have hZ := X3.out.st2 (.int .i64 (v + kk3)) (.int .i64 (-u))
              have m2 := And.intro ((hSS.1.set h3.out 0 (.int .i64 (v + kk3))).set h3.out 1 (.int .i64 (-u))) (And.intro (hSS.2.1.otA2 n7_3.out (.int .i64 (v + kk3)) (.int .i64 (-u))) (hSS.2.2.otA2 n8_3.out (.int .i64 (v + kk3)) (.int .i64 (-u))))
              replace X2 := Lib.hid (X2.out.otA2 m3_2.out (.int .i64 (v + kk3)) (.int .i64 (-u)))
              replace X3 := Lib.hid hZ
              refine hK _ _ (fun _ => m2) ?_
              clear hK K hSS hZ z0 z1 y0 y1
              have hSS := m2
              clear m2
              try simp only [List.getElem_toArray, List.getElem_cons_succ, List.getElem_cons_zero, Act.put, List.setIfInBounds_toArray, List.set_cons_zero, List.set_cons_succ]
              refine wpAnyM_one (i := 9) rfl (by kernel_rfl) rfl (fun K hK => ?_)
              go_simp
              refine hK _ _ (fun _ => hSS) ?_
              clear hK K
              try simp only [List.getElem_toArray, List.getElem_cons_succ, List.getElem_cons_zero, Act.put, List.setIfInBounds_toArray, List.set_cons_zero, List.set_cons_succ]
              refine wpAnyM_one (i := 10) rfl (by kernel_rfl) rfl (fun K hK => ?_)
              go_simp
              refine hK _ _ (fun h => absurd h (by decide)) ?_
              clear hK K
              try simp only [List.getElem_toArray, List.getElem_cons_succ, List.getElem_cons_zero, Act.put, List.setIfInBounds_toArray, List.set_cons_zero, List.set_cons_succ]
              refine wpAnyM_done (by kernel_rfl) ?_ _
              go_wp2
              have c2_0 := X2.out.p0
              have c2_1 := X2.out.p1
              have c3_0 := X3.out.p0
              have c3_1 := X3.out.p1
              exact bodyPost_ret (v := .tuple #[.agg #[.int .i64 u, .int .i64 v], .agg #[.int .i64 (v + kk3), .int .i64 (-u)], .bool false, .bool okk]) (by simp [results, Try.results67, go_sem, c2_0, c2_1, c3_0, c3_1]) rfl (by show SpkR w0 w B tv zs _ _; unfold SpkR; exact ⟨⟨u, v, (v + kk3), (-u), false, okk, rfl, by omega, by omega, by omega, by omega, fun hk => AG.out hk⟩, ⟨hSS.1.t, HM.out.g.trans hSS.1.g, HM.out.b⟩, hSS.1.g⟩)
        · have z3 : (g3 == 0) = false := beq_eq_false_iff_ne.2 e3
          clear e3 g31 g32
          go_upto_region 17 with fail
          have ft := fun w' => arFit u v v (-u) false (by omega) (by omega) (by omega) (by omega) (by omega) (by omega) (by omega) (by omega) w'
          have AG := Lib.hid (agr_of u v v (-u) false)
          generalize ok : (Ac.fit (Ac.inn u v u v) (Ac.inn v (-u) v (-u)) && Ac.agr false u v v (-u)) = okk at *
          have FT := Lib.hid ft
          have OK := Lib.hid ok
          clear ft ok
          try simp only [List.getElem_toArray, List.getElem_cons_succ, List.getElem_cons_zero, Act.put, List.setIfInBounds_toArray, List.set_cons_zero, List.set_cons_succ]
          refine wp_region_M (fun wS => Tm w B tv zs wS ∧ Bx wS B7 #[.int .i64 u, .int .i64 v] 32 ∧ Bx wS B8 #[.int .i64 v, .int .i64 (-u)] 32) 10 (by kernel_rfl) ?_
          have hSS : (fun wS => Tm w B tv zs wS ∧ Bx wS B7 #[.int .i64 u, .int .i64 v] 32 ∧ Bx wS B8 #[.int .i64 v, .int .i64 (-u)] 32) (World.drew _) := ⟨MM.out.new (qw_drew1 _), X7.out.kept (qw_drew1 _), X8.out.kept (qw_drew1 _)⟩
          replace X2 := Lib.hid (X2.out.kept (qw_drew1 _))
          replace X3 := Lib.hid (X3.out.kept (qw_drew1 _))
          refine wpM_named (S' := fun wS => (fun wS => Tm w B tv zs wS ∧ Bx wS B7 #[.int .i64 u, .int .i64 v] 32 ∧ Bx wS B8 #[.int .i64 v, .int .i64 (-u)] 32) wS ∧ Bx wS B2 #[.int .i64 0, .int .i64 0] 32 ∧ Bx wS B3 #[.int .i64 0, .int .i64 0] 32) ⟨hSS, X2.out, X3.out⟩ ?_
          clear X2 X3 hSS MM X7 X8
          rintro wd ⟨hSS, x2, x3⟩
          have X2 := Lib.hid x2
          have X3 := Lib.hid x3
          clear x2 x3
          refine wpAnyM_take (i := 0) (v := ?_) rfl (by kernel_rfl) (fun _ _ _ h => h) (Or.inl ⟨by rfl, ?_⟩) hSS ?_
          rotate_left 1
          · intro wS hwS
            have y0 := hwS.2.1.p0; have y1 := hwS.2.1.p1; go_simp
            try with_reducible rfl
          simp only [List.getElem_toArray, List.getElem_cons_succ, List.getElem_cons_zero, Act.put, List.setIfInBounds_toArray, List.set_cons_zero, List.set_cons_succ]
          refine wpAnyM_take (i := 2) (v := ?_) rfl (by kernel_rfl) (fun _ _ _ h => h) (Or.inl ⟨by rfl, ?_⟩) hSS ?_
          rotate_left 1
          · intro wS hwS
            go_simp
            try with_reducible rfl
          simp only [List.getElem_toArray, List.getElem_cons_succ, List.getElem_cons_zero, Act.put, List.setIfInBounds_toArray, List.set_cons_zero, List.set_cons_succ]
          refine wpAnyM_takeT (i := 3) (v := ?_) [6, 7, 8, 9, 10] [] rfl (by kernel_rfl) (fun _ _ _ h => h) (Or.inl ⟨by rfl, ?_⟩) hSS ?_
          rotate_left 1
          · intro wS hwS
            have y0 := hwS.2.1.p0; have y1 := hwS.2.1.p1; go_simp
            try with_reducible rfl
          simp only [List.getElem_toArray, List.getElem_cons_succ, List.getElem_cons_zero, Act.put, List.setIfInBounds_toArray, List.set_cons_zero, List.set_cons_succ]
          refine wpAnyM_takeT (i := 4) (v := ?_) [6, 7, 8, 9, 10] [] rfl (by kernel_rfl) (fun _ _ _ h => h) (Or.inl ⟨by rfl, ?_⟩) hSS ?_
          rotate_left 1
          · intro wS hwS
            have y0 := hwS.2.2.p0; have y1 := hwS.2.2.p1; go_simp
            try with_reducible rfl
          simp only [List.getElem_toArray, List.getElem_cons_succ, List.getElem_cons_zero, Act.put, List.setIfInBounds_toArray, List.set_cons_zero, List.set_cons_succ]
          refine wpAnyM_take (i := 5) (v := ?_) rfl (by kernel_rfl) (fun _ _ _ h => h) (Or.inl ⟨by rfl, ?_⟩) hSS ?_
          rotate_left 1
          · intro wS hwS
            go_simp
            try with_reducible rfl
          simp only [List.getElem_toArray, List.getElem_cons_succ, List.getElem_cons_zero, Act.put, List.setIfInBounds_toArray, List.set_cons_zero, List.set_cons_succ]
          refine wpAnyM_two (i := 1) (j := 6) rfl rfl (by kernel_rfl) rfl rfl (fun K hK => ?_) (fun K hK => ?_)
          · have z0 := hSS.2.2.p0
            have z1 := hSS.2.2.p1
            go_simp
            refine hK _ _ (fun _ => hSS) ?_
            clear hK K z0 z1
            try simp only [List.getElem_toArray, List.getElem_cons_succ, List.getElem_cons_zero, Act.put, List.setIfInBounds_toArray, List.set_cons_zero, List.set_cons_succ]
            refine wpAnyM_one (i := 6) rfl (by kernel_rfl) rfl (fun K hK => ?_)
            go_simp
            refine (FT.out _).mono ?_
            rintro e wE ⟨rfl, qq⟩
            have m2 : (fun wS => Tm w B tv zs wS ∧ Bx wS B7 #[.int .i64 u, .int .i64 v] 32 ∧ Bx wS B8 #[.int .i64 v, .int .i64 (-u)] 32) wE := ⟨hSS.1.new qq, hSS.2.1.kept qq, hSS.2.2.kept qq⟩
            replace X2 := Lib.hid (X2.out.kept qq)
            replace X3 := Lib.hid (X3.out.kept qq)
            refine hK _ _ (fun _ => m2) ?_
            clear hK K hSS qq
            have hSS := m2
            clear m2
            try simp only [List.getElem_toArray, List.getElem_cons_succ, List.getElem_cons_zero, Act.put, List.setIfInBounds_toArray, List.set_cons_zero, List.set_cons_succ]
            refine wpAnyM_one (i := 7) rfl (by kernel_rfl) rfl (fun K hK => ?_)
            have z0 := X2.out.p0
            have z1 := X2.out.p1
            have y0 := X2.out.free 0
            have y1 := X2.out.free 1
            go_simp
            have hZ := X2.out.st2 (.int .i64 u) (.int .i64 v)
            have m2 := And.intro ((hSS.1.set h2.out 0 (.int .i64 u)).set h2.out 1 (.int .i64 v)) (And.intro (hSS.2.1.otA2 n7_2.out (.int .i64 u) (.int .i64 v)) (hSS.2.2.otA2 n8_2.out (.int .i64 u) (.int .i64 v)))
            replace X3 := Lib.hid (X3.out.otA2 n3_2.out (.int .i64 u) (.int .i64 v))
            replace X2 := Lib.hid hZ
            refine hK _ _ (fun _ => m2) ?_
            clear hK K hSS hZ z0 z1 y0 y1
            have hSS := m2
            clear m2
            try simp only [List.getElem_toArray, List.getElem_cons_succ, List.getElem_cons_zero, Act.put, List.setIfInBounds_toArray, List.set_cons_zero, List.set_cons_succ]
            refine wpAnyM_one (i := 8) rfl (by kernel_rfl) rfl (fun K hK => ?_)
            have z0 := X3.out.p0
            have z1 := X3.out.p1
            have y0 := X3.out.free 0
            have y1 := X3.out.free 1
            go_simp
            have hZ := X3.out.st2 (.int .i64 v) (.int .i64 (-u))
            have m2 := And.intro ((hSS.1.set h3.out 0 (.int .i64 v)).set h3.out 1 (.int .i64 (-u))) (And.intro (hSS.2.1.otA2 n7_3.out (.int .i64 v) (.int .i64 (-u))) (hSS.2.2.otA2 n8_3.out (.int .i64 v) (.int .i64 (-u))))
            replace X2 := Lib.hid (X2.out.otA2 m3_2.out (.int .i64 v) (.int .i64 (-u)))
            replace X3 := Lib.hid hZ
            refine hK _ _ (fun _ => m2) ?_
            clear hK K hSS hZ z0 z1 y0 y1
            have hSS := m2
            clear m2
            try simp only [List.getElem_toArray, List.getElem_cons_succ, List.getElem_cons_zero, Act.put, List.setIfInBounds_toArray, List.set_cons_zero, List.set_cons_succ]
            refine wpAnyM_one (i := 9) rfl (by kernel_rfl) rfl (fun K hK => ?_)
            go_simp
            refine hK _ _ (fun _ => hSS) ?_
            clear hK K
            try simp only [List.getElem_toArray, List.getElem_cons_succ, List.getElem_cons_zero, Act.put, List.setIfInBounds_toArray, List.set_cons_zero, List.set_cons_succ]
            refine wpAnyM_one (i := 10) rfl (by kernel_rfl) rfl (fun K hK => ?_)
            go_simp
            refine hK _ _ (fun h => absurd h (by decide)) ?_
            clear hK K
            try simp only [List.getElem_toArray, List.getElem_cons_succ, List.getElem_cons_zero, Act.put, List.setIfInBounds_toArray, List.set_cons_zero, List.set_cons_succ]
            refine wpAnyM_done (by kernel_rfl) ?_ _
            go_wp2
            have c2_0 := X2.out.p0
            have c2_1 := X2.out.p1
            have c3_0 := X3.out.p0
            have c3_1 := X3.out.p1
            exact bodyPost_ret (v := .tuple #[.agg #[.int .i64 u, .int .i64 v], .agg #[.int .i64 v, .int .i64 (-u)], .bool false, .bool okk]) (by simp [results, Try.results67, go_sem, c2_0, c2_1, c3_0, c3_1]) rfl (by show SpkR w0 w B tv zs _ _; unfold SpkR; exact ⟨⟨u, v, v, (-u), false, okk, rfl, by omega, by omega, by omega, by omega, fun hk => AG.out hk⟩, ⟨hSS.1.t, HM.out.g.trans hSS.1.g, HM.out.b⟩, hSS.1.g⟩)
          · go_simp
            refine (FT.out _).mono ?_
            rintro e wE ⟨rfl, qq⟩
            have m2 : (fun wS => Tm w B tv zs wS ∧ Bx wS B7 #[.int .i64 u, .int .i64 v] 32 ∧ Bx wS B8 #[.int .i64 v, .int .i64 (-u)] 32) wE := ⟨hSS.1.new qq, hSS.2.1.kept qq, hSS.2.2.kept qq⟩
            replace X2 := Lib.hid (X2.out.kept qq)
            replace X3 := Lib.hid (X3.out.kept qq)
            refine hK _ _ (fun _ => m2) ?_
            clear hK K hSS qq
            have hSS := m2
            clear m2
            try simp only [List.getElem_toArray, List.getElem_cons_succ, List.getElem_cons_zero, Act.put, List.setIfInBounds_toArray, List.set_cons_zero, List.set_cons_succ]
            refine wpAnyM_two (i := 1) (j := 7) rfl rfl (by kernel_rfl) rfl rfl (fun K hK => ?_) (fun K hK => ?_)
            · have z0 := hSS.2.2.p0
              have z1 := hSS.2.2.p1
              go_simp
              refine hK _ _ (fun _ => hSS) ?_
              clear hK K z0 z1
              try simp only [List.getElem_toArray, List.getElem_cons_succ, List.getElem_cons_zero, Act.put, List.setIfInBounds_toArray, List.set_cons_zero, List.set_cons_succ]
              refine wpAnyM_one (i := 7) rfl (by kernel_rfl) rfl (fun K hK => ?_)
              have z0 := X2.out.p0
              have z1 := X2.out.p1
              have y0 := X2.out.free 0
              have y1 := X2.out.free 1
              go_simp
              have hZ := X2.out.st2 (.int .i64 u) (.int .i64 v)
              have m2 := And.intro ((hSS.1.set h2.out 0 (.int .i64 u)).set h2.out 1 (.int .i64 v)) (And.intro (hSS.2.1.otA2 n7_2.out (.int .i64 u) (.int .i64 v)) (hSS.2.2.otA2 n8_2.out (.int .i64 u) (.int .i64 v)))
              replace X3 := Lib.hid (X3.out.otA2 n3_2.out (.int .i64 u) (.int .i64 v))
              replace X2 := Lib.hid hZ
              refine hK _ _ (fun _ => m2) ?_
              clear hK K hSS hZ z0 z1 y0 y1
              have hSS := m2
              clear m2
              try simp only [List.getElem_toArray, List.getElem_cons_succ, List.getElem_cons_zero, Act.put, List.setIfInBounds_toArray, List.set_cons_zero, List.set_cons_succ]
              refine wpAnyM_one (i := 8) rfl (by kernel_rfl) rfl (fun K hK => ?_)
              have z0 := X3.out.p0
              have z1 := X3.out.p1
              have y0 := X3.out.free 0
              have y1 := X3.out.free 1
              go_simp
              have hZ := X3.out.st2 (.int .i64 v) (.int .i64 (-u))
              have m2 := And.intro ((hSS.1.set h3.out 0 (.int .i64 v)).set h3.out 1 (.int .i64 (-u))) (And.intro (hSS.2.1.otA2 n7_3.out (.int .i64 v) (.int .i64 (-u))) (hSS.2.2.otA2 n8_3.out (.int .i64 v) (.int .i64 (-u))))
              replace X2 := Lib.hid (X2.out.otA2 m3_2.out (.int .i64 v) (.int .i64 (-u)))
              replace X3 := Lib.hid hZ
              refine hK _ _ (fun _ => m2) ?_
              clear hK K hSS hZ z0 z1 y0 y1
              have hSS := m2
              clear m2
              try simp only [List.getElem_toArray, List.getElem_cons_succ, List.getElem_cons_zero, Act.put, List.setIfInBounds_toArray, List.set_cons_zero, List.set_cons_succ]
              refine wpAnyM_one (i := 9) rfl (by kernel_rfl) rfl (fun K hK => ?_)
              go_simp
              refine hK _ _ (fun _ => hSS) ?_
              clear hK K
              try simp only [List.getElem_toArray, List.getElem_cons_succ, List.getElem_cons_zero, Act.put, List.setIfInBounds_toArray, List.set_cons_zero, List.set_cons_succ]
              refine wpAnyM_one (i := 10) rfl (by kernel_rfl) rfl (fun K hK => ?_)
              go_simp
              refine hK _ _ (fun h => absurd h (by decide)) ?_
              clear hK K
              try simp only [List.getElem_toArray, List.getElem_cons_succ, List.getElem_cons_zero, Act.put, List.setIfInBounds_toArray, List.set_cons_zero, List.set_cons_succ]
              refine wpAnyM_done (by kernel_rfl) ?_ _
              go_wp2
              have c2_0 := X2.out.p0
              have c2_1 := X2.out.p1
              have c3_0 := X3.out.p0
              have c3_1 := X3.out.p1
              exact bodyPost_ret (v := .tuple #[.agg #[.int .i64 u, .int .i64 v], .agg #[.int .i64 v, .int .i64 (-u)], .bool false, .bool okk]) (by simp [results, Try.results67, go_sem, c2_0, c2_1, c3_0, c3_1]) rfl (by show SpkR w0 w B tv zs _ _; unfold SpkR; exact ⟨⟨u, v, v, (-u), false, okk, rfl, by omega, by omega, by omega, by omega, fun hk => AG.out hk⟩, ⟨hSS.1.t, HM.out.g.trans hSS.1.g, HM.out.b⟩, hSS.1.g⟩)
            · have z0 := X2.out.p0
              have z1 := X2.out.p1
              have y0 := X2.out.free 0
              have y1 := X2.out.free 1
              go_simp
              have hZ := X2.out.st2 (.int .i64 u) (.int .i64 v)
              have m2 := And.intro ((hSS.1.set h2.out 0 (.int .i64 u)).set h2.out 1 (.int .i64 v)) (And.intro (hSS.2.1.otA2 n7_2.out (.int .i64 u) (.int .i64 v)) (hSS.2.2.otA2 n8_2.out (.int .i64 u) (.int .i64 v)))
              replace X3 := Lib.hid (X3.out.otA2 n3_2.out (.int .i64 u) (.int .i64 v))
              replace X2 := Lib.hid hZ
              refine hK _ _ (fun _ => m2) ?_
              clear hK K hSS hZ z0 z1 y0 y1
              have hSS := m2
              clear m2
              try simp only [List.getElem_toArray, List.getElem_cons_succ, List.getElem_cons_zero, Act.put, List.setIfInBounds_toArray, List.set_cons_zero, List.set_cons_succ]
              refine wpAnyM_one (i := 1) rfl (by kernel_rfl) rfl (fun K hK => ?_)
              have z0 := hSS.2.2.p0
              have z1 := hSS.2.2.p1
              go_simp
              refine hK _ _ (fun _ => hSS) ?_
              clear hK K z0 z1
              try simp only [List.getElem_toArray, List.getElem_cons_succ, List.getElem_cons_zero, Act.put, List.setIfInBounds_toArray, List.set_cons_zero, List.set_cons_succ]
              refine wpAnyM_one (i := 8) rfl (by kernel_rfl) rfl (fun K hK => ?_)
              have z0 := X3.out.p0
              have z1 := X3.out.p1
              have y0 := X3.out.free 0
              have y1 := X3.out.free 1
              go_simp
              have hZ := X3.out.st2 (.int .i64 v) (.int .i64 (-u))
              have m2 := And.intro ((hSS.1.set h3.out 0 (.int .i64 v)).set h3.out 1 (.int .i64 (-u))) (And.intro (hSS.2.1.otA2 n7_3.out (.int .i64 v) (.int .i64 (-u))) (hSS.2.2.otA2 n8_3.out (.int .i64 v) (.int .i64 (-u))))
              replace X2 := Lib.hid (X2.out.otA2 m3_2.out (.int .i64 v) (.int .i64 (-u)))
              replace X3 := Lib.hid hZ
              refine hK _ _ (fun _ => m2) ?_
              clear hK K hSS hZ z0 z1 y0 y1
              have hSS := m2
              clear m2
              try simp only [List.getElem_toArray, List.getElem_cons_succ, List.getElem_cons_zero, Act.put, List.setIfInBounds_toArray, List.set_cons_zero, List.set_cons_succ]
              refine wpAnyM_one (i := 9) rfl (by kernel_rfl) rfl (fun K hK => ?_)
              go_simp
              refine hK _ _ (fun _ => hSS) ?_
              clear hK K
              try simp only [List.getElem_toArray, List.getElem_cons_succ, List.getElem_cons_zero, Act.put, List.setIfInBounds_toArray, List.set_cons_zero, List.set_cons_succ]
              refine wpAnyM_one (i := 10) rfl (by kernel_rfl) rfl (fun K hK => ?_)
              go_simp
              refine hK _ _ (fun h => absurd h (by decide)) ?_
              clear hK K
              try simp only [List.getElem_toArray, List.getElem_cons_succ, List.getElem_cons_zero, Act.put, List.setIfInBounds_toArray, List.set_cons_zero, List.set_cons_succ]
              refine wpAnyM_done (by kernel_rfl) ?_ _
              go_wp2
              have c2_0 := X2.out.p0
              have c2_1 := X2.out.p1
              have c3_0 := X3.out.p0
              have c3_1 := X3.out.p1
              exact bodyPost_ret (v := .tuple #[.agg #[.int .i64 u, .int .i64 v], .agg #[.int .i64 v, .int .i64 (-u)], .bool false, .bool okk]) (by simp [results, Try.results67, go_sem, c2_0, c2_1, c3_0, c3_1]) rfl (by show SpkR w0 w B tv zs _ _; unfold SpkR; exact ⟨⟨u, v, v, (-u), false, okk, rfl, by omega, by omega, by omega, by omega, fun hk => AG.out hk⟩, ⟨hSS.1.t, HM.out.g.trans hSS.1.g, HM.out.b⟩, hSS.1.g⟩)
end Go.Proofs.Ytihmifdadikhaaa
