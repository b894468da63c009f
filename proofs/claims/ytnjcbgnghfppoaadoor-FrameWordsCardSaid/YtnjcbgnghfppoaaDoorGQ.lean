import Derived.Test.YtnjcbgnghfppoaaDoorGK
import Derived.Test.YtnjcbgnghfppoaaDoorGJ
import Derived.Test.YtnjcbgnghfppoaaDoorGMa
import Derived.Deep.DeepCutAuto
import Derived.Deep.Cut

/- Drawing vectors and frames from a tape. -/
set_option linter.unusedVariables false
set_option linter.unusedSimpArgs false
namespace Go.Proofs.YtnjcbgnghfppoaaDoor
open Go.RowKit

theorem grownRow' {w w1 : World} {B R : Nat} (g : w.grownBy w1 (some B)) (hR : w.heap.size ≤ R) (cs : Array Value) : w.grownBy (w1.setRow R cs) (some B) :=
  ⟨g.os, g.tape, g.output, by rw [setRow_size]; exact g.size, fun b hb hn => (setRow_other w1 R b cs (by omega)).trans (g.block b hb hn)⟩
theorem grownSetN {w w1 : World} {B R : Nat} (g : w.grownBy w1 (some B)) (hR : w.heap.size ≤ R) (k : Nat) (v : Value) : w.grownBy (w1.setCell ⟨R, k, none⟩ v) (some B) :=
  ⟨g.os, g.tape, g.output, by simpa using g.size, fun j hj hn => (Below.heap_setCell w1 ⟨R, k, none⟩ v j (by show j ≠ R; omega)).trans (g.block j hj hn)⟩
theorem grownOwn {w w1 : World} {B R : Nat} (g : w.grownBy w1 (some B)) (hR : w.heap.size ≤ R) (a b c : Value) : w.grownBy (((w1.setCell ⟨R, 0, none⟩ a).setCell ⟨R, 1, none⟩ b).setCell ⟨R, 2, none⟩ c) (some B) :=
  grownSetN (grownSetN (grownSetN g hR 0 a) hR 1 b) hR 2 c
/-- While something is drawn from the tape in block B. -/
structure Tm (w0 : World) (B : Nat) (tv : Value) (zs : List Int) (w : World) : Prop where
  t : ∃ k, TapeAt w B tv zs k
  g : w0.grownBy w (some B)
  b : B < w0.heap.size
section
variable {w0 w w' : World} {B P : Nat} {tv : Value} {zs : List Int} {cs : Array Value} {t : TypeId}
theorem Tm.of {k : Nat} (h : TapeAt w B tv zs k) : Tm w B tv zs w := ⟨⟨k, h⟩, grownR (w' := w), lt_of_block h.1⟩
theorem Tm.next {k : Nat} (h : Tm w0 B tv zs w) (t : TapeAt w' B tv zs k) (g : w.grownBy w' (some B)) : Tm w0 B tv zs w' := ⟨⟨k, t⟩, h.g.trans g, h.b⟩
theorem Tm.new (h : Tm w0 B tv zs w) (q : Qw w w') : Tm w0 B tv zs w' := by
  obtain ⟨⟨k, t⟩, g, b⟩ := h
  exact ⟨⟨k, t.kept q⟩, g.trans ⟨q.os, q.tape, q.output, q.size, fun b hb _ => q.block b hb⟩, b⟩
theorem Tm.size (h : Tm w0 B tv zs w) : w0.heap.size ≤ w.heap.size := h.g.size
theorem Tm.lt (h : Tm w0 B tv zs w) : B < w.heap.size := Nat.lt_of_lt_of_le h.b h.g.size
/-- A block of the call's own is written. -/
theorem Tm.set (h : Tm w0 B tv zs w) (hP : w0.heap.size ≤ P) (k : Nat) (v : Value) : Tm w0 B tv zs (w.setCell ⟨P, k, none⟩ v) := by
  obtain ⟨⟨k', t⟩, g, b⟩ := h
  have hb := lt_of_block t.1
  refine ⟨⟨k', ?_⟩, ⟨g.os, g.tape, g.output, by simpa using g.size, fun j hj hn => ?_⟩, b⟩
  · obtain ⟨t1, t2, t3⟩ := t
    refine ⟨(Below.heap_setCell w ⟨P, k, none⟩ v B (by show B ≠ P; omega)).trans t1, ?_, t3⟩
    obtain ⟨a, cap, e1, e2, e3, e4⟩ := t2
    refine ⟨a, cap, e1, e2, e3, ?_⟩
    rcases e4 with e | ⟨bb, off, ea, hbb, hz⟩
    · exact .inl e
    · refine .inr ⟨bb, off, ea, hbb, fun i hi => ⟨?_, (hz i hi).2⟩⟩
      exact (World.cell?_of_block (a := ⟨bb, off + i, none⟩) (Below.heap_setCell w ⟨P, k, none⟩ v bb (by show bb ≠ P; omega))).trans (hz i hi).1
  · exact (Below.heap_setCell w ⟨P, k, none⟩ v j (by show j ≠ P; omega)).trans (g.block j hj hn)
theorem Tm.row (h : Tm w0 B tv zs w) (hP : w0.heap.size ≤ P) (cs : Array Value) : w0.grownBy (w.setRow P cs) (some B) := grownRow' h.g hP cs
end
set_option maxRecDepth 100000 in
theorem rangeD (B : Nat) (tv : Value) (zs : List Int) (lo hi : Int) (h0 : -1000000 ≤ lo) (h1 : lo ≤ hi) (h2 : hi ≤ 1000000) (w0 w : World) (h : Tm w0 B tv zs w) :
    Calls Tryd.prog 41 #[.pointer (some ⟨B, 0, none⟩), .int .i64 lo, .int .i64 hi] w fun e w' => (∃ n : Int, e = .returned (.int .i64 n) ∧ lo ≤ n ∧ n ≤ hi) ∧ Tm w0 B tv zs w' ∧ w.grownBy w' (some B) := by
  obtain ⟨⟨k, t⟩, g, b⟩ := h
  have c := nextM B tv zs k (hi - lo + 1) (by omega) (by omega) w t
  have bd := nxt_bd zs k (hi - lo + 1) (by omega)
  generalize nxt zs k (hi - lo + 1) = n at *
  have C := Lib.hid c
  have G := Lib.hid g
  clear c t g
  go_enter Tryd.func41, Tryd.ntmps41
  go_wp2_with (go_at_call 42; ((with_reducible refine (C.out).mono ?_); rintro e w1 ⟨rfl, t, g⟩; have T1 := Lib.hid t; have G1 := Lib.hid g; clear t g))
  go_ret
  exact ⟨⟨lo + n, rfl, by omega, by omega⟩, ⟨⟨_, T1.out⟩, G.out.trans G1.out, b⟩, G1.out⟩
theorem nextD (B : Nat) (tv : Value) (zs : List Int) (m : Int) (m0 : 1 ≤ m) (m1 : m ≤ 1000000000) (w0 w : World) (h : Tm w0 B tv zs w) :
    Calls Tryd.prog 42 #[.pointer (some ⟨B, 0, none⟩), .int .i64 m] w fun e w' => (∃ n : Int, e = .returned (.int .i64 n) ∧ 0 ≤ n ∧ n < m) ∧ Tm w0 B tv zs w' ∧ w.grownBy w' (some B) := by
  obtain ⟨⟨k, t⟩, g, b⟩ := h
  have bd := nxt_bd zs k m (by omega)
  exact (nextM B tv zs k m (by omega) (by omega) w t).mono fun e w' ⟨he, t', g'⟩ => ⟨⟨_, he, bd.1, bd.2⟩, ⟨⟨_, t'⟩, g.trans g', b⟩, g'⟩
set_option maxRecDepth 100000 in
set_option maxHeartbeats 2000000 in
theorem vecD (B : Nat) (tv : Value) (zs : List Int) (s : Int) (s0 : 0 ≤ s) (s1 : s ≤ 1000000) (w0 w : World) (h : Tm w0 B tv zs w) :
    Calls Tryd.prog 29 #[.pointer (some ⟨B, 0, none⟩), .int .i64 s] w fun e w' => (∃ x y z : Int, e = .returned (.agg #[.int .i64 x, .int .i64 y, .int .i64 z]) ∧ (-s ≤ x ∧ x ≤ s) ∧ (-s ≤ y ∧ y ≤ s) ∧ (-s ≤ z ∧ z ≤ s)) ∧ Tm w0 B tv zs w' ∧ w.grownBy w' (some B) := by
  have RG := Lib.hid (fun w' (h : Tm w0 B tv zs w') => rangeD B tv zs (-s) s (by omega) (by omega) s1 w0 w' h)
  have M0 := Lib.hid (h.new (Qw.al (Qw.refl w) (.cells #[.int .i64 0, .int .i64 0, .int .i64 0] 23)))
  have R0 := Lib.hid (Bx.new w #[.int .i64 0, .int .i64 0, .int .i64 0] 23)
  have G0 := Lib.hid (grownAl w (.cells #[.int .i64 0, .int .i64 0, .int .i64 0] 23) (some B))
  have hB : w.heap.size ≠ B := by have := h.lt; omega
  have hW := h.size
  clear h
  go_enter Tryd.func29, Tryd.ntmps29
  go_wp2_with (go_at_call 41; (first | ((with_reducible refine (RG.out _ M0.out).mono ?_); rintro e w1 ⟨⟨x, rfl, x1, x2⟩, m, g⟩; have M1 := Lib.hid m; have R1 := Lib.hid (R0.out.grM g hB); have G1 := Lib.hid (G0.out.trans g); clear m g) | ((with_reducible refine (RG.out _ M1.out).mono ?_); rintro e w2 ⟨⟨y, rfl, y1, y2⟩, m, g⟩; have M2 := Lib.hid m; have R2 := Lib.hid (R1.out.grM g hB); have G2 := Lib.hid (G1.out.trans g); clear m g) | ((with_reducible refine (RG.out _ M2.out).mono ?_); rintro e w3 ⟨⟨z, rfl, z1, z2⟩, m, g⟩; have M3 := Lib.hid m; have R3 := Lib.hid (R2.out.grM g hB); have G3 := Lib.hid (G2.out.trans g); have r0 := R3.out.cell' 0 (.int .i64 0) rfl; have r1 := R3.out.cell' 1 (.int .i64 0) rfl; have r2 := R3.out.cell' 2 (.int .i64 0) rfl; have f0 := R3.out.free 0; have f1 := R3.out.free 1; have f2 := R3.out.free 2; clear m g)))
  have S := R3.out.st3 (.int .i64 x) (.int .i64 y) (.int .i64 z)
  have t0 := S.cell' 0 (.int .i64 x) rfl
  have t1 := S.cell' 1 (.int .i64 y) rfl
  have t2 := S.cell' 2 (.int .i64 z) rfl
  refine bodyPost_ret (v := .agg #[.int .i64 x, .int .i64 y, .int .i64 z]) (by simp [results, Tryd.results29, go_sem, t0, t1, t2]) rfl ⟨⟨x, y, z, rfl, ⟨x1, x2⟩, ⟨y1, y2⟩, ⟨z1, z2⟩⟩, ((M3.out.set (by simpa using hW) 0 _).set (by simpa using hW) 1 _).set (by simpa using hW) 2 _, ?_⟩
  exact grownOwn G3.out (Nat.le_refl _) _ _ _
end Go.Proofs.YtnjcbgnghfppoaaDoor

/- Drawing a frame from a tape. -/
set_option linter.unusedVariables false
set_option linter.unusedSimpArgs false
namespace Go.Proofs.YtnjcbgnghfppoaaDoor
open Go.RowKit

theorem upd_fr (f : Fm.F) (k : Nat) (hk : k < 6) (x y z : Int) : (((frc f).setIfInBounds (3 * k) (.int .i64 x)).setIfInBounds (3 * k + 1) (.int .i64 y)).setIfInBounds (3 * k + 2) (.int .i64 z) = frc { f with c := fun j => if j = 3 * k then x else if j = 3 * k + 1 then y else if j = 3 * k + 2 then z else f.c j } := by
  have h : k = 0 ∨ k = 1 ∨ k = 2 ∨ k = 3 ∨ k = 4 ∨ k = 5 := by omega
  rcases h with rfl | rfl | rfl | rfl | rfl | rfl <;> simp [frc]
theorem Gd.upd {f : Fm.F} (h : Fm.Gd f) (k : Nat) (x y z : Int) (hx : -50000 ≤ x ∧ x ≤ 50000) (hy : -50000 ≤ y ∧ y ≤ 50000) (hz : -50000 ≤ z ∧ z ≤ 50000) : Fm.Gd { f with c := fun j => if j = 3 * k then x else if j = 3 * k + 1 then y else if j = 3 * k + 2 then z else f.c j } :=
  ⟨h.n1, h.n2, fun j hj => by
    show -50000 ≤ (if j = 3 * k then x else if j = 3 * k + 1 then y else if j = 3 * k + 2 then z else f.c j) ∧ (if j = 3 * k then x else if j = 3 * k + 1 then y else if j = 3 * k + 2 then z else f.c j) ≤ 50000
    have := h.c j hj
    split
    · exact hx
    · split
      · exact hy
      · split
        · exact hz
        · exact this, h.lx, h.ly, h.lz, h.sx, h.sy, h.sz, h.g, h.ex, h.ey, h.ez, h.a, h.yes, h.no⟩
/-- A frame of which the head is drawn. -/
def f0 (n lx ly lz sx sy sz g : Int) : Fm.F := ⟨fun _ => 0, n, lx, ly, lz, sx, sy, sz, g, false, 0, 0, 0, 0, 0⟩
theorem f0_gd {n lx ly lz sx sy sz g : Int} (n1 : 54 ≤ n) (n2 : n ≤ 59) (a : -20000 ≤ lx ∧ lx ≤ 20000) (b : -20000 ≤ ly ∧ ly ≤ 20000) (c : -20000 ≤ lz ∧ lz ≤ 20000) (d : -20000 ≤ sx ∧ sx ≤ 20000) (e : -20000 ≤ sy ∧ sy ≤ 20000) (f : -20000 ≤ sz ∧ sz ≤ 20000) (h : -5000 ≤ g ∧ g ≤ 5000) : Fm.Gd (f0 n lx ly lz sx sy sz g) :=
  ⟨n1, n2, fun _ _ => by show -50000 ≤ (0 : Int) ∧ (0 : Int) ≤ 50000; omega, a, b, c, d, e, f, h, by show -50000 ≤ (0 : Int) ∧ (0 : Int) ≤ 50000; omega, by show -50000 ≤ (0 : Int) ∧ (0 : Int) ≤ 50000; omega, by show -50000 ≤ (0 : Int) ∧ (0 : Int) ≤ 50000; omega, by show 0 ≤ (0 : Int) ∧ (0 : Int) < 360000000; omega, (fun h => by cases h), fun _ => ⟨rfl, rfl, rfl, rfl, rfl⟩⟩
theorem built_f0 (n lx ly lz sx sy sz g : Int) : ∀ l, l = [(1, Value.int .i64 n), (2, .agg #[.int .i64 lx, .int .i64 ly, .int .i64 lz]), (3, .agg #[.int .i64 sx, .int .i64 sy, .int .i64 sz]), (4, .int .i64 g)] → Tryd.prog.built FT l = some (frc (f0 n lx ly lz sx sy sz g)) := by rintro l rfl; kernel_rfl
section
variable {ops : Array Oper} {rest : List Oper} {dst : Option Tmp} {ty : TypeId} {pos : String} {after : Array Edge} {a : Act} {w w0 : World} {Q : Exit → Act → World → Prop}
theorem bu_fr {n lx ly lz sx sy sz g : Int} (i j k m : Tmp) (h1 : a.eval (.tmp i) = .int .i64 n) (h2 : a.eval (.tmp j) = .agg #[.int .i64 lx, .int .i64 ly, .int .i64 lz]) (h3 : a.eval (.tmp k) = .agg #[.int .i64 sx, .int .i64 sy, .int .i64 sz]) (h4 : a.eval (.tmp m) = .int .i64 g)
    (h : wpList Tryd.prog ops Q rest (a.put dst (.agg (frc (f0 n lx ly lz sx sy sz g)))) w) : wpList Tryd.prog ops Q (⟨dst, .build FT #[(1, .tmp i), (2, .tmp j), (3, .tmp k), (4, .tmp m)], ty, pos, after, none⟩ :: rest) a w := by
  have e : Tryd.prog.built FT ((#[(1, .tmp i), (2, .tmp j), (3, .tmp k), (4, .tmp m)] : Array (Nat × Operand)).map fun (i, x) => (i, a.eval x)).toList = some (frc (f0 n lx ly lz sx sy sz g)) := built_f0 n lx ly lz sx sy sz g _ (by simp [h1, h2, h3, h4])
  refine wpList_build rfl FT _ rfl (by rw [e]; rfl) ?_
  rw [e]
  exact h
theorem st_fr2 {P : Nat} {f g : Fm.F} (x y : Tmp) (hx : a.eval (.tmp x) = .pointer (some ⟨P, 0, none⟩)) (hy : a.eval (.tmp y) = .agg (frc g)) (X : Bx w P (frc f) FT)
    (h : wpList Tryd.prog ops Q rest (a.put dst undef) (w.setRow P (frc g))) : wpList Tryd.prog ops Q (⟨dst, .store FT (.tmp x) (.tmp y), ty, pos, after, none⟩ :: rest) a w :=
  wpList_store_row rfl FT (.tmp x) (.tmp y) rfl P (frc g) hx hy FT (frc f) X (by rw [frc_size]; exact info_fr) (by rw [frc_size, frc_size]) (frc_one g) h
end
set_option maxRecDepth 100000 in
set_option maxHeartbeats 16000000 in
theorem frameD (B : Nat) (tv : Value) (zs : List Int) (k : Nat) (w : World) (h : TapeAt w B tv zs k) :
    Calls Tryd.prog 13 #[.pointer (some ⟨B, 0, none⟩)] w fun e w' => (∃ f : Fm.F, e = .returned (.agg (frc f)) ∧ Fm.Gd f) ∧ w.grownBy w' (some B) := by
  have RG := Lib.hid (fun lo hi h0 h1 h2 w' (h : Tm w B tv zs w') => rangeD B tv zs lo hi h0 h1 h2 w w' h)
  have NX := Lib.hid (fun m h0 h1 w' (h : Tm w B tv zs w') => nextD B tv zs m h0 h1 w w' h)
  have VD := Lib.hid (fun s s0 s1 w' (h : Tm w B tv zs w') => vecD B tv zs s s0 s1 w w' h)
  have M0 := Lib.hid (Tm.of h)
  clear h
  go_enter Tryd.func13, Tryd.ntmps13
  go_upto_region 2 with (first | (refine al_fr ?_; intro w1 P hp X q; have MM := Lib.hid (M0.out.new q); have RR := Lib.hid X; have hP : P ≠ B := (by have := M0.out.lt; omega); have hPw : w.heap.size ≤ P := hp; clear X q hp) | (go_at_call 41; (first | ((with_reducible refine (RG.out 54 59 (by decide) (by decide) (by decide) _ MM.out).mono ?_); rintro e w2 ⟨⟨n, rfl, n1, n2⟩, m, g⟩; have M2 := Lib.hid m; have R2 := Lib.hid (RR.out.grM g hP); clear m g) | ((with_reducible refine (RG.out (-5000) 5000 (by decide) (by decide) (by decide) _ M4.out).mono ?_); rintro e w5 ⟨⟨gg, rfl, g1, g2⟩, m, g⟩; have M5 := Lib.hid m; have R5 := Lib.hid (R4.out.grM g hP); clear m g))) | (go_at_call 29; (first | ((with_reducible refine (VD.out 20000 (by decide) (by decide) _ M2.out).mono ?_); rintro e w3 ⟨⟨lx, ly, lz, rfl, l1, l2, l3⟩, m, g⟩; have M3 := Lib.hid m; have R3 := Lib.hid (R2.out.grM g hP); have L3 := Lib.hid (And.intro l1 (And.intro l2 l3)); clear m g l1 l2 l3) | ((with_reducible refine (VD.out 20000 (by decide) (by decide) _ M3.out).mono ?_); rintro e w4 ⟨⟨sx, sy, sz, rfl, l1, l2, l3⟩, m, g⟩; have M4 := Lib.hid m; have R4 := Lib.hid (R3.out.grM g hP); have S4 := Lib.hid (And.intro l1 (And.intro l2 l3)); clear m g l1 l2 l3))) | (refine bu_fr 6 8 10 12 rfl rfl rfl rfl ?_) | (refine al_fr ?_; intro w6 P6 hp6 X6 q6; have Q6 := Lib.hid q6; have XX6 := Lib.hid X6; have hP6 : w.heap.size ≤ P6 := (by have := M5.out.size; omega); have nP6 : P6 ≠ B := (by have := M5.out.lt; omega); have nR6 : P ≠ P6 := (by have := R5.out.lt; omega); clear X6 q6) | (refine st_fr 3 13 rfl rfl XX6.out ?_; intro w7 x7 q7; have X7 := Lib.hid x7; have M7 := Lib.hid (M5.out.new (q7 _ Q6.out hp6)); have R7 := Lib.hid (R5.out.kept (q7 _ Q6.out hp6)); clear x7 q7))
  have D7 := Lib.hid (f0_gd n1 n2 L3.out.1 L3.out.2.1 L3.out.2.2 S4.out.1 S4.out.2.1 S4.out.2.2 ⟨g1, g2⟩)
  have T7 : Hid ((f0 n lx ly lz sx sy sz gg).t = false) := Lib.hid rfl
  generalize f0 n lx ly lz sx sy sz gg = ff at *
  clear M0 MM RR M2 R2 M3 R3 L3 M4 R4 S4 M5 R5 Q6 XX6 hp6 n1 n2 g1 g2
  go_wp2
  go_loopw [4] (fun iv wr => ∃ (i : Nat) (f : Fm.F), i ≤ 6 ∧ iv = .int .i64 (i : Int) ∧ Hid (Fm.Gd f) ∧ Hid (f.t = false) ∧ Hid (Bx wr P6 (frc f) FT) ∧ Hid (Bx wr P (frc Fm.F.zero) FT) ∧ Hid (Tm w B tv zs wr)) (fun iv _ => 6 - (intOf iv).toNat)
  case atStart => exact ⟨0, ff, by omega, rfl, D7, T7, X7, R7, M7⟩
  case round =>
    clear D7 T7 X7 R7 M7
    obtain ⟨i, f, hi, rfl, HD, HT, HX, HR, HM⟩ := hrel
    by_cases h6 : i < 6
    · have i6 : i = 0 ∨ i = 1 ∨ i = 2 ∨ i = 3 ∨ i = 4 ∨ i = 5 := by omega
      clear hi h6
      rcases i6 with rfl | rfl | rfl | rfl | rfl | rfl
      · have hk := upd_fr f 0 (by decide)
        have HK := Lib.hid hk
        clear hk
        go_wp2_with (go_at_call 29; ((with_reducible refine (VD.out 50000 (by decide) (by decide) _ HM.out).mono ?_); rintro e w8 ⟨⟨x, y, z, rfl, l1, l2, l3⟩, m, g⟩; have M8 := Lib.hid m; have X8 := Lib.hid (HX.out.grM g nP6); have R8 := Lib.hid (HR.out.grM g hP); have L8 := Lib.hid (And.intro l1 (And.intro l2 l3)); have c0 := X8.out.cell' 0 (.int .i64 (f.c 0)) rfl; have c1 := X8.out.cell' 1 (.int .i64 (f.c 1)) rfl; have c2 := X8.out.cell' 2 (.int .i64 (f.c 2)) rfl; have e0 := X8.out.free 0; have e1 := X8.out.free 1; have e2 := X8.out.free 2; clear m g l1 l2 l3))
        go_roundw
        case rel => exact ⟨1, _, by omega, rfl, Lib.hid (Gd.upd HD.out 0 x y z L8.out.1 L8.out.2.1 L8.out.2.2), Lib.hid HT.out, Lib.hid (by rw [← HK.out x y z]; exact ((X8.out.set 0 _).set 1 _).set 2 _), Lib.hid (((R8.out.other nR6 _).other nR6 _).other nR6 _), Lib.hid (((M8.out.set hP6 _ _).set hP6 _ _).set hP6 _ _)⟩
        case measure => simp [intOf]
      · have hk := upd_fr f 1 (by decide)
        have HK := Lib.hid hk
        clear hk
        go_wp2_with (go_at_call 29; ((with_reducible refine (VD.out 50000 (by decide) (by decide) _ HM.out).mono ?_); rintro e w8 ⟨⟨x, y, z, rfl, l1, l2, l3⟩, m, g⟩; have M8 := Lib.hid m; have X8 := Lib.hid (HX.out.grM g nP6); have R8 := Lib.hid (HR.out.grM g hP); have L8 := Lib.hid (And.intro l1 (And.intro l2 l3)); have c0 := X8.out.cell' 3 (.int .i64 (f.c 3)) rfl; have c1 := X8.out.cell' 4 (.int .i64 (f.c 4)) rfl; have c2 := X8.out.cell' 5 (.int .i64 (f.c 5)) rfl; have e0 := X8.out.free 3; have e1 := X8.out.free 4; have e2 := X8.out.free 5; clear m g l1 l2 l3))
        go_roundw
        case rel => exact ⟨2, _, by omega, rfl, Lib.hid (Gd.upd HD.out 1 x y z L8.out.1 L8.out.2.1 L8.out.2.2), Lib.hid HT.out, Lib.hid (by rw [← HK.out x y z]; exact ((X8.out.set 3 _).set 4 _).set 5 _), Lib.hid (((R8.out.other nR6 _).other nR6 _).other nR6 _), Lib.hid (((M8.out.set hP6 _ _).set hP6 _ _).set hP6 _ _)⟩
        case measure => simp [intOf]
      · have hk := upd_fr f 2 (by decide)
        have HK := Lib.hid hk
        clear hk
        go_wp2_with (go_at_call 29; ((with_reducible refine (VD.out 50000 (by decide) (by decide) _ HM.out).mono ?_); rintro e w8 ⟨⟨x, y, z, rfl, l1, l2, l3⟩, m, g⟩; have M8 := Lib.hid m; have X8 := Lib.hid (HX.out.grM g nP6); have R8 := Lib.hid (HR.out.grM g hP); have L8 := Lib.hid (And.intro l1 (And.intro l2 l3)); have c0 := X8.out.cell' 6 (.int .i64 (f.c 6)) rfl; have c1 := X8.out.cell' 7 (.int .i64 (f.c 7)) rfl; have c2 := X8.out.cell' 8 (.int .i64 (f.c 8)) rfl; have e0 := X8.out.free 6; have e1 := X8.out.free 7; have e2 := X8.out.free 8; clear m g l1 l2 l3))
        go_roundw
        case rel => exact ⟨3, _, by omega, rfl, Lib.hid (Gd.upd HD.out 2 x y z L8.out.1 L8.out.2.1 L8.out.2.2), Lib.hid HT.out, Lib.hid (by rw [← HK.out x y z]; exact ((X8.out.set 6 _).set 7 _).set 8 _), Lib.hid (((R8.out.other nR6 _).other nR6 _).other nR6 _), Lib.hid (((M8.out.set hP6 _ _).set hP6 _ _).set hP6 _ _)⟩
        case measure => simp [intOf]
      · have hk := upd_fr f 3 (by decide)
        have HK := Lib.hid hk
        clear hk
        go_wp2_with (go_at_call 29; ((with_reducible refine (VD.out 50000 (by decide) (by decide) _ HM.out).mono ?_); rintro e w8 ⟨⟨x, y, z, rfl, l1, l2, l3⟩, m, g⟩; have M8 := Lib.hid m; have X8 := Lib.hid (HX.out.grM g nP6); have R8 := Lib.hid (HR.out.grM g hP); have L8 := Lib.hid (And.intro l1 (And.intro l2 l3)); have c0 := X8.out.cell' 9 (.int .i64 (f.c 9)) rfl; have c1 := X8.out.cell' 10 (.int .i64 (f.c 10)) rfl; have c2 := X8.out.cell' 11 (.int .i64 (f.c 11)) rfl; have e0 := X8.out.free 9; have e1 := X8.out.free 10; have e2 := X8.out.free 11; clear m g l1 l2 l3))
        go_roundw
        case rel => exact ⟨4, _, by omega, rfl, Lib.hid (Gd.upd HD.out 3 x y z L8.out.1 L8.out.2.1 L8.out.2.2), Lib.hid HT.out, Lib.hid (by rw [← HK.out x y z]; exact ((X8.out.set 9 _).set 10 _).set 11 _), Lib.hid (((R8.out.other nR6 _).other nR6 _).other nR6 _), Lib.hid (((M8.out.set hP6 _ _).set hP6 _ _).set hP6 _ _)⟩
        case measure => simp [intOf]
      · have hk := upd_fr f 4 (by decide)
        have HK := Lib.hid hk
        clear hk
        go_wp2_with (go_at_call 29; ((with_reducible refine (VD.out 50000 (by decide) (by decide) _ HM.out).mono ?_); rintro e w8 ⟨⟨x, y, z, rfl, l1, l2, l3⟩, m, g⟩; have M8 := Lib.hid m; have X8 := Lib.hid (HX.out.grM g nP6); have R8 := Lib.hid (HR.out.grM g hP); have L8 := Lib.hid (And.intro l1 (And.intro l2 l3)); have c0 := X8.out.cell' 12 (.int .i64 (f.c 12)) rfl; have c1 := X8.out.cell' 13 (.int .i64 (f.c 13)) rfl; have c2 := X8.out.cell' 14 (.int .i64 (f.c 14)) rfl; have e0 := X8.out.free 12; have e1 := X8.out.free 13; have e2 := X8.out.free 14; clear m g l1 l2 l3))
        go_roundw
        case rel => exact ⟨5, _, by omega, rfl, Lib.hid (Gd.upd HD.out 4 x y z L8.out.1 L8.out.2.1 L8.out.2.2), Lib.hid HT.out, Lib.hid (by rw [← HK.out x y z]; exact ((X8.out.set 12 _).set 13 _).set 14 _), Lib.hid (((R8.out.other nR6 _).other nR6 _).other nR6 _), Lib.hid (((M8.out.set hP6 _ _).set hP6 _ _).set hP6 _ _)⟩
        case measure => simp [intOf]
      · have hk := upd_fr f 5 (by decide)
        have HK := Lib.hid hk
        clear hk
        go_wp2_with (go_at_call 29; ((with_reducible refine (VD.out 50000 (by decide) (by decide) _ HM.out).mono ?_); rintro e w8 ⟨⟨x, y, z, rfl, l1, l2, l3⟩, m, g⟩; have M8 := Lib.hid m; have X8 := Lib.hid (HX.out.grM g nP6); have R8 := Lib.hid (HR.out.grM g hP); have L8 := Lib.hid (And.intro l1 (And.intro l2 l3)); have c0 := X8.out.cell' 15 (.int .i64 (f.c 15)) rfl; have c1 := X8.out.cell' 16 (.int .i64 (f.c 16)) rfl; have c2 := X8.out.cell' 17 (.int .i64 (f.c 17)) rfl; have e0 := X8.out.free 15; have e1 := X8.out.free 16; have e2 := X8.out.free 17; clear m g l1 l2 l3))
        go_roundw
        case rel => exact ⟨6, _, by omega, rfl, Lib.hid (Gd.upd HD.out 5 x y z L8.out.1 L8.out.2.1 L8.out.2.2), Lib.hid HT.out, Lib.hid (by rw [← HK.out x y z]; exact ((X8.out.set 15 _).set 16 _).set 17 _), Lib.hid (((R8.out.other nR6 _).other nR6 _).other nR6 _), Lib.hid (((M8.out.set hP6 _ _).set hP6 _ _).set hP6 _ _)⟩
        case measure => simp [intOf]
    · obtain rfl : i = 6 := by omega
      clear h6 hi
      go_wp2_with fail
      refine (NX.out 2 (by decide) (by decide) _ HM.out).mono ?_
      rintro e w8 ⟨⟨nn, rfl, b0, b1⟩, m, g⟩
      have M8 := Lib.hid m
      have X8 := Lib.hid (HX.out.grM g nP6)
      have R8 := Lib.hid (HR.out.grM g hP)
      clear m g HX HR HM
      by_cases hn : nn = 0
      · subst hn
        clear b0 b1
        go_upto_region 8 with (first | (go_at_call 41; ((with_reducible refine (RG.out 17 19 (by decide) (by decide) (by decide) _ M8.out).mono ?_); rintro e w9 ⟨⟨p, rfl, p1, p2⟩, m, g⟩; have M9 := Lib.hid m; have X9 := Lib.hid (X8.out.grM g nP6); have R9 := Lib.hid (R8.out.grM g hP); have L9 := Lib.hid (And.intro p1 p2); clear m g p1 p2)) | (go_at_call 29; ((with_reducible refine (VD.out 50000 (by decide) (by decide) _ M9.out).mono ?_); rintro e w10 ⟨⟨x, y, z, rfl, l1, l2, l3⟩, m, g⟩; have M10 := Lib.hid m; have X10 := Lib.hid (X9.out.grM g nP6); have R10 := Lib.hid (R9.out.grM g hP); have L10 := Lib.hid (And.intro l1 (And.intro l2 l3)); clear m g l1 l2 l3)) | (go_at_call 42; ((with_reducible refine (NX.out 360000000 (by decide) (by decide) _ M10.out).mono ?_); rintro e w11 ⟨⟨aa, rfl, a1, a2⟩, m, g⟩; have M11 := Lib.hid m; have X11 := Lib.hid (X10.out.grM g nP6); have R11 := Lib.hid (R10.out.grM g hP); have L11 := Lib.hid (And.intro a1 a2); have c26 := X11.out.cell' 26 (.bool f.t) rfl; have e26 := X11.out.free 26; have c27 := X11.out.cell' 27 (.int .i64 f.p) rfl; have e27 := X11.out.free 27; have c28 := X11.out.cell' 28 (.int .i64 f.ex) rfl; have e28 := X11.out.free 28; have c29 := X11.out.cell' 29 (.int .i64 f.ey) rfl; have e29 := X11.out.free 29; have c30 := X11.out.cell' 30 (.int .i64 f.ez) rfl; have e30 := X11.out.free 30; have c31 := X11.out.cell' 31 (.int .i64 f.a) rfl; have e31 := X11.out.free 31; clear m g a1 a2)))
        have DD : Hid (Fm.Gd { f with t := true, p := p, ex := x, ey := y, ez := z, a := aa }) := Lib.hid ⟨HD.out.n1, HD.out.n2, HD.out.c, HD.out.lx, HD.out.ly, HD.out.lz, HD.out.sx, HD.out.sy, HD.out.sz, HD.out.g, L10.out.1, L10.out.2.1, L10.out.2.2, L11.out, fun _ => L9.out, (fun h => by cases h)⟩
        refine code_of (fun w' => Bx w' P6 (frc { f with t := true, p := p, ex := x, ey := y, ez := z, a := aa }) FT ∧ Bx w' P (frc Fm.F.zero) FT ∧ w.grownBy w' (some B)) ⟨((((((X11.out.set 26 _).set 27 _).set 28 _).set 29 _).set 30 _).set 31 _), ((((((R11.out.other nR6 _).other nR6 _).other nR6 _).other nR6 _).other nR6 _).other nR6 _), grownSetN (grownSetN (grownSetN (grownSetN (grownSetN (grownSetN M11.out.g hP6 _ _) hP6 _ _) hP6 _ _) hP6 _ _) hP6 _ _) hP6 _ _⟩ ?_
        clear c26 c27 c28 c29 c30 c31 e26 e27 e28 e29 e30 e31
        rintro w12 ⟨x12, r12, g12⟩
        have X12 := Lib.hid x12
        have R12 := Lib.hid r12
        have G12 := Lib.hid g12
        clear x12 r12 g12
        go_wp2_with (first | (refine ld_fr 3 rfl X12.out ?_) | (refine st_fr2 2 36 rfl rfl R12.out ?_))
        exact bodyPost_ret (ret_fr 2 Tryd.results13 rfl R12.out.srS) rfl ⟨⟨_, rfl, DD.out⟩, grownRow' G12.out hPw _⟩
      · have hn1 : (nn == 0) = false := beq_eq_false_iff_ne.2 hn
        clear b0 b1 hn
        go_wp2_with (first | (refine ld_fr 3 rfl X8.out ?_) | (refine st_fr2 2 36 rfl rfl R8.out ?_))
        exact bodyPost_ret (ret_fr 2 Tryd.results13 rfl R8.out.srS) rfl ⟨⟨f, rfl, HD.out⟩, grownRow' M8.out.g hPw _⟩
end Go.Proofs.YtnjcbgnghfppoaaDoor
