import Derived.Test.YtnjcbgnghfppoaaDoorGO
import Derived.Test.YtnjcbgnghfppoaaDoorGQ

/- What the laws of layer 12 share: frames and vectors from lists, positions that are not far away. -/
set_option linter.unusedVariables false
set_option linter.unusedSimpArgs false
namespace Go.Proofs.YtnjcbgnghfppoaaDoor
open Go.RowKit

theorem ints_at {w w' : World} {v : Value} {zs : List Int} (h : IntsB w.heap.size w v zs) (q : Qw w w') : IntsB w'.heap.size w' v zs := by
  obtain ⟨a, cap, e1, e2, e3, e4⟩ := h.kept q (Nat.le_refl _)
  refine ⟨a, cap, e1, e2, e3, ?_⟩
  rcases e4 with e | ⟨b, off, ea, hb, hz⟩
  · exact .inl e
  · exact .inr ⟨b, off, ea, Nat.lt_of_lt_of_le hb q.size, hz⟩
theorem Qw.gb {w w1 w2 : World} {B : Nat} (q : Qw w w1) (hB : w.heap.size ≤ B) (g : w1.grownBy w2 (some B)) : Qw w w2 :=
  ⟨g.os.trans q.os, g.tape.trans q.tape, g.output.trans q.output, Nat.le_trans q.size g.size, fun k hk => (g.block k (by have := q.size; omega) (by intro h; injection h with h; omega)).trans (q.block k hk)⟩
theorem newN {w w' : World} {v : Value} {zs : List Int} (h : IntsB w.heap.size w v zs) (q : Qw w w') : Calls Tryd.prog 14 #[v] w' fun e w'' => e = .returned (.pointer (some ⟨w'.heap.size, 0, none⟩)) ∧ TapeAt w'' w'.heap.size v zs 0 ∧ Qw w' w'' := newF v zs w' (ints_at h q)
/-- A frame from a new tape: nothing that was there ahead of the tape has turned. -/
theorem frameN {w w1 : World} {B : Nat} {v : Value} {zs : List Int} (h : TapeAt w1 B v zs 0) (q : Qw w w1) (hB : w.heap.size ≤ B) : Calls Tryd.prog 13 #[.pointer (some ⟨B, 0, none⟩)] w1 fun e w' => (∃ f : Fm.F, e = .returned (.agg (frc f)) ∧ Fm.Gd f) ∧ Qw w w' :=
  (frameD B v zs 0 w1 h).mono fun _ _ ⟨hf, g⟩ => ⟨hf, q.gb hB g⟩
theorem vecN {w w1 : World} {B : Nat} {v : Value} {zs : List Int} (h : TapeAt w1 B v zs 0) (q : Qw w w1) (hB : w.heap.size ≤ B) (s : Int) (s0 : 0 ≤ s) (s1 : s ≤ 1000000) : Calls Tryd.prog 29 #[.pointer (some ⟨B, 0, none⟩), .int .i64 s] w1 fun e w' => (∃ x y z : Int, e = .returned (.agg #[.int .i64 x, .int .i64 y, .int .i64 z]) ∧ (-s ≤ x ∧ x ≤ s) ∧ (-s ≤ y ∧ y ≤ s) ∧ (-s ≤ z ∧ z ≤ s)) ∧ Qw w w' :=
  (vecD B v zs s s0 s1 w1 w1 (Tm.of h)).mono fun _ _ ⟨hf, _, g⟩ => ⟨hf, q.gb hB g⟩
theorem lightN {w w' : World} {v : Value} {zs : List Int} (h : IntsB w.heap.size w v zs) (q : Qw w w') {b : Bool} (hb : decide (zs.length ≤ 120) = b) : Calls Tryd.prog 11 #[v] w' fun e w'' => e = .returned (.bool b) ∧ w' = w'' := hb ▸ lightF v zs w'.heap.size w' (ints_at h q)
namespace Fm
theorem rotv_bd3 (x y a B M : Int) (hB : 0 ≤ B) (hb : B ≤ 1250000) (hM : 0 ≤ M) (hm : 2 * (B * B) ≤ M * M) (x1 : -B ≤ x) (x2 : x ≤ B) (y1 : -B ≤ y) (y2 : y ≤ B) (K : Int) (hK : M * 1073741900 + 759250126 ≤ 1073741824 * K + 1073741823) :
    -K ≤ (rotv x y a).1 ∧ (rotv x y a).1 ≤ K ∧ -K ≤ (rotv x y a).2 ∧ (rotv x y a).2 ≤ K := by
  have k := Cm.turn_len x y _ _ _ _ M (Cm.nm_box x1 x2 y1 y2 hM (by omega)) (Cm.sc_bd a) (rotv_near x y a (by omega) (by omega) (by omega) (by omega))
  have p := Cm.nm_re k
  have q := Cm.nm_im k
  omega
end Fm
end Go.Proofs.YtnjcbgnghfppoaaDoor

/- Plain: there and back, and what a rotation keeps. -/
set_option linter.unusedVariables false
set_option linter.unusedSimpArgs false
namespace Go.Proofs.YtnjcbgnghfppoaaDoor
open Go.RowKit

namespace Fm
theorem Gd.tk {f : F} (h : Gd f) (B K : Int) (hB : 0 ≤ B) (hb : B ≤ 1000000) (M : Int) (hM : 0 ≤ M) (hm : 2 * ((B + 50000) * (B + 50000)) ≤ M * M) (hK : M * 1073741900 + 759250126 ≤ 1073741824 * K + 1073741823) (hBK : B ≤ K) {x y z : Int} (hx : -B ≤ x ∧ x ≤ B) (hy : -B ≤ y ∧ y ≤ B) (hz : -B ≤ z ∧ z ≤ B) (a : Int) :
    (-(K + 50000) ≤ tx f x y z a ∧ tx f x y z a ≤ K + 50000) ∧ (-(K + 50000) ≤ ty f x y z a ∧ ty f x y z a ≤ K + 50000) ∧ (-(K + 50000) ≤ tz f x y z a ∧ tz f x y z a ≤ K + 50000) := by
  have g := f_bd (p := f.p) (B := B) hB hx hy hz
  have c := f_bd (p := f.p) (B := 50000) (by decide) h.ex h.ey h.ez
  have r := rotv_bd3 (fu f.p x y z - fu f.p f.ex f.ey f.ez) (fw f.p x y z - fw f.p f.ex f.ey f.ez) a (B + 50000) M (by omega) (by omega) hM hm (by omega) (by omega) (by omega) (by omega) K hK
  have s := s_bd (p := f.p) (B := K + 50000) (x := ru f x y z a) (y := rw_ f x y z a) (z := fh f.p x y z) (by omega) (by unfold ru; omega) (by unfold rw_; omega) (by omega)
  unfold tx ty tz
  cases f.t
  · simp only [Bool.false_eq_true, if_false]; omega
  · simp only [if_true]; exact s
theorem Gd.t2 {f : F} (h : Gd f) {x y z : Int} (hx : -200000 ≤ x ∧ x ≤ 200000) (hy : -200000 ≤ y ∧ y ≤ 200000) (hz : -200000 ≤ z ∧ z ≤ 200000) (a : Int) :
    (-403554 ≤ tx f x y z a ∧ tx f x y z a ≤ 403554) ∧ (-403554 ≤ ty f x y z a ∧ ty f x y z a ≤ 403554) ∧ (-403554 ≤ tz f x y z a ∧ tz f x y z a ≤ 403554) :=
  h.tk 200000 353554 (by decide) (by decide) 353554 (by decide) (by decide) (by decide) (by decide) hx hy hz a
theorem Gd.t3 {f : F} (h : Gd f) {x y z : Int} (hx : -403554 ≤ x ∧ x ≤ 403554) (hy : -403554 ≤ y ∧ y ≤ 403554) (hz : -403554 ≤ z ∧ z ≤ 403554) (a : Int) :
    (-691423 ≤ tx f x y z a ∧ tx f x y z a ≤ 691423) ∧ (-691423 ≤ ty f x y z a ∧ ty f x y z a ≤ 691423) ∧ (-691423 ≤ tz f x y z a ∧ tz f x y z a ≤ 691423) :=
  h.tk 403554 641423 (by decide) (by decide) 641423 (by decide) (by decide) (by decide) (by decide) hx hy hz a
theorem Gd.to2 {f : F} (h : Gd f) {x y z : Int} (hx : -200000 ≤ x ∧ x ≤ 200000) (hy : -200000 ≤ y ∧ y ≤ 200000) (hz : -200000 ≤ z ∧ z ≤ 200000) :
    toE f x y z = 0 ∧ (∀ n, toV f x y z n = n) ∧ wth (mx f x y z) (my f x y z) (mz f x y z) = true := by
  have t := h.t2 hx hy hz f.a
  have o := h.o
  have w1 : wth x y z = true := wth_of (by omega) (by omega) (by omega)
  have w2 : wth (mx f x y z) (my f x y z) (mz f x y z) = true := wth_of (by unfold mx; omega) (by unfold my; omega) (by unfold mz; omega)
  refine ⟨?_, fun n => ?_, w2⟩
  · unfold toE cve; rw [if_pos w1, if_pos w2]
  · unfold toV cvx; rw [if_pos w1, if_pos w2]
/-- Back again. -/
def bx (f : F) (x y z : Int) : Int := tx f (tx f x y z f.a) (ty f x y z f.a) (tz f x y z f.a) (-f.a)
def by_ (f : F) (x y z : Int) : Int := ty f (tx f x y z f.a) (ty f x y z f.a) (tz f x y z f.a) (-f.a)
def bz (f : F) (x y z : Int) : Int := tz f (tx f x y z f.a) (ty f x y z f.a) (tz f x y z f.a) (-f.a)
theorem Gd.fr2 {f : F} (h : Gd f) {x y z : Int} (hx : -200000 ≤ x ∧ x ≤ 200000) (hy : -200000 ≤ y ∧ y ≤ 200000) (hz : -200000 ≤ z ∧ z ≤ 200000) :
    frE f (mx f x y z) (my f x y z) (mz f x y z) = 0 ∧ frV f (mx f x y z) (my f x y z) (mz f x y z) (px f (mx f x y z) (my f x y z) (mz f x y z)) = bx f x y z ∧
    frV f (mx f x y z) (my f x y z) (mz f x y z) (py f (mx f x y z) (my f x y z) (mz f x y z)) = by_ f x y z ∧ frV f (mx f x y z) (my f x y z) (mz f x y z) (pz f (mx f x y z) (my f x y z) (mz f x y z)) = bz f x y z := by
  have t := h.t2 hx hy hz f.a
  have w2 := (h.to2 hx hy hz).2.2
  have k := h.t3 t.1 t.2.1 t.2.2 (-f.a)
  have ex : mx f x y z - ox f = tx f x y z f.a := by unfold mx; omega
  have ey : my f x y z - oy f = ty f x y z f.a := by unfold my; omega
  have ez : mz f x y z - oz f = tz f x y z f.a := by unfold mz; omega
  have p1 : px f (mx f x y z) (my f x y z) (mz f x y z) = bx f x y z := by unfold px bx; rw [ex, ey, ez]
  have p2 : py f (mx f x y z) (my f x y z) (mz f x y z) = by_ f x y z := by unfold py by_; rw [ex, ey, ez]
  have p3 : pz f (mx f x y z) (my f x y z) (mz f x y z) = bz f x y z := by unfold pz bz; rw [ex, ey, ez]
  have w3 : wth (bx f x y z) (by_ f x y z) (bz f x y z) = true := wth_of (by unfold bx; omega) (by unfold by_; omega) (by unfold bz; omega)
  unfold frE frV cve cvx
  rw [if_pos w2, if_pos w2, if_pos w2, if_pos w2, p1, p2, p3, if_pos w3, if_pos w3, if_pos w3, if_pos w3]
  exact ⟨rfl, rfl, rfl, rfl⟩
theorem ru_def (f : F) (x y z a : Int) : ru f x y z a = (rotv (fu f.p x y z - fu f.p f.ex f.ey f.ez) (fw f.p x y z - fw f.p f.ex f.ey f.ez) a).1 + fu f.p f.ex f.ey f.ez := rfl
theorem rw_def (f : F) (x y z a : Int) : rw_ f x y z a = (rotv (fu f.p x y z - fu f.p f.ex f.ey f.ez) (fw f.p x y z - fw f.p f.ex f.ey f.ez) a).2 + fw f.p f.ex f.ey f.ez := rfl
theorem s_f {p u v h : Int} (hp : p = 17 ∨ p = 18 ∨ p = 19) : fu p (Go.Proofs.YtnjcbgnghfppoaaDoor.sx p u v h) (Go.Proofs.YtnjcbgnghfppoaaDoor.sy p u v h) (Go.Proofs.YtnjcbgnghfppoaaDoor.sz p u v h) = u ∧ fw p (Go.Proofs.YtnjcbgnghfppoaaDoor.sx p u v h) (Go.Proofs.YtnjcbgnghfppoaaDoor.sy p u v h) (Go.Proofs.YtnjcbgnghfppoaaDoor.sz p u v h) = v ∧ fh p (Go.Proofs.YtnjcbgnghfppoaaDoor.sx p u v h) (Go.Proofs.YtnjcbgnghfppoaaDoor.sy p u v h) (Go.Proofs.YtnjcbgnghfppoaaDoor.sz p u v h) = h := by
  rcases hp with rfl | rfl | rfl <;> exact ⟨rfl, rfl, rfl⟩
theorem f_s {p x y z : Int} (hp : p = 17 ∨ p = 18 ∨ p = 19) : Go.Proofs.YtnjcbgnghfppoaaDoor.sx p (fu p x y z) (fw p x y z) (fh p x y z) = x ∧ Go.Proofs.YtnjcbgnghfppoaaDoor.sy p (fu p x y z) (fw p x y z) (fh p x y z) = y ∧ Go.Proofs.YtnjcbgnghfppoaaDoor.sz p (fu p x y z) (fw p x y z) (fh p x y z) = z := by
  rcases hp with rfl | rfl | rfl <;> exact ⟨rfl, rfl, rfl⟩
theorem s_near {p u v h u' v' : Int} (hp : p = 17 ∨ p = 18 ∨ p = 19) (h1 : -1 ≤ u' - u ∧ u' - u ≤ 1) (h2 : -1 ≤ v' - v ∧ v' - v ≤ 1) :
    (-1 ≤ Go.Proofs.YtnjcbgnghfppoaaDoor.sx p u' v' h - Go.Proofs.YtnjcbgnghfppoaaDoor.sx p u v h ∧ Go.Proofs.YtnjcbgnghfppoaaDoor.sx p u' v' h - Go.Proofs.YtnjcbgnghfppoaaDoor.sx p u v h ≤ 1) ∧ (-1 ≤ Go.Proofs.YtnjcbgnghfppoaaDoor.sy p u' v' h - Go.Proofs.YtnjcbgnghfppoaaDoor.sy p u v h ∧ Go.Proofs.YtnjcbgnghfppoaaDoor.sy p u' v' h - Go.Proofs.YtnjcbgnghfppoaaDoor.sy p u v h ≤ 1) ∧ (-1 ≤ Go.Proofs.YtnjcbgnghfppoaaDoor.sz p u' v' h - Go.Proofs.YtnjcbgnghfppoaaDoor.sz p u v h ∧ Go.Proofs.YtnjcbgnghfppoaaDoor.sz p u' v' h - Go.Proofs.YtnjcbgnghfppoaaDoor.sz p u v h ≤ 1) := by
  rcases hp with rfl | rfl | rfl <;> simp only [Go.Proofs.YtnjcbgnghfppoaaDoor.sx, Go.Proofs.YtnjcbgnghfppoaaDoor.sy, Go.Proofs.YtnjcbgnghfppoaaDoor.sz] <;> simp <;> omega
theorem Gd.back {f : F} (h : Gd f) {x y z : Int} (hx : -200000 ≤ x ∧ x ≤ 200000) (hy : -200000 ≤ y ∧ y ≤ 200000) (hz : -200000 ≤ z ∧ z ≤ 200000) :
    (-1 ≤ bx f x y z - x ∧ bx f x y z - x ≤ 1) ∧ (-1 ≤ by_ f x y z - y ∧ by_ f x y z - y ≤ 1) ∧ (-1 ≤ bz f x y z - z ∧ bz f x y z - z ≤ 1) := by
  cases ht : f.t
  · have e : ∀ x y z a, tx f x y z a = x ∧ ty f x y z a = y ∧ tz f x y z a = z := fun x y z a => by unfold tx ty tz; rw [ht]; exact ⟨rfl, rfl, rfl⟩
    unfold bx by_ bz
    rw [(e _ _ _ _).1, (e _ _ _ _).1, (e _ _ _ _).2.1, (e _ _ _ _).2.1, (e _ _ _ _).2.2, (e _ _ _ _).2.2]
    omega
  · have hp := h.yes ht
    have hp3 : f.p = 17 ∨ f.p = 18 ∨ f.p = 19 := by omega
    have g := f_bd (p := f.p) (B := 200000) (by decide) hx hy hz
    have c := f_bd (p := f.p) (B := 50000) (by decide) h.ex h.ey h.ez
    have bl := back_law (fu f.p x y z - fu f.p f.ex f.ey f.ez) (fw f.p x y z - fw f.p f.ex f.ey f.ez) f.a (by omega) (by omega) (by omega) (by omega) h.a.1 h.a.2
    have e : ∀ x y z a, tx f x y z a = Go.Proofs.YtnjcbgnghfppoaaDoor.sx f.p (ru f x y z a) (rw_ f x y z a) (fh f.p x y z) ∧ ty f x y z a = Go.Proofs.YtnjcbgnghfppoaaDoor.sy f.p (ru f x y z a) (rw_ f x y z a) (fh f.p x y z) ∧ tz f x y z a = Go.Proofs.YtnjcbgnghfppoaaDoor.sz f.p (ru f x y z a) (rw_ f x y z a) (fh f.p x y z) := fun x y z a => by unfold tx ty tz; rw [ht]; exact ⟨rfl, rfl, rfl⟩
    have s := s_f (u := ru f x y z f.a) (v := rw_ f x y z f.a) (h := fh f.p x y z) hp3
    have q := f_s (x := x) (y := y) (z := z) hp3
    have r1 : ru f x y z f.a - fu f.p f.ex f.ey f.ez = (rotv (fu f.p x y z - fu f.p f.ex f.ey f.ez) (fw f.p x y z - fw f.p f.ex f.ey f.ez) f.a).1 := by unfold ru; omega
    have r2 : rw_ f x y z f.a - fw f.p f.ex f.ey f.ez = (rotv (fu f.p x y z - fu f.p f.ex f.ey f.ez) (fw f.p x y z - fw f.p f.ex f.ey f.ez) f.a).2 := by unfold rw_; omega
    unfold bx by_ bz
    rw [(e _ _ _ (-f.a)).1, (e _ _ _ (-f.a)).2.1, (e _ _ _ (-f.a)).2.2, (e x y z f.a).1, (e x y z f.a).2.1, (e x y z f.a).2.2, s.2.2]
    have u1 : ru f (Go.Proofs.YtnjcbgnghfppoaaDoor.sx f.p (ru f x y z f.a) (rw_ f x y z f.a) (fh f.p x y z)) (Go.Proofs.YtnjcbgnghfppoaaDoor.sy f.p (ru f x y z f.a) (rw_ f x y z f.a) (fh f.p x y z)) (Go.Proofs.YtnjcbgnghfppoaaDoor.sz f.p (ru f x y z f.a) (rw_ f x y z f.a) (fh f.p x y z)) (-f.a) = (rotv (rotv (fu f.p x y z - fu f.p f.ex f.ey f.ez) (fw f.p x y z - fw f.p f.ex f.ey f.ez) f.a).1 (rotv (fu f.p x y z - fu f.p f.ex f.ey f.ez) (fw f.p x y z - fw f.p f.ex f.ey f.ez) f.a).2 (-f.a)).1 + fu f.p f.ex f.ey f.ez := by
      rw [ru_def f _ _ _ (-f.a)]
      rw [s.1, s.2.1, r1, r2]
    have u2 : rw_ f (Go.Proofs.YtnjcbgnghfppoaaDoor.sx f.p (ru f x y z f.a) (rw_ f x y z f.a) (fh f.p x y z)) (Go.Proofs.YtnjcbgnghfppoaaDoor.sy f.p (ru f x y z f.a) (rw_ f x y z f.a) (fh f.p x y z)) (Go.Proofs.YtnjcbgnghfppoaaDoor.sz f.p (ru f x y z f.a) (rw_ f x y z f.a) (fh f.p x y z)) (-f.a) = (rotv (rotv (fu f.p x y z - fu f.p f.ex f.ey f.ez) (fw f.p x y z - fw f.p f.ex f.ey f.ez) f.a).1 (rotv (fu f.p x y z - fu f.p f.ex f.ey f.ez) (fw f.p x y z - fw f.p f.ex f.ey f.ez) f.a).2 (-f.a)).2 + fw f.p f.ex f.ey f.ez := by
      rw [rw_def f _ _ _ (-f.a)]
      rw [s.1, s.2.1, r1, r2]
    rw [u1, u2]
    have k := s_near (p := f.p) (u := fu f.p x y z) (v := fw f.p x y z) (h := fh f.p x y z) (u' := (rotv (rotv (fu f.p x y z - fu f.p f.ex f.ey f.ez) (fw f.p x y z - fw f.p f.ex f.ey f.ez) f.a).1 (rotv (fu f.p x y z - fu f.p f.ex f.ey f.ez) (fw f.p x y z - fw f.p f.ex f.ey f.ez) f.a).2 (-f.a)).1 + fu f.p f.ex f.ey f.ez) (v' := (rotv (rotv (fu f.p x y z - fu f.p f.ex f.ey f.ez) (fw f.p x y z - fw f.p f.ex f.ey f.ez) f.a).1 (rotv (fu f.p x y z - fu f.p f.ex f.ey f.ez) (fw f.p x y z - fw f.p f.ex f.ey f.ez) f.a).2 (-f.a)).2 + fw f.p f.ex f.ey f.ez) hp3 (by omega) (by omega)
    rw [q.1, q.2.1, q.2.2] at k
    exact k
theorem Gd.stay {f : F} (ht : f.t = false) (x y z a : Int) : tx f x y z a = x ∧ ty f x y z a = y ∧ tz f x y z a = z := by unfold tx ty tz; rw [ht]; exact ⟨rfl, rfl, rfl⟩
/-- The height is only shifted. -/
theorem Gd.high {f : F} (h : Gd f) (ht : f.t = true) (x y z a : Int) : fh f.p (tx f x y z a - x) (ty f x y z a - y) (tz f x y z a - z) = 0 := by
  have hp := h.yes ht
  have hp3 : f.p = 17 ∨ f.p = 18 ∨ f.p = 19 := by omega
  unfold tx ty tz
  rw [ht]
  simp only [if_true]
  rcases hp3 with k | k | k <;> rw [k] <;> simp [fh, Go.Proofs.YtnjcbgnghfppoaaDoor.sx, Go.Proofs.YtnjcbgnghfppoaaDoor.sy, Go.Proofs.YtnjcbgnghfppoaaDoor.sz]
end Fm
end Go.Proofs.YtnjcbgnghfppoaaDoor
