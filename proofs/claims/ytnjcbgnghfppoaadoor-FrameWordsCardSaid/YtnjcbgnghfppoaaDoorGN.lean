import Derived.Test.YtnjcbgnghfppoaaDoorGK
import Derived.Test.YtnjcbgnghfppoaaDoorGH
import Derived.Test.YtnjcbgnghfppoaaDoorGE
import Derived.Test.YtnjcbgnghfppoaaDoorGMa

/- The walks of the specification of vectors and frames: Pt, Height, At, AddPt, SubPt, Plane, within, Axes, Get, Put. -/
set_option linter.unusedVariables false
set_option linter.unusedSimpArgs false
namespace Go.Proofs.YtnjcbgnghfppoaaDoor
open Go.RowKit

set_option maxRecDepth 100000 in
theorem rfPt (p x y z : Int) (p1 : -9223372036854775808 ≤ p) (p2 : p ≤ 9223372036854775807) (w : World) : Calls Tryd.prog 37 #[.int .i64 p, .agg #[.int .i64 x, .int .i64 y, .int .i64 z]] w fun e w' => e = .returned (.agg #[.int .i64 (fu p x y z), .int .i64 (fw p x y z)]) ∧ Qw w w' := by
  have c := fun w => vr_flat p x y z p1 p2 w
  generalize fu p x y z = u at *
  generalize fw p x y z = v at *
  generalize fh p x y z = h at *
  generalize pin p = b at *
  have C := Lib.hid c
  clear c p1 p2
  go_enter Tryd.func37, Tryd.ntmps37
  go_wp2_with (go_at_call 60; ((with_reducible refine (C.out _).mono ?_); rintro e w1 ⟨rfl, q⟩; have R := Lib.hid ((bxn w (.cells #[.int .i64 x, .int .i64 y, .int .i64 z] 23) #[.int .i64 0, .int .i64 0] 64).kept q); have Q := Lib.hid (Qw.trans (Qw.al (Qw.al (Qw.refl w) _) _) q); have r0 := R.out.cell' 0 (.int .i64 0) rfl; have r1 := R.out.cell' 1 (.int .i64 0) rfl; have f0 := R.out.free 0; have f1 := R.out.free 1; have lt := R.out.lt; clear q))
  have ne : w.heap.size + 1 ≠ w1.heap.size := Nat.ne_of_lt lt
  have S := ((R.out.set 0 (.int .i64 u)).set 1 (.int .i64 v)).alloc (.cells #[.int .i64 u, .int .i64 v] 64)
  have t0 := S.cell' 0 (.int .i64 u) rfl
  have t1 := S.cell' 1 (.int .i64 v) rfl
  exact bodyPost_ret (v := .agg #[.int .i64 u, .int .i64 v]) (by first | (simp [results, Tryd.results37, go_sem, t0, t1]; done) | (simp [results, Tryd.results37, go_sem, ne]; done)) rfl ⟨rfl, Qw.al ((Q.out.setCell (by simp) _).setCell (by simp) _) _⟩
set_option maxRecDepth 100000 in
theorem rfHeight (p x y z : Int) (p1 : -9223372036854775808 ≤ p) (p2 : p ≤ 9223372036854775807) (w : World) : Calls Tryd.prog 31 #[.int .i64 p, .agg #[.int .i64 x, .int .i64 y, .int .i64 z]] w fun e w' => e = .returned (.int .i64 (fh p x y z)) ∧ Qw w w' := by
  have c := fun w => vr_flat p x y z p1 p2 w
  generalize fu p x y z = u at *
  generalize fw p x y z = v at *
  generalize fh p x y z = h at *
  generalize pin p = b at *
  have C := Lib.hid c
  clear c p1 p2
  go_enter Tryd.func31, Tryd.ntmps31
  go_wp2_with (go_at_call 60; ((with_reducible refine (C.out _).mono ?_); rintro e w1 ⟨rfl, q⟩; have Q := Lib.hid (Qw.trans (Qw.al (Qw.refl w) _) q); clear q))
  go_ret
  exact ⟨rfl, Qw.al Q.out _⟩
set_option maxRecDepth 100000 in
theorem rfAt (p u v h : Int) (p1 : -9223372036854775808 ≤ p) (p2 : p ≤ 9223372036854775807) (w : World) : Calls Tryd.prog 39 #[.int .i64 p, .agg #[.int .i64 u, .int .i64 v], .int .i64 h] w fun e w' => e = .returned (.agg #[.int .i64 (sx p u v h), .int .i64 (sy p u v h), .int .i64 (sz p u v h)]) ∧ Qw w w' := by
  have c := fun w => vr_solid p u v h p1 p2 w
  generalize sx p u v h = x at *
  generalize sy p u v h = y at *
  generalize sz p u v h = z at *
  generalize pin p = b at *
  have C := Lib.hid c
  clear c p1 p2
  go_enter Tryd.func39, Tryd.ntmps39
  go_wp2_with (go_at_call 63; ((with_reducible refine (C.out _).mono ?_); rintro e w1 ⟨rfl, q⟩; have R := Lib.hid ((bxn w (.cells #[.int .i64 u, .int .i64 v] 64) #[.int .i64 0, .int .i64 0, .int .i64 0] 23).kept q); have Q := Lib.hid (Qw.trans (Qw.al (Qw.al (Qw.refl w) _) _) q); have r0 := R.out.cell' 0 (.int .i64 0) rfl; have r1 := R.out.cell' 1 (.int .i64 0) rfl; have r2 := R.out.cell' 2 (.int .i64 0) rfl; have f0 := R.out.free 0; have f1 := R.out.free 1; have f2 := R.out.free 2; have lt := R.out.lt; clear q))
  have ne : w.heap.size + 1 ≠ w1.heap.size := Nat.ne_of_lt lt
  have S := (((R.out.set 0 (.int .i64 x)).set 1 (.int .i64 y)).set 2 (.int .i64 z)).alloc (.cells #[.int .i64 x, .int .i64 y, .int .i64 z] 23)
  have t0 := S.cell' 0 (.int .i64 x) rfl
  have t1 := S.cell' 1 (.int .i64 y) rfl
  have t2 := S.cell' 2 (.int .i64 z) rfl
  exact bodyPost_ret (v := .agg #[.int .i64 x, .int .i64 y, .int .i64 z]) (by simp [results, Tryd.results39, go_sem, t0, t1, t2]) rfl ⟨rfl, Qw.al (((Q.out.setCell (by simp) _).setCell (by simp) _).setCell (by simp) _) _⟩
theorem rfAddPt (x y a b : Int) (x1 : -4194304 ≤ x) (x2 : x ≤ 4194304) (y1 : -4194304 ≤ y) (y2 : y ≤ 4194304) (a1 : -4194304 ≤ a) (a2 : a ≤ 4194304) (b1 : -4194304 ≤ b) (b2 : b ≤ 4194304) (w : World) :
    Calls Tryd.prog 40 #[.agg #[.int .i64 x, .int .i64 y], .agg #[.int .i64 a, .int .i64 b]] w fun e w' => e = .returned (.agg #[.int .i64 (x + a), .int .i64 (y + b)]) ∧ Qw w w' := by
  go_enter Tryd.func40, Tryd.ntmps40
  go_wp2
  exact bodyPost_ret (v := .agg #[.int .i64 (x + a), .int .i64 (y + b)]) (by simp [results, Tryd.results40, go_sem]) rfl ⟨rfl, Qw.al (Qw.al (Qw.al (Qw.refl w) _) _) _⟩
theorem rfSubPt (x y a b : Int) (x1 : -4194304 ≤ x) (x2 : x ≤ 4194304) (y1 : -4194304 ≤ y) (y2 : y ≤ 4194304) (a1 : -4194304 ≤ a) (a2 : a ≤ 4194304) (b1 : -4194304 ≤ b) (b2 : b ≤ 4194304) (w : World) :
    Calls Tryd.prog 72 #[.agg #[.int .i64 x, .int .i64 y], .agg #[.int .i64 a, .int .i64 b]] w fun e w' => e = .returned (.agg #[.int .i64 (x - a), .int .i64 (y - b)]) ∧ Qw w w' := by
  go_enter Tryd.func72, Tryd.ntmps72
  go_wp2
  exact bodyPost_ret (v := .agg #[.int .i64 (x - a), .int .i64 (y - b)]) (by simp [results, Tryd.results72, go_sem]) rfl ⟨rfl, Qw.al (Qw.al (Qw.al (Qw.refl w) _) _) _⟩
theorem rfPlane (p : Int) (w : World) : Calls Tryd.prog 47 #[.int .i64 p] w fun e w' => e = .returned (.bool (pin p)) ∧ w = w' := by
  by_cases h1 : p = 17
  · subst h1
    go_enter Tryd.func47, Tryd.ntmps47
    go_wp2
    go_ret
    exact ⟨rfl, rfl⟩
  · by_cases h2 : p = 18
    · subst h2
      go_enter Tryd.func47, Tryd.ntmps47
      go_wp2
      go_ret
      exact ⟨rfl, rfl⟩
    · by_cases h3 : p = 19
      · subst h3
        go_enter Tryd.func47, Tryd.ntmps47
        go_wp2
        go_ret
        exact ⟨rfl, rfl⟩
      · have e : pin p = false := by simp [pin, h1, h2, h3]
        rw [e]
        have z1 : (p == 17) = false := beq_eq_false_iff_ne.2 h1
        have z2 : (p == 18) = false := beq_eq_false_iff_ne.2 h2
        have z3 : (p == 19) = false := beq_eq_false_iff_ne.2 h3
        clear e h1 h2 h3
        go_enter Tryd.func47, Tryd.ntmps47
        go_wp2
        go_ret
        exact ⟨rfl, rfl⟩
/-- What the specification returns of a position. -/
def wiv (b : Bool) (x y z n : Int) : Int := if b = true then Fm.cvx x y z n else 0
def wie (b : Bool) (x y z : Int) : Int := if b = true then Fm.cve x y z else 3
set_option maxRecDepth 100000 in
set_option maxHeartbeats 1000000 in
theorem rfWithin (x y z : Int) (b : Bool) (x1 : -9223372036854775808 ≤ x) (x2 : x ≤ 9223372036854775807) (y1 : -9223372036854775808 ≤ y) (y2 : y ≤ 9223372036854775807) (z1 : -9223372036854775808 ≤ z) (z2 : z ≤ 9223372036854775807) (w : World) :
    Calls Tryd.prog 52 #[.agg #[.int .i64 x, .int .i64 y, .int .i64 z], .bool b] w fun e w' => e = .returned (.tuple #[.agg #[.int .i64 (wiv b x y z x), .int .i64 (wiv b x y z y), .int .i64 (wiv b x y z z)], .int .i64 (wie b x y z)]) ∧ Qw w w' := by
  have c := fun w => vr_within x y z x1 x2 y1 y2 z1 z2 w
  unfold wiv wie Fm.cvx Fm.cve
  have X := Lib.hid ((Bx.new w #[.int .i64 x, .int .i64 y, .int .i64 z] 23).alloc (.cells #[.int .i64 0, .int .i64 0, .int .i64 0] 23))
  have R := Lib.hid (bxn w (.cells #[.int .i64 x, .int .i64 y, .int .i64 z] 23) #[.int .i64 0, .int .i64 0, .int .i64 0] 23)
  have Q0 := Lib.hid (Qw.al (Qw.al (Qw.refl w) (.cells #[.int .i64 x, .int .i64 y, .int .i64 z] 23)) (.cells #[.int .i64 0, .int .i64 0, .int .i64 0] 23))
  cases b
  · simp only [Bool.false_eq_true, if_false]
    clear c X R Q0
    go_enter Tryd.func52, Tryd.ntmps52
    go_wp2
    exact bodyPost_ret (v := .tuple #[.agg #[.int .i64 0, .int .i64 0, .int .i64 0], .int .i64 3]) (by simp [results, Tryd.results52, go_sem]) rfl ⟨rfl, Qw.al (Qw.al (Qw.refl w) _) _⟩
  · cases h : wth x y z
    · rw [h] at c
      simp only [Bool.false_eq_true, if_false, if_true]
      have C := Lib.hid c
      clear c h x1 x2 y1 y2 z1 z2 X
      go_enter Tryd.func52, Tryd.ntmps52
      go_wp2_with (go_at_call 46; ((with_reducible refine (C.out _).mono ?_); rintro e w1 ⟨rfl, q⟩; have R1 := Lib.hid (R.out.kept q); have Q := Lib.hid (Qw.trans Q0.out q); have r0 := R1.out.cell' 0 (.int .i64 0) rfl; have r1 := R1.out.cell' 1 (.int .i64 0) rfl; have r2 := R1.out.cell' 2 (.int .i64 0) rfl; have f0 := R1.out.free 0; have f1 := R1.out.free 1; have f2 := R1.out.free 2; clear q))
      have S := ((R1.out.set 0 (.int .i64 0)).set 1 (.int .i64 0)).set 2 (.int .i64 0)
      have s0 := S.cell' 0 (.int .i64 0) rfl
      have s1 := S.cell' 1 (.int .i64 0) rfl
      have s2 := S.cell' 2 (.int .i64 0) rfl
      exact bodyPost_ret (v := .tuple #[.agg #[.int .i64 0, .int .i64 0, .int .i64 0], .int .i64 3]) (by simp [results, Tryd.results52, go_sem, s0, s1, s2]) rfl ⟨rfl, ((Q.out.setCell (by simp) _).setCell (by simp) _).setCell (by simp) _⟩
    · rw [h] at c
      simp only [if_true]
      have C := Lib.hid c
      clear c h x1 x2 y1 y2 z1 z2
      go_enter Tryd.func52, Tryd.ntmps52
      go_wp2_with (go_at_call 46; ((with_reducible refine (C.out _).mono ?_); rintro e w1 ⟨rfl, q⟩; have R1 := Lib.hid (R.out.kept q); have X1 := Lib.hid (X.out.kept q); have Q := Lib.hid (Qw.trans Q0.out q); have r0 := R1.out.cell' 0 (.int .i64 0) rfl; have r1 := R1.out.cell' 1 (.int .i64 0) rfl; have r2 := R1.out.cell' 2 (.int .i64 0) rfl; have f0 := R1.out.free 0; have f1 := R1.out.free 1; have f2 := R1.out.free 2; have x0 := X1.out.cell' 0 (.int .i64 x) rfl; have x1 := X1.out.cell' 1 (.int .i64 y) rfl; have x2 := X1.out.cell' 2 (.int .i64 z) rfl; clear q))
      have S := ((R1.out.set 0 (.int .i64 x)).set 1 (.int .i64 y)).set 2 (.int .i64 z)
      have s0 := S.cell' 0 (.int .i64 x) rfl
      have s1 := S.cell' 1 (.int .i64 y) rfl
      have s2 := S.cell' 2 (.int .i64 z) rfl
      exact bodyPost_ret (v := .tuple #[.agg #[.int .i64 x, .int .i64 y, .int .i64 z], .int .i64 0]) (by simp [results, Tryd.results52, go_sem, s0, s1, s2]) rfl ⟨rfl, ((Q.out.setCell (by simp) _).setCell (by simp) _).setCell (by simp) _⟩
end Go.Proofs.YtnjcbgnghfppoaaDoor

/- The walk of the specification's turned. -/
set_option linter.unusedVariables false
set_option linter.unusedSimpArgs false
namespace Go.Proofs.YtnjcbgnghfppoaaDoor
open Go.RowKit

theorem fst3 {w : World} {N R : Nat} {cs : Array Value} {t : TypeId} (h : Bx w R cs t) (ne : R ≠ N) (x y z : Value) : Bx (((w.setCell ⟨N, 0, none⟩ x).setCell ⟨N, 1, none⟩ y).setCell ⟨N, 2, none⟩ z) R cs t := ((h.other (a := ⟨N, 0, none⟩) ne x).other (a := ⟨N, 1, none⟩) ne y).other (a := ⟨N, 2, none⟩) ne z
set_option maxRecDepth 100000 in
set_option maxHeartbeats 8000000 in
theorem rfTurned (f : Fm.F) (hg : Fm.Gd f) (x y z a : Int) (hx : -1200000 ≤ x ∧ x ≤ 1200000) (hy : -1200000 ≤ y ∧ y ≤ 1200000) (hz : -1200000 ≤ z ∧ z ≤ 1200000) (ha : -9223372036854775808 ≤ a ∧ a ≤ 9223372036854775807) (w : World) :
    Calls Tryd.prog 51 #[.agg (frc f), .agg #[.int .i64 x, .int .i64 y, .int .i64 z], .int .i64 a] w
      fun e w' => e = .returned (.tuple #[.agg #[.int .i64 (Fm.tx f x y z a), .int .i64 (Fm.ty f x y z a), .int .i64 (Fm.tz f x y z a)], .bool true]) ∧ Qw w w' := by
  cases ht : f.t
  · have e0 : Fm.tx f x y z a = x := by unfold Fm.tx; rw [ht]; rfl
    have e1 : Fm.ty f x y z a = y := by unfold Fm.ty; rw [ht]; rfl
    have e2 : Fm.tz f x y z a = z := by unfold Fm.tz; rw [ht]; rfl
    rw [e0, e1, e2]
    have HT := Lib.hid ht
    clear e0 e1 e2 hg ht hx hy hz ha
    go_enter Tryd.func51, Tryd.ntmps51
    go_upto_region 1 with (refine box_fr 0 rfl ?_; intro w0 P hp X q; have X0 := Lib.hid X; have Q0 := Lib.hid q; clear X q)
    refine code_of (fun w' => Bx w' P (frc f) FT ∧ Bx w' w0.heap.size #[.int .i64 x, .int .i64 y, .int .i64 z] 23 ∧ Bx w' (w0.heap.size + 1) #[.int .i64 0, .int .i64 0, .int .i64 0] 23 ∧ Qw w w') ⟨(X0.out.alloc _).alloc _, (Bx.new _ _ _).alloc _, bxn _ _ _ _, Qw.al (Qw.al Q0.out _) _⟩ ?_
    have hR : w.heap.size ≤ w0.heap.size + 1 := by have := Q0.out.size; omega
    clear X0 Q0 hp
    generalize w0.heap.size + 1 = R at *
    generalize w0.heap.size = A at *
    rintro w1 ⟨F, X, RR, q1⟩
    have y0 := X.cell' 0 (.int .i64 x) rfl
    have y1 := X.cell' 1 (.int .i64 y) rfl
    have y2 := X.cell' 2 (.int .i64 z) rfl
    have z0 := RR.cell' 0 (.int .i64 0) rfl
    have z1 := RR.cell' 1 (.int .i64 0) rfl
    have z2 := RR.cell' 2 (.int .i64 0) rfl
    have f0 := RR.free 0
    have f1 := RR.free 1
    have f2 := RR.free 2
    have c26 := F.cell' 26 (.bool false) (at_t HT.out)
    have K := Lib.hid (And.intro (RR.st3 (.int .i64 x) (.int .i64 y) (.int .i64 z)) (Qw.st3 q1 hR (.int .i64 x) (.int .i64 y) (.int .i64 z)))
    clear F X RR q1
    go_wp2
    have t0 := K.out.1.cell' 0 (.int .i64 x) rfl
    have t1 := K.out.1.cell' 1 (.int .i64 y) rfl
    have t2 := K.out.1.cell' 2 (.int .i64 z) rfl
    exact bodyPost_ret (v := .tuple #[.agg #[.int .i64 x, .int .i64 y, .int .i64 z], .bool true]) (by simp [results, Tryd.results51, go_sem, t0, t1, t2]) rfl ⟨rfl, K.out.2⟩
  · have hp := hg.yes ht
    have d := hg.diff hx hy hz
    have r := hg.r hx hy hz a
    have b := Fm.f_bd (p := f.p) (B := 50000) (by decide) hg.ex hg.ey hg.ez
    have g := Fm.f_bd (p := f.p) (B := 1200000) (by decide) hx hy hz
    have e0 : Fm.tx f x y z a = sx f.p (Fm.ru f x y z a) (Fm.rw_ f x y z a) (fh f.p x y z) := by unfold Fm.tx; rw [ht]; rfl
    have e1 : Fm.ty f x y z a = sy f.p (Fm.ru f x y z a) (Fm.rw_ f x y z a) (fh f.p x y z) := by unfold Fm.ty; rw [ht]; rfl
    have e2 : Fm.tz f x y z a = sz f.p (Fm.ru f x y z a) (Fm.rw_ f x y z a) (fh f.p x y z) := by unfold Fm.tz; rw [ht]; rfl
    rw [e0, e1, e2]
    have pp : pin f.p = true := by
      have : f.p = 17 ∨ f.p = 18 ∨ f.p = 19 := by omega
      rcases this with k | k | k <;> rw [k] <;> rfl
    have cf := fun w => vr_flat f.p x y z (by omega) (by omega) w
    rw [pp] at cf
    have cc := fun w => rfPt f.p f.ex f.ey f.ez (by omega) (by omega) w
    have cu := fun w => rfSubPt (fu f.p x y z) (fw f.p x y z) (fu f.p f.ex f.ey f.ez) (fw f.p f.ex f.ey f.ez) (by omega) (by omega) (by omega) (by omega) (by omega) (by omega) (by omega) (by omega) w
    have cr := fun w => cr_rotate (fu f.p x y z - fu f.p f.ex f.ey f.ez) (fw f.p x y z - fw f.p f.ex f.ey f.ez) a ha.1 ha.2 w
    rw [(rotv_in _ _ a (by omega) (by omega) (by omega) (by omega)).1] at cr
    have k := Fm.rotv_bd2 _ _ a d.1.1 d.1.2 d.2.1 d.2.2
    have u1 : fu f.p f.ex f.ey f.ez + (rotv (fu f.p x y z - fu f.p f.ex f.ey f.ez) (fw f.p x y z - fw f.p f.ex f.ey f.ez) a).1 = Fm.ru f x y z a := Int.add_comm _ _
    have u2 : fw f.p f.ex f.ey f.ez + (rotv (fu f.p x y z - fu f.p f.ex f.ey f.ez) (fw f.p x y z - fw f.p f.ex f.ey f.ez) a).2 = Fm.rw_ f x y z a := Int.add_comm _ _
    generalize (rotv (fu f.p x y z - fu f.p f.ex f.ey f.ez) (fw f.p x y z - fw f.p f.ex f.ey f.ez) a).1 = v1 at *
    generalize (rotv (fu f.p x y z - fu f.p f.ex f.ey f.ez) (fw f.p x y z - fw f.p f.ex f.ey f.ez) a).2 = v2 at *
    have ca := fun w => rfAddPt (fu f.p f.ex f.ey f.ez) (fw f.p f.ex f.ey f.ez) v1 v2 (by omega) (by omega) (by omega) (by omega) (by omega) (by omega) (by omega) (by omega) w
    rw [u1, u2] at ca
    have cs := fun w => rfAt f.p (Fm.ru f x y z a) (Fm.rw_ f x y z a) (fh f.p x y z) (by omega) (by omega) w
    clear u1 u2
    generalize Fm.ru f x y z a = U at *
    generalize Fm.rw_ f x y z a = V at *
    generalize sx f.p U V (fh f.p x y z) = s0 at *
    generalize sy f.p U V (fh f.p x y z) = s1 at *
    generalize sz f.p U V (fh f.p x y z) = s2 at *
    generalize fu f.p x y z - fu f.p f.ex f.ey f.ez = d0 at *
    generalize fw f.p x y z - fw f.p f.ex f.ey f.ez = d1 at *
    generalize fu f.p x y z = g0 at *
    generalize fw f.p x y z = g1 at *
    generalize fh f.p x y z = g2 at *
    generalize fu f.p f.ex f.ey f.ez = h0 at *
    generalize fw f.p f.ex f.ey f.ez = h1 at *
    have CF := Lib.hid cf; have CC := Lib.hid cc; have CU := Lib.hid cu; have CR := Lib.hid cr; have CA := Lib.hid ca; have CS := Lib.hid cs
    have HT := Lib.hid ht
    clear e0 e1 e2 cf cc cu cr ca cs hg hp pp ht hx hy hz ha d b g k r
    go_enter Tryd.func51, Tryd.ntmps51
    go_upto_region 1 with (refine box_fr 0 rfl ?_; intro w0 P hp X q; have X0 := Lib.hid X; have Q0 := Lib.hid q; clear X q)
    refine code_of (fun w' => Bx w' P (frc f) FT ∧ Bx w' w0.heap.size #[.int .i64 x, .int .i64 y, .int .i64 z] 23 ∧ Bx w' (w0.heap.size + 1) #[.int .i64 0, .int .i64 0, .int .i64 0] 23 ∧ Qw w w') ⟨(X0.out.alloc _).alloc _, (Bx.new _ _ _).alloc _, bxn _ _ _ _, Qw.al (Qw.al Q0.out _) _⟩ ?_
    have hR : w.heap.size ≤ w0.heap.size + 1 := by have := Q0.out.size; omega
    have nP : P ≠ w0.heap.size + 1 := by have := X0.out.lt; omega
    clear X0 Q0 hp
    generalize w0.heap.size + 1 = R at *
    generalize w0.heap.size = A at *
    rintro w1 ⟨F, X, RR, q1⟩
    have y0 := X.cell' 0 (.int .i64 x) rfl
    have y1 := X.cell' 1 (.int .i64 y) rfl
    have y2 := X.cell' 2 (.int .i64 z) rfl
    have c26 := F.cell' 26 (.bool true) (at_t HT.out)
    have c27 := F.cell' 27 (.int .i64 f.p) rfl
    have FX := Lib.hid (fun (w' : World) (q : Qw w1 w') => F.kept q)
    have RX := Lib.hid (fun (w' : World) (q : Qw w1 w') => RR.kept q)
    have Q1 := Lib.hid q1
    have lR : R < w1.heap.size := RR.lt
    clear F X RR q1
    go_upto_region 4 with (go_at_call 60; ((with_reducible refine (CF.out _).mono ?_); rintro e w2 ⟨rfl, q⟩; have Q2 := Lib.hid q; clear q))
    refine code_of (fun w' => Bx w' w2.heap.size #[.int .i64 g0, .int .i64 g1] 64 ∧ Qw w1 w') ⟨Bx.new _ _ _, Qw.al Q2.out _⟩ ?_
    clear y0 y1 y2 c26 c27 Q2
    rintro w3 ⟨G, q3⟩
    have c27 := (FX.out _ q3).cell' 27 (.int .i64 f.p) rfl
    have c28 := (FX.out _ q3).cell' 28 (.int .i64 f.ex) rfl
    have c29 := (FX.out _ q3).cell' 29 (.int .i64 f.ey) rfl
    have c30 := (FX.out _ q3).cell' 30 (.int .i64 f.ez) rfl
    have Q3 := Lib.hid q3
    have GX := Lib.hid (fun (w' : World) (q : Qw w3 w') => G.kept q)
    clear q3 G
    generalize w2.heap.size = GB at *
    go_upto_region 5 with (go_at_call 37; ((with_reducible refine (CC.out _).mono ?_); rintro e w4 ⟨rfl, q⟩; have Q4 := Lib.hid q; clear q))
    have lC : w1.heap.size ≤ w4.heap.size := by have := Q3.out.size; have := Q4.out.size; omega
    refine code_of (fun w' => Bx w' w4.heap.size #[.int .i64 h0, .int .i64 h1] 64 ∧ Qw w3 w') ⟨Bx.new _ _ _, Qw.al Q4.out _⟩ ?_
    have nC : w4.heap.size ≠ R := by omega
    clear c27 c28 c29 c30 Q4 lC
    generalize w4.heap.size = CB at *
    rintro w5 ⟨C, q5⟩
    have k_0 := C.cell' 0 (.int .i64 h0) rfl
    have k_1 := C.cell' 1 (.int .i64 h1) rfl
    have g_0 := (GX.out _ q5).cell' 0 (.int .i64 g0) rfl
    have g_1 := (GX.out _ q5).cell' 1 (.int .i64 g1) rfl
    have CX := Lib.hid (fun (w' : World) (q : Qw w5 w') => C.kept q)
    have Q5 := Lib.hid (Qw.trans Q3.out q5)
    clear q5 C
    go_upto_region 6 with (go_at_call 72; ((with_reducible refine (CU.out _).mono ?_); rintro e w6 ⟨rfl, q⟩; have Q6 := Lib.hid q; clear q))
    refine code_of (fun w' => Bx w' w6.heap.size #[.int .i64 d0, .int .i64 d1] 64 ∧ Qw w5 w') ⟨Bx.new _ _ _, Qw.al Q6.out _⟩ ?_
    clear k_0 k_1 g_0 g_1 Q6
    generalize w6.heap.size = DB at *
    rintro w7 ⟨D, q7⟩
    have k_0 := D.cell' 0 (.int .i64 d0) rfl
    have k_1 := D.cell' 1 (.int .i64 d1) rfl
    have Q7 := Lib.hid q7
    clear q7 D
    go_upto_region 7 with (go_at_call 59; ((with_reducible refine (CR.out _).mono ?_); rintro e w8 ⟨rfl, q⟩; have Q8 := Lib.hid (Qw.trans Q7.out q); clear q))
    clear k_0 k_1
    have start : Bx (World.drew w8) P (frc f) FT ∧ Bx (World.drew w8) CB #[.int .i64 h0, .int .i64 h1] 64 ∧ Qw w (World.drew w8) ∧ Bx (World.drew w8) R #[.int .i64 0, .int .i64 0, .int .i64 0] 23 :=
      ⟨(FX.out _ (Qw.trans Q5.out Q8.out)).kept (qw_drew1 _), (CX.out _ Q8.out).kept (qw_drew1 _), Qw.trans (Qw.trans Q1.out (Qw.trans Q5.out Q8.out)) (qw_drew1 _), (RX.out _ (Qw.trans Q5.out Q8.out)).kept (qw_drew1 _)⟩
    refine wp_region_M (fun wS => Bx wS P (frc f) FT ∧ Bx wS CB #[.int .i64 h0, .int .i64 h1] 64 ∧ Qw w wS) 11 (by kernel_rfl) ?_
    obtain ⟨s_1, s_2, s_3, RB0⟩ := start
    have hSS := And.intro s_1 (And.intro s_2 s_3)
    have RB := Lib.hid RB0
    clear s_1 s_2 s_3 RB0
    generalize World.drew w8 = wd at *
    clear Q1 Q3 Q5 Q7 Q8 FX RX GX CX
    refine wpAnyM_take (i := 0) (v := ?_) rfl (by kernel_rfl) (fun _ _ _ h => h) (Or.inl ⟨by rfl, ?_⟩) hSS ?_
    rotate_left 1
    · intro wS hwS
      go_simp
      try with_reducible rfl
    simp only [List.getElem_toArray, List.getElem_cons_succ, List.getElem_cons_zero, Act.put, List.setIfInBounds_toArray, List.set_cons_zero, List.set_cons_succ]
    refine wpAnyM_take (i := 1) (v := ?_) rfl (by kernel_rfl) (fun _ _ _ h => h) (Or.inl ⟨by rfl, ?_⟩) hSS ?_
    rotate_left 1
    · intro wS hwS
      have y := hwS.1.cell' 27 (.int .i64 f.p) rfl; go_simp
      try with_reducible rfl
    simp only [List.getElem_toArray, List.getElem_cons_succ, List.getElem_cons_zero, Act.put, List.setIfInBounds_toArray, List.set_cons_zero, List.set_cons_succ]
    refine wpAnyM_take (i := 2) (v := ?_) rfl (by kernel_rfl) (fun _ _ _ h => h) (Or.inl ⟨by rfl, ?_⟩) hSS ?_
    rotate_left 1
    · intro wS hwS
      have y0 := hwS.2.1.cell' 0 (.int .i64 h0) rfl; have y1 := hwS.2.1.cell' 1 (.int .i64 h1) rfl; go_simp
      try with_reducible rfl
    simp only [List.getElem_toArray, List.getElem_cons_succ, List.getElem_cons_zero, Act.put, List.setIfInBounds_toArray, List.set_cons_zero, List.set_cons_succ]
    refine wpAnyM_take (i := 3) (v := ?_) rfl (by kernel_rfl) (fun _ _ _ h => h) (Or.inl ⟨by rfl, ?_⟩) hSS ?_
    rotate_left 1
    · intro wS hwS
      go_simp
      try with_reducible rfl
    simp only [List.getElem_toArray, List.getElem_cons_succ, List.getElem_cons_zero, Act.put, List.setIfInBounds_toArray, List.set_cons_zero, List.set_cons_succ]
    refine wpAnyM_take (i := 4) (v := ?_) rfl (by kernel_rfl) (fun _ _ _ h => h) (Or.inl ⟨by rfl, ?_⟩) hSS ?_
    rotate_left 1
    · intro wS hwS
      go_simp
      try with_reducible rfl
    simp only [List.getElem_toArray, List.getElem_cons_succ, List.getElem_cons_zero, Act.put, List.setIfInBounds_toArray, List.set_cons_zero, List.set_cons_succ]
    refine wpAnyM_take (i := 5) (v := ?_) rfl (by kernel_rfl) (fun _ _ _ h => h) (Or.inl ⟨by rfl, ?_⟩) hSS ?_
    rotate_left 1
    · intro wS hwS
      go_simp
      try with_reducible rfl
    simp only [List.getElem_toArray, List.getElem_cons_succ, List.getElem_cons_zero, Act.put, List.setIfInBounds_toArray, List.set_cons_zero, List.set_cons_succ]
    refine wpAnyM_take (i := 7) (v := ?_) rfl (by kernel_rfl) (fun _ _ _ h => h) (Or.inl ⟨by rfl, ?_⟩) hSS ?_
    rotate_left 1
    · intro wS hwS
      go_simp
      try with_reducible rfl
    simp only [List.getElem_toArray, List.getElem_cons_succ, List.getElem_cons_zero, Act.put, List.setIfInBounds_toArray, List.set_cons_zero, List.set_cons_succ]
    refine wpAnyM_take (i := 9) (v := ?_) rfl (by kernel_rfl) (fun _ _ _ h => h) (Or.inl ⟨by rfl, ?_⟩) hSS ?_
    rotate_left 1
    · intro wS hwS
      go_simp
      try with_reducible rfl
    simp only [List.getElem_toArray, List.getElem_cons_succ, List.getElem_cons_zero, Act.put, List.setIfInBounds_toArray, List.set_cons_zero, List.set_cons_succ]
    refine wpAnyM_one (i := 6) rfl (by kernel_rfl) rfl (fun K hK => ?_)
    go_simp
    refine (CA.out _).mono ?_
    rintro e w9 ⟨rfl, m⟩
    have m2 := And.intro (hSS.1.kept m) (And.intro (hSS.2.1.kept m) (Qw.trans hSS.2.2 m))
    have RB2 := Lib.hid (RB.out.kept m)
    refine hK _ _ (fun _ => m2) ?_
    clear hK K hSS m RB
    have hSS := m2
    have RB := RB2
    clear m2 RB2
    try simp only [List.getElem_toArray, List.getElem_cons_succ, List.getElem_cons_zero, Act.put, List.setIfInBounds_toArray, List.set_cons_zero, List.set_cons_succ]
    refine wpAnyM_one (i := 8) rfl (by kernel_rfl) rfl (fun K hK => ?_)
    go_simp
    refine (CS.out _).mono ?_
    rintro e w10 ⟨rfl, m⟩
    have m2 := And.intro (hSS.1.kept m) (And.intro (hSS.2.1.kept m) (Qw.trans hSS.2.2 m))
    have RB2 := Lib.hid (RB.out.kept m)
    refine hK _ _ (fun _ => m2) ?_
    clear hK K hSS m RB
    have hSS := m2
    have RB := RB2
    clear m2 RB2
    try simp only [List.getElem_toArray, List.getElem_cons_succ, List.getElem_cons_zero, Act.put, List.setIfInBounds_toArray, List.set_cons_zero, List.set_cons_succ]
    have z0 := RB.out.cell' 0 (.int .i64 0) rfl
    have z1 := RB.out.cell' 1 (.int .i64 0) rfl
    have z2 := RB.out.cell' 2 (.int .i64 0) rfl
    have y0 := RB.out.free 0
    have y1 := RB.out.free 1
    have y2 := RB.out.free 2
    refine wpAnyM_one (i := 10) rfl (by kernel_rfl) rfl (fun K hK => ?_)
    go_simp
    refine hK _ _ (fun _ => ⟨fst3 hSS.1 nP _ _ _, fst3 hSS.2.1 nC _ _ _, Qw.st3 hSS.2.2 hR _ _ _⟩) ?_
    have K2 := Lib.hid (And.intro (RB.out.st3 (.int .i64 s0) (.int .i64 s1) (.int .i64 s2)) (Qw.st3 hSS.2.2 hR (.int .i64 s0) (.int .i64 s1) (.int .i64 s2)))
    clear hK K hSS RB z0 z1 z2 y0 y1 y2
    try simp only [List.getElem_toArray, List.getElem_cons_succ, List.getElem_cons_zero, Act.put, List.setIfInBounds_toArray, List.set_cons_zero, List.set_cons_succ]
    refine wpAnyM_one (i := 11) rfl (by kernel_rfl) rfl (fun K hK => ?_)
    go_simp
    refine hK _ _ (fun h => absurd h (by decide)) ?_
    clear hK K
    try simp only [List.getElem_toArray, List.getElem_cons_succ, List.getElem_cons_zero, Act.put, List.setIfInBounds_toArray, List.set_cons_zero, List.set_cons_succ]
    refine wpAnyM_done (by kernel_rfl) ?_ _
    go_wp2
    have t0 := K2.out.1.cell' 0 (.int .i64 s0) rfl
    have t1 := K2.out.1.cell' 1 (.int .i64 s1) rfl
    have t2 := K2.out.1.cell' 2 (.int .i64 s2) rfl
    exact bodyPost_ret (v := .tuple #[.agg #[.int .i64 s0, .int .i64 s1, .int .i64 s2], .bool true]) (by simp [results, Tryd.results51, go_sem, t0, t1, t2]) rfl ⟨rfl, K2.out.2⟩
end Go.Proofs.YtnjcbgnghfppoaaDoor
