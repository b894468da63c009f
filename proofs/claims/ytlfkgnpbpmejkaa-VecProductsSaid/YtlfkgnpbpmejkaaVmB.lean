
/- Half of a small vector, and the sanity check of the laws of layer 4. -/
import Derived.Test.YtlfkgnpbpmejkaaVmA
import Derived.Deep.Cut
set_option linter.unusedVariables false
set_option linter.unusedSimpArgs false
namespace Go.Proofs.Ytlfkgnpbpmejkaa
open Go.RowKit

/-- Half of a small number. -/
def hv (n : Int) : Int := (sm n).tdiv 2
theorem hv_bd (n : Int) : -2097152 ≤ hv n ∧ hv n ≤ 2097152 := by
  have := sm_bd n
  unfold hv
  rcases Int.lt_or_le (sm n) 0 with c | c
  · rw [show sm n = -(-(sm n)) by omega, Int.neg_tdiv, Int.tdiv_eq_ediv_of_nonneg (by omega)]; omega
  · rw [Int.tdiv_eq_ediv_of_nonneg c]; omega

theorem halvedW (x y z : Int) (x1 : -9223372036854775808 ≤ x) (x2 : x ≤ 9223372036854775807) (y1 : -9223372036854775808 ≤ y) (y2 : y ≤ 9223372036854775807) (z1 : -9223372036854775808 ≤ z) (z2 : z ≤ 9223372036854775807) (w : World) :
    Calls Try.prog 38 #[.agg #[.int .i64 x, .int .i64 y, .int .i64 z]] w fun e w' => e = .returned (.agg #[.int .i64 (hv x), .int .i64 (hv y), .int .i64 (hv z)]) ∧ Qw w w' := by
  have c0 := fun w => vectorW x y z x1 x2 y1 y2 z1 z2 w
  have b0 := sm_bd x
  have e0 : (sm x).tdiv 2 = hv x := rfl
  obtain ⟨u0, o0⟩ := hv_bd x
  have b1 := sm_bd y
  have e1 : (sm y).tdiv 2 = hv y := rfl
  obtain ⟨u1, o1⟩ := hv_bd y
  have b2 := sm_bd z
  have e2 : (sm z).tdiv 2 = hv z := rfl
  obtain ⟨u2, o2⟩ := hv_bd z
  generalize hv x = r0 at *
  generalize sm x = m0 at *
  generalize hv y = r1 at *
  generalize sm y = m1 at *
  generalize hv z = r2 at *
  generalize sm z = m2 at *
  obtain ⟨l0, k0⟩ := b0
  obtain ⟨l1, k1⟩ := b1
  obtain ⟨l2, k2⟩ := b2
  have C0 := Lib.hid c0
  clear c0
  go_enter Try.func38, Try.ntmps38
  go_wp2_with fail
  refine (C0.out _).mono ?_
  rintro e w1 ⟨rfl, q1⟩
  have X := ((Bx.new w #[.int .i64 x, .int .i64 y, .int .i64 z] 23).alloc (.cells #[.int .i64 0, .int .i64 0, .int .i64 0] 23)).kept q1
  have R : Bx w1 (w.heap.size + 1) #[.int .i64 0, .int .i64 0, .int .i64 0] 23 := Bx.kept (by have := Bx.new (w.alloc (.cells #[.int .i64 x, .int .i64 y, .int .i64 z] 23)) #[.int .i64 0, .int .i64 0, .int .i64 0] 23; simpa using this) q1
  have p1 : Qw w w1 := Qw.trans (((Below.refl _ _).alloc (Nat.le_refl _) _).alloc (by simp) _) q1
  clear q1
  have x0 := X.cell' 0 (.int .i64 x) rfl
  have f0 := X.free 0
  have x1 := X.cell' 1 (.int .i64 y) rfl
  have f1 := X.free 1
  have x2 := X.cell' 2 (.int .i64 z) rfl
  have f2 := X.free 2
  go_upto_region 2 with fail
  clear x0 x1 x2 f0 f1 f2
  refine code_of (fun w' => Bx w' w.heap.size #[.int .i64 m0, .int .i64 m1, .int .i64 m2] 23 ∧ Bx w' (w.heap.size + 1) #[.int .i64 0, .int .i64 0, .int .i64 0] 23 ∧ Qw w w') ⟨((X.set 0 _).set 1 _).set 2 _, ((R.other (by simp) _).other (by simp) _).other (by simp) _, ((p1.setCell (by simp) _).setCell (by simp) _).setCell (by simp) _⟩ ?_
  clear X R p1
  rintro w2 ⟨X, R, p1⟩
  have x0 := X.cell' 0 (.int .i64 m0) rfl
  have g0 := R.cell' 0 (.int .i64 0) rfl
  have f0 := R.free 0
  have x1 := X.cell' 1 (.int .i64 m1) rfl
  have g1 := R.cell' 1 (.int .i64 0) rfl
  have f1 := R.free 1
  have x2 := X.cell' 2 (.int .i64 m2) rfl
  have g2 := R.cell' 2 (.int .i64 0) rfl
  have f2 := R.free 2
  go_wp2
  have S : Bx (World.setCell (World.setCell (World.setCell w2 ⟨w.heap.size + 1, 0, none⟩ (.int .i64 r0)) ⟨w.heap.size + 1, 1, none⟩ (.int .i64 r1)) ⟨w.heap.size + 1, 2, none⟩ (.int .i64 r2)) (w.heap.size + 1) #[.int .i64 r0, .int .i64 r1, .int .i64 r2] 23 := (((R.set 0 (.int .i64 r0)).set 1 (.int .i64 r1)).set 2 (.int .i64 r2))
  have q3 : Qw w (World.setCell (World.setCell (World.setCell w2 ⟨w.heap.size + 1, 0, none⟩ (.int .i64 r0)) ⟨w.heap.size + 1, 1, none⟩ (.int .i64 r1)) ⟨w.heap.size + 1, 2, none⟩ (.int .i64 r2)) := (((p1.setCell (by simp) _).setCell (by simp) _).setCell (by simp) _)
  generalize (World.setCell (World.setCell (World.setCell w2 ⟨w.heap.size + 1, 0, none⟩ (.int .i64 r0)) ⟨w.heap.size + 1, 1, none⟩ (.int .i64 r1)) ⟨w.heap.size + 1, 2, none⟩ (.int .i64 r2)) = w3 at *
  have s0 := S.cell' 0 (.int .i64 r0) rfl
  have s1 := S.cell' 1 (.int .i64 r1) rfl
  have s2 := S.cell' 2 (.int .i64 r2) rfl
  exact bodyPost_ret (v := .agg #[.int .i64 r0, .int .i64 r1, .int .i64 r2]) (by simp [results, Try.results38, go_sem, s0, s1, s2]) rfl ⟨rfl, q3⟩

theorem awakeV (w : World) : Calls Try.prog 16 #[] w fun e w' => e = .returned (.bool true) ∧ Qw w w' := by
  have c1 : ∀ w, Calls Try.prog 26 #[.agg #[.int .i64 3, .int .i64 4, .int .i64 12], .int .i64 0] w fun e w' => e = .returned (.tuple #[.int .i64 13, .bool true]) ∧ Qw w w' := fun w => by
    have := vc_length 3 4 12 0 (by decide) (by decide) (by decide) (by decide) (by decide) (by decide) (by decide) (by decide) w
    rw [show rtv (3 * 3 + 4 * 4 + 12 * 12) 1 0 = 13 by decide +kernel, show rtok (3 * 3 + 4 * 4 + 12 * 12) 1 0 = true by decide +kernel] at this; exact this
  have c2 : ∀ w, Calls Try.prog 30 #[.int .i64 18, .agg #[.int .i64 1, .int .i64 2, .int .i64 3]] w fun e w' => e = .returned (.tuple #[.agg #[.int .i64 3, .int .i64 1], .int .i64 2, .bool true]) ∧ Qw w w' := fun w => vc_flat 18 1 2 3 (by decide) (by decide) w
  have C1 := Lib.hid c1; have C2 := Lib.hid c2
  clear c1 c2
  go_enter Try.func16, Try.ntmps16
  go_wp2_with fail
  refine (C1.out _).mono ?_
  rintro e w1 ⟨rfl, q1⟩
  go_wp2_with fail
  refine (C2.out _).mono ?_
  rintro e w2 ⟨rfl, q2⟩
  go_wp2_with fail
  go_ret
  exact ⟨rfl, (Qw.trans q1 q2).alloc (Nat.le_trans q1.size q2.size) _⟩

end Go.Proofs.Ytlfkgnpbpmejkaa
