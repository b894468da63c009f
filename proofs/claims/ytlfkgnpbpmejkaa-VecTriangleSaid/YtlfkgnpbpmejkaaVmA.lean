
/- The makers of small vectors and points of the laws of layer 4. -/
import Derived.Test.YtlfkgnpbpmejkaaVcB
import Derived.Test.YtlfkgnpbpmejkaaKept
set_option linter.unusedVariables false
set_option linter.unusedSimpArgs false
namespace Go.Proofs.Ytlfkgnpbpmejkaa
open Go.RowKit

theorem smallW (n : Int) (n1 : -9223372036854775808 ≤ n) (n2 : n ≤ 9223372036854775807) (w : World) :
    Calls Try.prog 29 #[.int .i64 n] w fun e w' => e = .returned (.int .i64 (sm n)) ∧ w = w' := by
  have c1 := fun w => betweenW n (-4194304) 4194304 n1 n2 (by decide) (by decide) (by decide) (by decide) w
  have e : -4194304 + n % (4194304 - -4194304 + 1) = sm n := rfl
  rw [e] at c1
  generalize sm n = r at *
  have C1 := Lib.hid c1
  clear c1 e
  go_enter Try.func29, Try.ntmps29
  go_wp2_with (go_at_call 14; refine (C1.out _).mono ?_; rintro e w' ⟨rfl, rfl⟩)
  go_ret
  exact ⟨rfl, rfl⟩

theorem vectorW (x y z : Int) (x1 : -9223372036854775808 ≤ x) (x2 : x ≤ 9223372036854775807) (y1 : -9223372036854775808 ≤ y) (y2 : y ≤ 9223372036854775807) (z1 : -9223372036854775808 ≤ z) (z2 : z ≤ 9223372036854775807) (w : World) :
    Calls Try.prog 19 #[.agg #[.int .i64 x, .int .i64 y, .int .i64 z]] w fun e w' => e = .returned (.agg #[.int .i64 (sm x), .int .i64 (sm y), .int .i64 (sm z)]) ∧ Qw w w' := by
  have c0 := fun w => smallW x x1 x2 w
  have c1 := fun w => smallW y y1 y2 w
  have c2 := fun w => smallW z z1 z2 w
  generalize sm x = m0 at *
  generalize sm y = m1 at *
  generalize sm z = m2 at *
  have C0 := Lib.hid c0
  have C1 := Lib.hid c1
  have C2 := Lib.hid c2
  clear c0 c1 c2
  go_enter Try.func19, Try.ntmps19
  go_wp2
  refine code_of (fun w' => Bx w' w.heap.size #[.int .i64 x, .int .i64 y, .int .i64 z] 23 ∧ Bx w' (w.heap.size + 1) #[.int .i64 0, .int .i64 0, .int .i64 0] 23 ∧ Qw w w') ⟨(Bx.new _ _ _).alloc _, by have := Bx.new (w.alloc (.cells #[.int .i64 x, .int .i64 y, .int .i64 z] 23)) #[.int .i64 0, .int .i64 0, .int .i64 0] 23; simpa using this, ((Below.refl _ _).alloc (Nat.le_refl _) _).alloc (by simp) _⟩ ?_
  rintro w1 ⟨X, R, q1⟩
  have x0 := X.kcell 0 (.int .i64 x) rfl
  have x1 := X.kcell 1 (.int .i64 y) rfl
  have x2 := X.kcell 2 (.int .i64 z) rfl
  refine region_kept_tail 10 (by kernel_rfl) (by kernel_rfl) ?_
  simp only [List.take_succ_cons, List.take_zero, List.drop_succ_cons, List.drop_zero]
  repeat (go_big_quiet_step (first | (go_at_call 29; exact Kept.same (C0.out _)) | (go_at_call 29; exact Kept.same (C1.out _)) | (go_at_call 29; exact Kept.same (C2.out _))))
  refine wpQuiet_nil ?_
  intro w2 q2
  replace R := R.kept q2
  have r0 := R.cell' 0 (.int .i64 0) rfl
  have g0 := R.free 0
  have r1 := R.cell' 1 (.int .i64 0) rfl
  have g1 := R.free 1
  have r2 := R.cell' 2 (.int .i64 0) rfl
  have g2 := R.free 2
  have S : Bx (World.setCell (World.setCell (World.setCell w2 ⟨w.heap.size + 1, 0, none⟩ (.int .i64 m0)) ⟨w.heap.size + 1, 1, none⟩ (.int .i64 m1)) ⟨w.heap.size + 1, 2, none⟩ (.int .i64 m2)) (w.heap.size + 1) #[.int .i64 m0, .int .i64 m1, .int .i64 m2] 23 := (((R.set 0 (.int .i64 m0)).set 1 (.int .i64 m1)).set 2 (.int .i64 m2))
  have q3 : Qw w (World.setCell (World.setCell (World.setCell w2 ⟨w.heap.size + 1, 0, none⟩ (.int .i64 m0)) ⟨w.heap.size + 1, 1, none⟩ (.int .i64 m1)) ⟨w.heap.size + 1, 2, none⟩ (.int .i64 m2)) := ((((q1.trans q2).setCell (by simp) _).setCell (by simp) _).setCell (by simp) _)
  go_wp2
  generalize (World.setCell (World.setCell (World.setCell w2 ⟨w.heap.size + 1, 0, none⟩ (.int .i64 m0)) ⟨w.heap.size + 1, 1, none⟩ (.int .i64 m1)) ⟨w.heap.size + 1, 2, none⟩ (.int .i64 m2)) = w3 at *
  have s0 := S.cell' 0 (.int .i64 m0) rfl
  have s1 := S.cell' 1 (.int .i64 m1) rfl
  have s2 := S.cell' 2 (.int .i64 m2) rfl
  exact bodyPost_ret (v := .agg #[.int .i64 m0, .int .i64 m1, .int .i64 m2]) (by simp [results, Try.results19, go_sem, s0, s1, s2]) rfl ⟨rfl, q3⟩

theorem pointW (x y : Int) (x1 : -9223372036854775808 ≤ x) (x2 : x ≤ 9223372036854775807) (y1 : -9223372036854775808 ≤ y) (y2 : y ≤ 9223372036854775807) (w : World) :
    Calls Try.prog 28 #[.agg #[.int .i64 x, .int .i64 y]] w fun e w' => e = .returned (.agg #[.int .i64 (sm x), .int .i64 (sm y)]) ∧ Qw w w' := by
  have c0 := fun w => smallW x x1 x2 w
  have c1 := fun w => smallW y y1 y2 w
  generalize sm x = m0 at *
  generalize sm y = m1 at *
  have C0 := Lib.hid c0
  have C1 := Lib.hid c1
  clear c0 c1
  go_enter Try.func28, Try.ntmps28
  go_wp2
  refine code_of (fun w' => Bx w' w.heap.size #[.int .i64 x, .int .i64 y] 36 ∧ Bx w' (w.heap.size + 1) #[.int .i64 0, .int .i64 0] 36 ∧ Qw w w') ⟨(Bx.new _ _ _).alloc _, by have := Bx.new (w.alloc (.cells #[.int .i64 x, .int .i64 y] 36)) #[.int .i64 0, .int .i64 0] 36; simpa using this, ((Below.refl _ _).alloc (Nat.le_refl _) _).alloc (by simp) _⟩ ?_
  rintro w1 ⟨X, R, q1⟩
  have x0 := X.kcell 0 (.int .i64 x) rfl
  have x1 := X.kcell 1 (.int .i64 y) rfl
  refine region_kept_tail 7 (by kernel_rfl) (by kernel_rfl) ?_
  simp only [List.take_succ_cons, List.take_zero, List.drop_succ_cons, List.drop_zero]
  repeat (go_big_quiet_step (first | (go_at_call 29; exact Kept.same (C0.out _)) | (go_at_call 29; exact Kept.same (C1.out _))))
  refine wpQuiet_nil ?_
  intro w2 q2
  replace R := R.kept q2
  have r0 := R.cell' 0 (.int .i64 0) rfl
  have g0 := R.free 0
  have r1 := R.cell' 1 (.int .i64 0) rfl
  have g1 := R.free 1
  have S : Bx (World.setCell (World.setCell w2 ⟨w.heap.size + 1, 0, none⟩ (.int .i64 m0)) ⟨w.heap.size + 1, 1, none⟩ (.int .i64 m1)) (w.heap.size + 1) #[.int .i64 m0, .int .i64 m1] 36 := ((R.set 0 (.int .i64 m0)).set 1 (.int .i64 m1))
  have q3 : Qw w (World.setCell (World.setCell w2 ⟨w.heap.size + 1, 0, none⟩ (.int .i64 m0)) ⟨w.heap.size + 1, 1, none⟩ (.int .i64 m1)) := (((q1.trans q2).setCell (by simp) _).setCell (by simp) _)
  go_wp2
  generalize (World.setCell (World.setCell w2 ⟨w.heap.size + 1, 0, none⟩ (.int .i64 m0)) ⟨w.heap.size + 1, 1, none⟩ (.int .i64 m1)) = w3 at *
  have s0 := S.cell' 0 (.int .i64 m0) rfl
  have s1 := S.cell' 1 (.int .i64 m1) rfl
  exact bodyPost_ret (v := .agg #[.int .i64 m0, .int .i64 m1]) (by simp [results, Try.results28, go_sem, s0, s1]) rfl ⟨rfl, q3⟩

end Go.Proofs.Ytlfkgnpbpmejkaa
