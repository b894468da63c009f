import Derived.Test.YtnjcbgnghfppoaaDoorGR
import Derived.Test.YtnjcbgnghfppoaaDoorGF

/- The makers of points of the laws of layer 12. -/
set_option linter.unusedVariables false
set_option linter.unusedSimpArgs false
namespace Go.Proofs.YtnjcbgnghfppoaaDoor
open Go.RowKit

def bt (x : Int) : Int := -1048576 + x % (1048576 - -1048576 + 1)
theorem bt_bd (x : Int) : -1048576 ≤ bt x ∧ bt x ≤ 1048576 := by
  unfold bt
  rw [show (1048576 - -1048576 + 1 : Int) = 2097153 from rfl]
  omega
set_option maxRecDepth 100000 in
set_option maxHeartbeats 2000000 in
theorem pointN (x y z : Int) (x1 : -9223372036854775808 ≤ x) (x2 : x ≤ 9223372036854775807) (y1 : -9223372036854775808 ≤ y) (y2 : y ≤ 9223372036854775807) (z1 : -9223372036854775808 ≤ z) (z2 : z ≤ 9223372036854775807) (w : World) :
    Calls Tryd.prog 24 #[.agg #[.int .i64 x, .int .i64 y, .int .i64 z]] w fun e w' => e = .returned (.agg #[.int .i64 (bt x), .int .i64 (bt y), .int .i64 (bt z)]) ∧ Qw w w' := by
  have c0 := fun w => betweenW x (-1048576) 1048576 x1 x2 (by decide) (by decide) (by decide) (by decide) w
  have c1 := fun w => betweenW y (-1048576) 1048576 y1 y2 (by decide) (by decide) (by decide) (by decide) w
  have c2 := fun w => betweenW z (-1048576) 1048576 z1 z2 (by decide) (by decide) (by decide) (by decide) w
  have e0 : -1048576 + x % (1048576 - -1048576 + 1) = bt x := rfl
  have e1 : -1048576 + y % (1048576 - -1048576 + 1) = bt y := rfl
  have e2 : -1048576 + z % (1048576 - -1048576 + 1) = bt z := rfl
  rw [e0] at c0
  rw [e1] at c1
  rw [e2] at c2
  generalize bt x = m0 at *
  generalize bt y = m1 at *
  generalize bt z = m2 at *
  have C0 := Lib.hid c0
  have C1 := Lib.hid c1
  have C2 := Lib.hid c2
  clear c0 c1 c2 e0 e1 e2
  go_enter Tryd.func24, Tryd.ntmps24
  go_upto_region 1 with fail
  refine code_of (fun w' => Bx w' w.heap.size #[.int .i64 x, .int .i64 y, .int .i64 z] 23 ∧ Bx w' (w.heap.size + 1) #[.int .i64 0, .int .i64 0, .int .i64 0] 23 ∧ Qw w w') ⟨(Bx.new _ _ _).alloc _, bxn _ _ _ _, Qw.al (Qw.al (Qw.refl w) _) _⟩ ?_
  rintro w1 ⟨X, R, q1⟩
  have x0 := X.kcell 0 (.int .i64 x) rfl
  have x1 := X.kcell 1 (.int .i64 y) rfl
  have x2 := X.kcell 2 (.int .i64 z) rfl
  refine region_kept_tail 10 (by kernel_rfl) (by kernel_rfl) ?_
  simp only [List.take_succ_cons, List.take_zero, List.drop_succ_cons, List.drop_zero]
  repeat (go_big_quiet_step (first | (go_at_call 34; with_reducible exact Kept.same (C0.out _)) | (go_at_call 34; with_reducible exact Kept.same (C1.out _)) | (go_at_call 34; with_reducible exact Kept.same (C2.out _))))
  refine wpQuiet_nil ?_
  intro w2 q2
  replace R := R.kept q2
  have q3 := Qw.trans q1 q2
  clear x0 x1 x2 X q1 q2
  have r0 := R.cell' 0 (.int .i64 0) rfl
  have g0 := R.free 0
  have r1 := R.cell' 1 (.int .i64 0) rfl
  have g1 := R.free 1
  have r2 := R.cell' 2 (.int .i64 0) rfl
  have g2 := R.free 2
  have K := Lib.hid (And.intro (R.st3 (.int .i64 m0) (.int .i64 m1) (.int .i64 m2)) (Qw.st3 q3 (show w.heap.size ≤ w.heap.size + 1 by omega) (.int .i64 m0) (.int .i64 m1) (.int .i64 m2)))
  clear R q3
  go_wp2
  have t0 := K.out.1.cell' 0 (.int .i64 m0) rfl
  have t1 := K.out.1.cell' 1 (.int .i64 m1) rfl
  have t2 := K.out.1.cell' 2 (.int .i64 m2) rfl
  exact bodyPost_ret (v := .agg #[.int .i64 m0, .int .i64 m1, .int .i64 m2]) (by simp [results, Tryd.results24, go_sem, t0, t1, t2]) rfl ⟨rfl, K.out.2⟩
end Go.Proofs.YtnjcbgnghfppoaaDoor
