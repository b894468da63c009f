import Derived.Test.YtihmifdadikhaaaGE
import Derived.Test.YtihmifdadikhaaaGD

/- The walk of package arc: Radius. -/
set_option linter.unusedVariables false
set_option linter.unusedSimpArgs false
namespace Go.Proofs.Ytihmifdadikhaaa
open Go.RowKit

set_option maxRecDepth 100000 in
set_option maxHeartbeats 8000000 in
theorem apRadius (p x y z a b c d r : Int) (p1 : -9223372036854775808 ≤ p) (p2 : p ≤ 9223372036854775807) (x1 : -9223372036854775808 ≤ x) (x2 : x ≤ 9223372036854775807) (y1 : -9223372036854775808 ≤ y) (y2 : y ≤ 9223372036854775807) (z1 : -9223372036854775808 ≤ z) (z2 : z ≤ 9223372036854775807) (a1 : -9223372036854775808 ≤ a) (a2 : a ≤ 9223372036854775807) (b1 : -9223372036854775808 ≤ b) (b2 : b ≤ 9223372036854775807) (c1 : -9223372036854775808 ≤ c) (c2 : c ≤ 9223372036854775807) (d1 : -9223372036854775808 ≤ d) (d2 : d ≤ 9223372036854775807) (r1 : -9223372036854775808 ≤ r) (r2 : r ≤ 9223372036854775807) (w : World) :
    Calls Try.prog 21 #[.int .i64 p, .agg #[.int .i64 x, .int .i64 y, .int .i64 z], .agg #[.int .i64 a, .int .i64 b, .int .i64 c], .int .i64 d, .int .i64 r] w fun e w' => e = .returned (.tuple #[.agg #[.int .i64 (Ac.rv p x y z a b c d r 0), .int .i64 (Ac.rv p x y z a b c d r 1), .int .i64 (Ac.rv p x y z a b c d r 2)], .int .i64 (Ac.re p x y z a b c d r)]) ∧ Qw w w' := by
  have pl := fun w' => apPlane p p1 p2 w'
  have w1 := fun w' => vc_within x y z x1 x2 y1 y2 z1 z2 w'
  have w2 := fun w' => vc_within a b c a1 a2 b1 b2 c1 c2 w'
  have di := fun w' => apDir d d1 d2 w'
  have ra := fun w' => apRad r r1 r2 w'
  by_cases q : Ac.rarg p x y z a b c d r = true
  case neg =>
    rw [Ac.rv_no q, Ac.rv_no q, Ac.rv_no q, Ac.re_no q]
    unfold Ac.rarg at q
    cases k1 : pin p
    · rw [k1] at pl
      have PL := Lib.hid pl
      clear pl w1 w2 di ra q
      have QQ : Hid (Qw w w) := Lib.hid (Qw.refl w)
      go_enter Try.func21, Try.ntmps21
      go_upto_region 1 with (go_big_may; (first | ((with_reducible refine box_vec (x := ?_) (y := ?_) (z := ?_) 1 ?_ ?_); rotate_left 3; (rfl); intro w1 B6 hb xx qq; have h6 := Lib.hid (Nat.le_trans QQ.out.size hb); replace QQ := Lib.hid (Qw.trans QQ.out qq); have X6 := Lib.hid xx; clear xx qq hb) | ((with_reducible refine box_vec (x := ?_) (y := ?_) (z := ?_) 2 ?_ ?_); rotate_left 3; (rfl); intro w2 B7 hb xx qq; have n7_6 := Lib.hid (Nat.ne_of_gt (Nat.lt_of_lt_of_le X6.out.lt hb)); have m7_6 := Lib.hid (Nat.ne_of_lt (Nat.lt_of_lt_of_le X6.out.lt hb)); have h7 := Lib.hid (Nat.le_trans QQ.out.size hb); replace X6 := Lib.hid (X6.out.kept qq); replace QQ := Lib.hid (Qw.trans QQ.out qq); have X7 := Lib.hid xx; clear xx qq hb) | ((with_reducible refine al_vec (dst := some 10) ?_); intro w3 B10 hb xx qq; have n10_6 := Lib.hid (Nat.ne_of_gt (Nat.lt_of_lt_of_le X6.out.lt hb)); have n10_7 := Lib.hid (Nat.ne_of_gt (Nat.lt_of_lt_of_le X7.out.lt hb)); have m10_6 := Lib.hid (Nat.ne_of_lt (Nat.lt_of_lt_of_le X6.out.lt hb)); have m10_7 := Lib.hid (Nat.ne_of_lt (Nat.lt_of_lt_of_le X7.out.lt hb)); have h10 := Lib.hid (Nat.le_trans QQ.out.size hb); replace X6 := Lib.hid (X6.out.kept qq); replace X7 := Lib.hid (X7.out.kept qq); replace QQ := Lib.hid (Qw.trans QQ.out qq); have X10 := Lib.hid xx; clear xx qq hb)))
      go_upto_region 2 with (go_big_may; (go_at_call 54; ((with_reducible refine (PL.out _).mono ?_); rintro e w4 ⟨rfl, qq⟩; replace X6 := Lib.hid (X6.out.kept qq); replace X7 := Lib.hid (X7.out.kept qq); replace X10 := Lib.hid (X10.out.kept qq); replace QQ := Lib.hid (Qw.trans QQ.out qq); clear qq; have c6_0 := X6.out.v0; have c6_1 := X6.out.v1; have c6_2 := X6.out.v2)))
      clear c6_0 c6_1 c6_2
      go_wp2_with ((with_reducible refine st_vec (x := ?_) (y := ?_) (z := ?_) 10 53 ?_ ?_ X10.out ?_); rotate_left 3; (rfl); (rfl); intro w5 xx qf ot; replace X6 := Lib.hid (ot _ _ _ m10_6.out X6.out); replace X7 := Lib.hid (ot _ _ _ m10_7.out X7.out); replace QQ := Lib.hid (qf _ QQ.out h10.out); replace X10 := Lib.hid xx; clear xx qf ot)
      have c10_0 := X10.out.v0
      have c10_1 := X10.out.v1
      have c10_2 := X10.out.v2
      exact bodyPost_ret (v := .tuple #[.agg #[.int .i64 0, .int .i64 0, .int .i64 0], .int .i64 1]) (by simp [results, Try.results21, go_sem, c10_0, c10_1, c10_2]) rfl ⟨rfl, QQ.out⟩
    rw [k1] at pl
    have PL := Lib.hid pl
    clear pl
    cases k2 : wth x y z
    · rw [k2] at w1
      have W1 := Lib.hid w1
      clear w1 w2 di ra q
      have QQ : Hid (Qw w w) := Lib.hid (Qw.refl w)
      go_enter Try.func21, Try.ntmps21
      go_upto_region 1 with (go_big_may; (first | ((with_reducible refine box_vec (x := ?_) (y := ?_) (z := ?_) 1 ?_ ?_); rotate_left 3; (rfl); intro w1 B6 hb xx qq; have h6 := Lib.hid (Nat.le_trans QQ.out.size hb); replace QQ := Lib.hid (Qw.trans QQ.out qq); have X6 := Lib.hid xx; clear xx qq hb) | ((with_reducible refine box_vec (x := ?_) (y := ?_) (z := ?_) 2 ?_ ?_); rotate_left 3; (rfl); intro w2 B7 hb xx qq; have n7_6 := Lib.hid (Nat.ne_of_gt (Nat.lt_of_lt_of_le X6.out.lt hb)); have m7_6 := Lib.hid (Nat.ne_of_lt (Nat.lt_of_lt_of_le X6.out.lt hb)); have h7 := Lib.hid (Nat.le_trans QQ.out.size hb); replace X6 := Lib.hid (X6.out.kept qq); replace QQ := Lib.hid (Qw.trans QQ.out qq); have X7 := Lib.hid xx; clear xx qq hb) | ((with_reducible refine al_vec (dst := some 10) ?_); intro w3 B10 hb xx qq; have n10_6 := Lib.hid (Nat.ne_of_gt (Nat.lt_of_lt_of_le X6.out.lt hb)); have n10_7 := Lib.hid (Nat.ne_of_gt (Nat.lt_of_lt_of_le X7.out.lt hb)); have m10_6 := Lib.hid (Nat.ne_of_lt (Nat.lt_of_lt_of_le X6.out.lt hb)); have m10_7 := Lib.hid (Nat.ne_of_lt (Nat.lt_of_lt_of_le X7.out.lt hb)); have h10 := Lib.hid (Nat.le_trans QQ.out.size hb); replace X6 := Lib.hid (X6.out.kept qq); replace X7 := Lib.hid (X7.out.kept qq); replace QQ := Lib.hid (Qw.trans QQ.out qq); have X10 := Lib.hid xx; clear xx qq hb)))
      go_upto_region 2 with (go_big_may; (first | (go_at_call 54; ((with_reducible refine (PL.out _).mono ?_); rintro e w4 ⟨rfl, qq⟩; replace X6 := Lib.hid (X6.out.kept qq); replace X7 := Lib.hid (X7.out.kept qq); replace X10 := Lib.hid (X10.out.kept qq); replace QQ := Lib.hid (Qw.trans QQ.out qq); clear qq; have c6_0 := X6.out.v0; have c6_1 := X6.out.v1; have c6_2 := X6.out.v2)) | (go_at_call 44; ((with_reducible refine (W1.out _).mono ?_); rintro e w5 ⟨rfl, qq⟩; replace X6 := Lib.hid (X6.out.kept qq); replace X7 := Lib.hid (X7.out.kept qq); replace X10 := Lib.hid (X10.out.kept qq); replace QQ := Lib.hid (Qw.trans QQ.out qq); clear qq; have c7_0 := X7.out.v0; have c7_1 := X7.out.v1; have c7_2 := X7.out.v2))))
      clear c6_0 c6_1 c6_2 c7_0 c7_1 c7_2
      go_wp2_with ((with_reducible refine st_vec (x := ?_) (y := ?_) (z := ?_) 10 53 ?_ ?_ X10.out ?_); rotate_left 3; (rfl); (rfl); intro w6 xx qf ot; replace X6 := Lib.hid (ot _ _ _ m10_6.out X6.out); replace X7 := Lib.hid (ot _ _ _ m10_7.out X7.out); replace QQ := Lib.hid (qf _ QQ.out h10.out); replace X10 := Lib.hid xx; clear xx qf ot)
      have c10_0 := X10.out.v0
      have c10_1 := X10.out.v1
      have c10_2 := X10.out.v2
      exact bodyPost_ret (v := .tuple #[.agg #[.int .i64 0, .int .i64 0, .int .i64 0], .int .i64 1]) (by simp [results, Try.results21, go_sem, c10_0, c10_1, c10_2]) rfl ⟨rfl, QQ.out⟩
    rw [k2] at w1
    have W1 := Lib.hid w1
    clear w1
    cases k3 : wth a b c
    · rw [k3] at w2
      have W2 := Lib.hid w2
      clear w2 di ra q
      have QQ : Hid (Qw w w) := Lib.hid (Qw.refl w)
      go_enter Try.func21, Try.ntmps21
      go_upto_region 1 with (go_big_may; (first | ((with_reducible refine box_vec (x := ?_) (y := ?_) (z := ?_) 1 ?_ ?_); rotate_left 3; (rfl); intro w1 B6 hb xx qq; have h6 := Lib.hid (Nat.le_trans QQ.out.size hb); replace QQ := Lib.hid (Qw.trans QQ.out qq); have X6 := Lib.hid xx; clear xx qq hb) | ((with_reducible refine box_vec (x := ?_) (y := ?_) (z := ?_) 2 ?_ ?_); rotate_left 3; (rfl); intro w2 B7 hb xx qq; have n7_6 := Lib.hid (Nat.ne_of_gt (Nat.lt_of_lt_of_le X6.out.lt hb)); have m7_6 := Lib.hid (Nat.ne_of_lt (Nat.lt_of_lt_of_le X6.out.lt hb)); have h7 := Lib.hid (Nat.le_trans QQ.out.size hb); replace X6 := Lib.hid (X6.out.kept qq); replace QQ := Lib.hid (Qw.trans QQ.out qq); have X7 := Lib.hid xx; clear xx qq hb) | ((with_reducible refine al_vec (dst := some 10) ?_); intro w3 B10 hb xx qq; have n10_6 := Lib.hid (Nat.ne_of_gt (Nat.lt_of_lt_of_le X6.out.lt hb)); have n10_7 := Lib.hid (Nat.ne_of_gt (Nat.lt_of_lt_of_le X7.out.lt hb)); have m10_6 := Lib.hid (Nat.ne_of_lt (Nat.lt_of_lt_of_le X6.out.lt hb)); have m10_7 := Lib.hid (Nat.ne_of_lt (Nat.lt_of_lt_of_le X7.out.lt hb)); have h10 := Lib.hid (Nat.le_trans QQ.out.size hb); replace X6 := Lib.hid (X6.out.kept qq); replace X7 := Lib.hid (X7.out.kept qq); replace QQ := Lib.hid (Qw.trans QQ.out qq); have X10 := Lib.hid xx; clear xx qq hb)))
      go_upto_region 2 with (go_big_may; (first | (go_at_call 54; ((with_reducible refine (PL.out _).mono ?_); rintro e w4 ⟨rfl, qq⟩; replace X6 := Lib.hid (X6.out.kept qq); replace X7 := Lib.hid (X7.out.kept qq); replace X10 := Lib.hid (X10.out.kept qq); replace QQ := Lib.hid (Qw.trans QQ.out qq); clear qq; have c6_0 := X6.out.v0; have c6_1 := X6.out.v1; have c6_2 := X6.out.v2)) | (go_at_call 44; ((with_reducible refine (W1.out _).mono ?_); rintro e w5 ⟨rfl, qq⟩; replace X6 := Lib.hid (X6.out.kept qq); replace X7 := Lib.hid (X7.out.kept qq); replace X10 := Lib.hid (X10.out.kept qq); replace QQ := Lib.hid (Qw.trans QQ.out qq); clear qq; have c7_0 := X7.out.v0; have c7_1 := X7.out.v1; have c7_2 := X7.out.v2)) | (go_at_call 44; ((with_reducible refine (W2.out _).mono ?_); rintro e w6 ⟨rfl, qq⟩; replace X6 := Lib.hid (X6.out.kept qq); replace X7 := Lib.hid (X7.out.kept qq); replace X10 := Lib.hid (X10.out.kept qq); replace QQ := Lib.hid (Qw.trans QQ.out qq); clear qq))))
      clear c6_0 c6_1 c6_2 c7_0 c7_1 c7_2
      go_wp2_with ((with_reducible refine st_vec (x := ?_) (y := ?_) (z := ?_) 10 53 ?_ ?_ X10.out ?_); rotate_left 3; (rfl); (rfl); intro w7 xx qf ot; replace X6 := Lib.hid (ot _ _ _ m10_6.out X6.out); replace X7 := Lib.hid (ot _ _ _ m10_7.out X7.out); replace QQ := Lib.hid (qf _ QQ.out h10.out); replace X10 := Lib.hid xx; clear xx qf ot)
      have c10_0 := X10.out.v0
      have c10_1 := X10.out.v1
      have c10_2 := X10.out.v2
      exact bodyPost_ret (v := .tuple #[.agg #[.int .i64 0, .int .i64 0, .int .i64 0], .int .i64 1]) (by simp [results, Try.results21, go_sem, c10_0, c10_1, c10_2]) rfl ⟨rfl, QQ.out⟩
    rw [k3] at w2
    have W2 := Lib.hid w2
    clear w2
    cases k4 : dirB d
    · rw [k4] at di
      have DI := Lib.hid di
      clear di ra q
      have QQ : Hid (Qw w w) := Lib.hid (Qw.refl w)
      go_enter Try.func21, Try.ntmps21
      go_upto_region 1 with (go_big_may; (first | ((with_reducible refine box_vec (x := ?_) (y := ?_) (z := ?_) 1 ?_ ?_); rotate_left 3; (rfl); intro w1 B6 hb xx qq; have h6 := Lib.hid (Nat.le_trans QQ.out.size hb); replace QQ := Lib.hid (Qw.trans QQ.out qq); have X6 := Lib.hid xx; clear xx qq hb) | ((with_reducible refine box_vec (x := ?_) (y := ?_) (z := ?_) 2 ?_ ?_); rotate_left 3; (rfl); intro w2 B7 hb xx qq; have n7_6 := Lib.hid (Nat.ne_of_gt (Nat.lt_of_lt_of_le X6.out.lt hb)); have m7_6 := Lib.hid (Nat.ne_of_lt (Nat.lt_of_lt_of_le X6.out.lt hb)); have h7 := Lib.hid (Nat.le_trans QQ.out.size hb); replace X6 := Lib.hid (X6.out.kept qq); replace QQ := Lib.hid (Qw.trans QQ.out qq); have X7 := Lib.hid xx; clear xx qq hb) | ((with_reducible refine al_vec (dst := some 10) ?_); intro w3 B10 hb xx qq; have n10_6 := Lib.hid (Nat.ne_of_gt (Nat.lt_of_lt_of_le X6.out.lt hb)); have n10_7 := Lib.hid (Nat.ne_of_gt (Nat.lt_of_lt_of_le X7.out.lt hb)); have m10_6 := Lib.hid (Nat.ne_of_lt (Nat.lt_of_lt_of_le X6.out.lt hb)); have m10_7 := Lib.hid (Nat.ne_of_lt (Nat.lt_of_lt_of_le X7.out.lt hb)); have h10 := Lib.hid (Nat.le_trans QQ.out.size hb); replace X6 := Lib.hid (X6.out.kept qq); replace X7 := Lib.hid (X7.out.kept qq); replace QQ := Lib.hid (Qw.trans QQ.out qq); have X10 := Lib.hid xx; clear xx qq hb)))
      go_upto_region 2 with (go_big_may; (first | (go_at_call 54; ((with_reducible refine (PL.out _).mono ?_); rintro e w4 ⟨rfl, qq⟩; replace X6 := Lib.hid (X6.out.kept qq); replace X7 := Lib.hid (X7.out.kept qq); replace X10 := Lib.hid (X10.out.kept qq); replace QQ := Lib.hid (Qw.trans QQ.out qq); clear qq; have c6_0 := X6.out.v0; have c6_1 := X6.out.v1; have c6_2 := X6.out.v2)) | (go_at_call 44; ((with_reducible refine (W1.out _).mono ?_); rintro e w5 ⟨rfl, qq⟩; replace X6 := Lib.hid (X6.out.kept qq); replace X7 := Lib.hid (X7.out.kept qq); replace X10 := Lib.hid (X10.out.kept qq); replace QQ := Lib.hid (Qw.trans QQ.out qq); clear qq; have c7_0 := X7.out.v0; have c7_1 := X7.out.v1; have c7_2 := X7.out.v2)) | (go_at_call 44; ((with_reducible refine (W2.out _).mono ?_); rintro e w6 ⟨rfl, qq⟩; replace X6 := Lib.hid (X6.out.kept qq); replace X7 := Lib.hid (X7.out.kept qq); replace X10 := Lib.hid (X10.out.kept qq); replace QQ := Lib.hid (Qw.trans QQ.out qq); clear qq)) | (go_at_call 55; ((with_reducible refine (DI.out _).mono ?_); rintro e w7 ⟨rfl, qq⟩; replace X6 := Lib.hid (X6.out.kept qq); replace X7 := Lib.hid (X7.out.kept qq); replace X10 := Lib.hid (X10.out.kept qq); replace QQ := Lib.hid (Qw.trans QQ.out qq); clear qq))))
      clear c6_0 c6_1 c6_2 c7_0 c7_1 c7_2
      go_wp2_with ((with_reducible refine st_vec (x := ?_) (y := ?_) (z := ?_) 10 53 ?_ ?_ X10.out ?_); rotate_left 3; (rfl); (rfl); intro w8 xx qf ot; replace X6 := Lib.hid (ot _ _ _ m10_6.out X6.out); replace X7 := Lib.hid (ot _ _ _ m10_7.out X7.out); replace QQ := Lib.hid (qf _ QQ.out h10.out); replace X10 := Lib.hid xx; clear xx qf ot)
      have c10_0 := X10.out.v0
      have c10_1 := X10.out.v1
      have c10_2 := X10.out.v2
      exact bodyPost_ret (v := .tuple #[.agg #[.int .i64 0, .int .i64 0, .int .i64 0], .int .i64 1]) (by simp [results, Try.results21, go_sem, c10_0, c10_1, c10_2]) rfl ⟨rfl, QQ.out⟩
    rw [k4] at di
    have DI := Lib.hid di
    clear di
    have k5 : radB r = false := by
      rw [k1, k2, k3, k4] at q
      simpa using q
    rw [k5] at ra
    have RA := Lib.hid ra
    clear ra q
    have QQ : Hid (Qw w w) := Lib.hid (Qw.refl w)
    go_enter Try.func21, Try.ntmps21
    go_upto_region 1 with (go_big_may; (first | ((with_reducible refine box_vec (x := ?_) (y := ?_) (z := ?_) 1 ?_ ?_); rotate_left 3; (rfl); intro w1 B6 hb xx qq; have h6 := Lib.hid (Nat.le_trans QQ.out.size hb); replace QQ := Lib.hid (Qw.trans QQ.out qq); have X6 := Lib.hid xx; clear xx qq hb) | ((with_reducible refine box_vec (x := ?_) (y := ?_) (z := ?_) 2 ?_ ?_); rotate_left 3; (rfl); intro w2 B7 hb xx qq; have n7_6 := Lib.hid (Nat.ne_of_gt (Nat.lt_of_lt_of_le X6.out.lt hb)); have m7_6 := Lib.hid (Nat.ne_of_lt (Nat.lt_of_lt_of_le X6.out.lt hb)); have h7 := Lib.hid (Nat.le_trans QQ.out.size hb); replace X6 := Lib.hid (X6.out.kept qq); replace QQ := Lib.hid (Qw.trans QQ.out qq); have X7 := Lib.hid xx; clear xx qq hb) | ((with_reducible refine al_vec (dst := some 10) ?_); intro w3 B10 hb xx qq; have n10_6 := Lib.hid (Nat.ne_of_gt (Nat.lt_of_lt_of_le X6.out.lt hb)); have n10_7 := Lib.hid (Nat.ne_of_gt (Nat.lt_of_lt_of_le X7.out.lt hb)); have m10_6 := Lib.hid (Nat.ne_of_lt (Nat.lt_of_lt_of_le X6.out.lt hb)); have m10_7 := Lib.hid (Nat.ne_of_lt (Nat.lt_of_lt_of_le X7.out.lt hb)); have h10 := Lib.hid (Nat.le_trans QQ.out.size hb); replace X6 := Lib.hid (X6.out.kept qq); replace X7 := Lib.hid (X7.out.kept qq); replace QQ := Lib.hid (Qw.trans QQ.out qq); have X10 := Lib.hid xx; clear xx qq hb)))
    go_upto_region 2 with (go_big_may; (first | (go_at_call 54; ((with_reducible refine (PL.out _).mono ?_); rintro e w4 ⟨rfl, qq⟩; replace X6 := Lib.hid (X6.out.kept qq); replace X7 := Lib.hid (X7.out.kept qq); replace X10 := Lib.hid (X10.out.kept qq); replace QQ := Lib.hid (Qw.trans QQ.out qq); clear qq; have c6_0 := X6.out.v0; have c6_1 := X6.out.v1; have c6_2 := X6.out.v2)) | (go_at_call 44; ((with_reducible refine (W1.out _).mono ?_); rintro e w5 ⟨rfl, qq⟩; replace X6 := Lib.hid (X6.out.kept qq); replace X7 := Lib.hid (X7.out.kept qq); replace X10 := Lib.hid (X10.out.kept qq); replace QQ := Lib.hid (Qw.trans QQ.out qq); clear qq; have c7_0 := X7.out.v0; have c7_1 := X7.out.v1; have c7_2 := X7.out.v2)) | (go_at_call 44; ((with_reducible refine (W2.out _).mono ?_); rintro e w6 ⟨rfl, qq⟩; replace X6 := Lib.hid (X6.out.kept qq); replace X7 := Lib.hid (X7.out.kept qq); replace X10 := Lib.hid (X10.out.kept qq); replace QQ := Lib.hid (Qw.trans QQ.out qq); clear qq)) | (go_at_call 55; ((with_reducible refine (DI.out _).mono ?_); rintro e w7 ⟨rfl, qq⟩; replace X6 := Lib.hid (X6.out.kept qq); replace X7 := Lib.hid (X7.out.kept qq); replace X10 := Lib.hid (X10.out.kept qq); replace QQ := Lib.hid (Qw.trans QQ.out qq); clear qq)) | (go_at_call 56; ((with_reducible refine (RA.out _).mono ?_); rintro e w8 ⟨rfl, qq⟩; replace X6 := Lib.hid (X6.out.kept qq); replace X7 := Lib.hid (X7.out.kept qq); replace X10 := Lib.hid (X10.out.kept qq); replace QQ := Lib.hid (Qw.trans QQ.out qq); clear qq))))
    clear c6_0 c6_1 c6_2 c7_0 c7_1 c7_2
    go_wp2_with ((with_reducible refine st_vec (x := ?_) (y := ?_) (z := ?_) 10 53 ?_ ?_ X10.out ?_); rotate_left 3; (rfl); (rfl); intro w9 xx qf ot; replace X6 := Lib.hid (ot _ _ _ m10_6.out X6.out); replace X7 := Lib.hid (ot _ _ _ m10_7.out X7.out); replace QQ := Lib.hid (qf _ QQ.out h10.out); replace X10 := Lib.hid xx; clear xx qf ot)
    have c10_0 := X10.out.v0
    have c10_1 := X10.out.v1
    have c10_2 := X10.out.v2
    exact bodyPost_ret (v := .tuple #[.agg #[.int .i64 0, .int .i64 0, .int .i64 0], .int .i64 1]) (by simp [results, Try.results21, go_sem, c10_0, c10_1, c10_2]) rfl ⟨rfl, QQ.out⟩
  have q' := q
  unfold Ac.rarg at q'
  simp only [Bool.and_eq_true] at q'
  obtain ⟨⟨⟨⟨k1, k2⟩, k3⟩, k4⟩, k5⟩ := q'
  rw [k1] at pl
  rw [k2] at w1
  rw [k3] at w2
  rw [k4] at di
  rw [k5] at ra
  have PL := Lib.hid pl
  have W1 := Lib.hid w1
  have W2 := Lib.hid w2
  have DI := Lib.hid di
  have RA := Lib.hid ra
  clear pl w1 w2 di ra
  obtain ⟨⟨n1, n2⟩, ⟨n3, n4⟩, n5, n6⟩ := (Ac.wth_iff _ _ _).1 k2
  obtain ⟨⟨n7, n8⟩, ⟨n9, n10⟩, n11, n12⟩ := (Ac.wth_iff _ _ _).1 k3
  have hd : d = 1 ∨ d = -1 := by simpa [dirB] using k4
  have hr : 8 ≤ r ∧ r ≤ 1048576 ∨ r ≤ -8 ∧ -1048576 ≤ r := by simpa [radB] using k5
  have df := fun w' => apDiff p a b c x y z p1 p2 (by omega) (by omega) (by omega) (by omega) (by omega) (by omega) (by omega) (by omega) (by omega) (by omega) (by omega) (by omega) w'
  have f1 := fun w' => vc_flat p x y z p1 p2 w'
  have f2 := fun w' => vc_flat p a b c p1 p2 w'
  obtain ⟨⟨g1, g2⟩, ⟨g3, g4⟩, g5, g6⟩ := fu_bd (p := p) (L := 1048576) (by decide) n1 n2 n3 n4 n5 n6
  obtain ⟨⟨g7, g8⟩, ⟨g9, g10⟩, g11, g12⟩ := fu_bd (p := p) (L := 1048576) (by decide) n7 n8 n9 n10 n11 n12
  have ev : ∀ n, Ac.rv p x y z a b c d r n = _ := fun n => Ac.rv_yes q n
  have ee : Ac.re p x y z a b c d r = _ := Ac.re_yes q
  rw [ev 0, ev 1, ev 2, ee]
  clear ev ee q k2 k3 k4 k5 n1 n2 n3 n4 n5 n6 n7 n8 n9 n10 n11 n12
  unfold Ac.rvc Ac.rec
  rw [if_pos (show (0 : Nat) = 0 from rfl), if_neg (show ¬ (1 : Nat) = 0 by decide), if_pos (show (1 : Nat) = 1 from rfl), if_neg (show ¬ (2 : Nat) = 0 by decide), if_neg (show ¬ (2 : Nat) = 1 by decide)]
  unfold Ac.rad Ac.raw
  generalize fu p x y z = fu0 at *
  generalize fw p x y z = fw0 at *
  generalize fh p x y z = fh0 at *
  generalize fu p a b c = tu0 at *
  generalize fw p a b c = tw0 at *
  generalize fh p a b c = th0 at *
  have b1 : -2097152 ≤ tu0 - fu0 ∧ tu0 - fu0 ≤ 2097152 := by omega
  have b2 : -2097152 ≤ tw0 - fw0 ∧ tw0 - fw0 ≤ 2097152 := by omega
  generalize tu0 - fu0 = du at *
  generalize tw0 - fw0 = dw at *
  have inn := fun w' => vc_inner du dw du dw (by omega) (by omega) (by omega) (by omega) (by omega) (by omega) (by omega) (by omega) w'
  change ∀ w', Calls Try.prog 58 #[.agg #[.int .i64 du, .int .i64 dw], .agg #[.int .i64 du, .int .i64 dw]] w' fun e w'' => e = .returned (.int .i64 (Ac.inn du dw du dw)) ∧ Qw w' w'' at inn
  obtain ⟨l1, l2⟩ := Ac.inn_sqs b1 b2
  have l3 : du * du ≤ Ac.inn du dw du dw := by have := Ac.sq0 dw; unfold Ac.inn; omega
  have l4 : dw * dw ≤ Ac.inn du dw du dw := by have := Ac.sq0 du; unfold Ac.inn; omega
  generalize Ac.inn du dw du dw = D at *
  have DF := Lib.hid df
  have F1 := Lib.hid f1
  have F2 := Lib.hid f2
  have IN := Lib.hid inn
  clear df f1 f2 inn
  by_cases kr : r < 0
  · rw [show Ac.rabs r = -r by unfold Ac.rabs; rw [if_pos kr], show Ac.rsid d r = -d by unfold Ac.rsid; rw [if_pos kr]]
    have r8 : 8 ≤ -r ∧ -r ≤ 1048576 := by omega
    have s1 : -d = 1 ∨ -d = -1 := by omega
    clear hr hd
    by_cases k1 : D = 0
    · have z0 : (D == 0) = true := by simpa using k1
      rw [if_pos (.inl k1), if_pos (.inl k1), if_pos (.inl k1), if_pos (.inl k1)]
      clear k1
      have QQ : Hid (Qw w w) := Lib.hid (Qw.refl w)
      go_enter Try.func21, Try.ntmps21
      go_upto_region 1 with (go_big_may; (first | ((with_reducible refine box_vec (x := ?_) (y := ?_) (z := ?_) 1 ?_ ?_); rotate_left 3; (rfl); intro w1 B6 hb xx qq; have h6 := Lib.hid (Nat.le_trans QQ.out.size hb); replace QQ := Lib.hid (Qw.trans QQ.out qq); have X6 := Lib.hid xx; clear xx qq hb) | ((with_reducible refine box_vec (x := ?_) (y := ?_) (z := ?_) 2 ?_ ?_); rotate_left 3; (rfl); intro w2 B7 hb xx qq; have n7_6 := Lib.hid (Nat.ne_of_gt (Nat.lt_of_lt_of_le X6.out.lt hb)); have m7_6 := Lib.hid (Nat.ne_of_lt (Nat.lt_of_lt_of_le X6.out.lt hb)); have h7 := Lib.hid (Nat.le_trans QQ.out.size hb); replace X6 := Lib.hid (X6.out.kept qq); replace QQ := Lib.hid (Qw.trans QQ.out qq); have X7 := Lib.hid xx; clear xx qq hb) | ((with_reducible refine al_vec (dst := some 10) ?_); intro w3 B10 hb xx qq; have n10_6 := Lib.hid (Nat.ne_of_gt (Nat.lt_of_lt_of_le X6.out.lt hb)); have n10_7 := Lib.hid (Nat.ne_of_gt (Nat.lt_of_lt_of_le X7.out.lt hb)); have m10_6 := Lib.hid (Nat.ne_of_lt (Nat.lt_of_lt_of_le X6.out.lt hb)); have m10_7 := Lib.hid (Nat.ne_of_lt (Nat.lt_of_lt_of_le X7.out.lt hb)); have h10 := Lib.hid (Nat.le_trans QQ.out.size hb); replace X6 := Lib.hid (X6.out.kept qq); replace X7 := Lib.hid (X7.out.kept qq); replace QQ := Lib.hid (Qw.trans QQ.out qq); have X10 := Lib.hid xx; clear xx qq hb)))
      go_upto_region 3 with (go_big_may; (first | (go_at_call 54; ((with_reducible refine (PL.out _).mono ?_); rintro e w4 ⟨rfl, qq⟩; replace X6 := Lib.hid (X6.out.kept qq); replace X7 := Lib.hid (X7.out.kept qq); replace X10 := Lib.hid (X10.out.kept qq); replace QQ := Lib.hid (Qw.trans QQ.out qq); clear qq; have c6_0 := X6.out.v0; have c6_1 := X6.out.v1; have c6_2 := X6.out.v2)) | (go_at_call 44; ((with_reducible refine (W1.out _).mono ?_); rintro e w5 ⟨rfl, qq⟩; replace X6 := Lib.hid (X6.out.kept qq); replace X7 := Lib.hid (X7.out.kept qq); replace X10 := Lib.hid (X10.out.kept qq); replace QQ := Lib.hid (Qw.trans QQ.out qq); clear qq; have c7_0 := X7.out.v0; have c7_1 := X7.out.v1; have c7_2 := X7.out.v2)) | (go_at_call 44; ((with_reducible refine (W2.out _).mono ?_); rintro e w6 ⟨rfl, qq⟩; replace X6 := Lib.hid (X6.out.kept qq); replace X7 := Lib.hid (X7.out.kept qq); replace X10 := Lib.hid (X10.out.kept qq); replace QQ := Lib.hid (Qw.trans QQ.out qq); clear qq)) | (go_at_call 55; ((with_reducible refine (DI.out _).mono ?_); rintro e w7 ⟨rfl, qq⟩; replace X6 := Lib.hid (X6.out.kept qq); replace X7 := Lib.hid (X7.out.kept qq); replace X10 := Lib.hid (X10.out.kept qq); replace QQ := Lib.hid (Qw.trans QQ.out qq); clear qq)) | (go_at_call 56; ((with_reducible refine (RA.out _).mono ?_); rintro e w8 ⟨rfl, qq⟩; replace X6 := Lib.hid (X6.out.kept qq); replace X7 := Lib.hid (X7.out.kept qq); replace X10 := Lib.hid (X10.out.kept qq); replace QQ := Lib.hid (Qw.trans QQ.out qq); clear qq))))
      clear c6_0 c6_1 c6_2 c7_0 c7_1 c7_2
      go_upto_region 4 with fail
      go_upto_region 5 with fail
      go_upto_region 6 with fail
      generalize -d = dd at *
      generalize -r = rr at *
      go_upto_region 7 with (go_big_may; (first | ((with_reducible refine ld_vec 7 ?_ X7.out ?_); (rfl)) | ((with_reducible refine ld_vec 6 ?_ X6.out ?_); (rfl)) | (go_at_call 57; ((with_reducible refine (DF.out _).mono ?_); rintro e w9 ⟨rfl, qq⟩; replace X6 := Lib.hid (X6.out.kept qq); replace X7 := Lib.hid (X7.out.kept qq); replace X10 := Lib.hid (X10.out.kept qq); replace QQ := Lib.hid (Qw.trans QQ.out qq); clear qq)) | ((with_reducible refine al_pt (dst := some 13) ?_); intro w10 B13 hb xx qq; have n13_6 := Lib.hid (Nat.ne_of_gt (Nat.lt_of_lt_of_le X6.out.lt hb)); have n13_7 := Lib.hid (Nat.ne_of_gt (Nat.lt_of_lt_of_le X7.out.lt hb)); have n13_10 := Lib.hid (Nat.ne_of_gt (Nat.lt_of_lt_of_le X10.out.lt hb)); have m13_6 := Lib.hid (Nat.ne_of_lt (Nat.lt_of_lt_of_le X6.out.lt hb)); have m13_7 := Lib.hid (Nat.ne_of_lt (Nat.lt_of_lt_of_le X7.out.lt hb)); have m13_10 := Lib.hid (Nat.ne_of_lt (Nat.lt_of_lt_of_le X10.out.lt hb)); have h13 := Lib.hid (Nat.le_trans QQ.out.size hb); replace X6 := Lib.hid (X6.out.kept qq); replace X7 := Lib.hid (X7.out.kept qq); replace X10 := Lib.hid (X10.out.kept qq); replace QQ := Lib.hid (Qw.trans QQ.out qq); have X13 := Lib.hid xx; clear xx qq hb) | ((with_reducible refine st_pt (x := ?_) (y := ?_) 13 64 ?_ ?_ X13.out ?_); rotate_left 2; (rfl); (rfl); intro w11 xx qf ot; replace X6 := Lib.hid (ot _ _ _ m13_6.out X6.out); replace X7 := Lib.hid (ot _ _ _ m13_7.out X7.out); replace X10 := Lib.hid (ot _ _ _ m13_10.out X10.out); replace QQ := Lib.hid (qf _ QQ.out h13.out); replace X13 := Lib.hid xx; clear xx qf ot)))
      go_upto_region 8 with (go_big_may; (first | ((with_reducible refine ld_pt 13 ?_ X13.out ?_); (rfl)) | ((with_reducible refine ld_pt 13 ?_ X13.out ?_); (rfl)) | (go_at_call 58; ((with_reducible refine (IN.out _).mono ?_); rintro e w12 ⟨rfl, qq⟩; replace X6 := Lib.hid (X6.out.kept qq); replace X7 := Lib.hid (X7.out.kept qq); replace X10 := Lib.hid (X10.out.kept qq); replace X13 := Lib.hid (X13.out.kept qq); replace QQ := Lib.hid (Qw.trans QQ.out qq); clear qq))))
      go_upto_region 9 with fail
      go_wp2_with ((with_reducible refine st_vec (x := ?_) (y := ?_) (z := ?_) 10 80 ?_ ?_ X10.out ?_); rotate_left 3; (rfl); (rfl); intro w13 xx qf ot; replace X6 := Lib.hid (ot _ _ _ m10_6.out X6.out); replace X7 := Lib.hid (ot _ _ _ m10_7.out X7.out); replace X13 := Lib.hid (ot _ _ _ n13_10.out X13.out); replace QQ := Lib.hid (qf _ QQ.out h10.out); replace X10 := Lib.hid xx; clear xx qf ot)
      have c10_0 := X10.out.v0
      have c10_1 := X10.out.v1
      have c10_2 := X10.out.v2
      exact bodyPost_ret (v := .tuple #[.agg #[.int .i64 0, .int .i64 0, .int .i64 0], .int .i64 12]) (by simp [results, Try.results21, go_sem, c10_0, c10_1, c10_2]) rfl ⟨rfl, QQ.out⟩
    have z0 : (D == 0) = false := beq_eq_false_iff_ne.2 k1
    obtain ⟨mm1, mm2⟩ := Ac.most_bd r8.1 r8.2
    by_cases k2 : (2 * (-r) + 2) * (2 * (-r) + 2) < D
    · rw [if_pos (.inr k2), if_pos (.inr k2), if_pos (.inr k2), if_pos (.inr k2)]
      clear k1
      have QQ : Hid (Qw w w) := Lib.hid (Qw.refl w)
      go_enter Try.func21, Try.ntmps21
      go_upto_region 1 with (go_big_may; (first | ((with_reducible refine box_vec (x := ?_) (y := ?_) (z := ?_) 1 ?_ ?_); rotate_left 3; (rfl); intro w1 B6 hb xx qq; have h6 := Lib.hid (Nat.le_trans QQ.out.size hb); replace QQ := Lib.hid (Qw.trans QQ.out qq); have X6 := Lib.hid xx; clear xx qq hb) | ((with_reducible refine box_vec (x := ?_) (y := ?_) (z := ?_) 2 ?_ ?_); rotate_left 3; (rfl); intro w2 B7 hb xx qq; have n7_6 := Lib.hid (Nat.ne_of_gt (Nat.lt_of_lt_of_le X6.out.lt hb)); have m7_6 := Lib.hid (Nat.ne_of_lt (Nat.lt_of_lt_of_le X6.out.lt hb)); have h7 := Lib.hid (Nat.le_trans QQ.out.size hb); replace X6 := Lib.hid (X6.out.kept qq); replace QQ := Lib.hid (Qw.trans QQ.out qq); have X7 := Lib.hid xx; clear xx qq hb) | ((with_reducible refine al_vec (dst := some 10) ?_); intro w3 B10 hb xx qq; have n10_6 := Lib.hid (Nat.ne_of_gt (Nat.lt_of_lt_of_le X6.out.lt hb)); have n10_7 := Lib.hid (Nat.ne_of_gt (Nat.lt_of_lt_of_le X7.out.lt hb)); have m10_6 := Lib.hid (Nat.ne_of_lt (Nat.lt_of_lt_of_le X6.out.lt hb)); have m10_7 := Lib.hid (Nat.ne_of_lt (Nat.lt_of_lt_of_le X7.out.lt hb)); have h10 := Lib.hid (Nat.le_trans QQ.out.size hb); replace X6 := Lib.hid (X6.out.kept qq); replace X7 := Lib.hid (X7.out.kept qq); replace QQ := Lib.hid (Qw.trans QQ.out qq); have X10 := Lib.hid xx; clear xx qq hb)))
      go_upto_region 3 with (go_big_may; (first | (go_at_call 54; ((with_reducible refine (PL.out _).mono ?_); rintro e w4 ⟨rfl, qq⟩; replace X6 := Lib.hid (X6.out.kept qq); replace X7 := Lib.hid (X7.out.kept qq); replace X10 := Lib.hid (X10.out.kept qq); replace QQ := Lib.hid (Qw.trans QQ.out qq); clear qq; have c6_0 := X6.out.v0; have c6_1 := X6.out.v1; have c6_2 := X6.out.v2)) | (go_at_call 44; ((with_reducible refine (W1.out _).mono ?_); rintro e w5 ⟨rfl, qq⟩; replace X6 := Lib.hid (X6.out.kept qq); replace X7 := Lib.hid (X7.out.kept qq); replace X10 := Lib.hid (X10.out.kept qq); replace QQ := Lib.hid (Qw.trans QQ.out qq); clear qq; have c7_0 := X7.out.v0; have c7_1 := X7.out.v1; have c7_2 := X7.out.v2)) | (go_at_call 44; ((with_reducible refine (W2.out _).mono ?_); rintro e w6 ⟨rfl, qq⟩; replace X6 := Lib.hid (X6.out.kept qq); replace X7 := Lib.hid (X7.out.kept qq); replace X10 := Lib.hid (X10.out.kept qq); replace QQ := Lib.hid (Qw.trans QQ.out qq); clear qq)) | (go_at_call 55; ((with_reducible refine (DI.out _).mono ?_); rintro e w7 ⟨rfl, qq⟩; replace X6 := Lib.hid (X6.out.kept qq); replace X7 := Lib.hid (X7.out.kept qq); replace X10 := Lib.hid (X10.out.kept qq); replace QQ := Lib.hid (Qw.trans QQ.out qq); clear qq)) | (go_at_call 56; ((with_reducible refine (RA.out _).mono ?_); rintro e w8 ⟨rfl, qq⟩; replace X6 := Lib.hid (X6.out.kept qq); replace X7 := Lib.hid (X7.out.kept qq); replace X10 := Lib.hid (X10.out.kept qq); replace QQ := Lib.hid (Qw.trans QQ.out qq); clear qq))))
      clear c6_0 c6_1 c6_2 c7_0 c7_1 c7_2
      go_upto_region 4 with fail
      go_upto_region 5 with fail
      go_upto_region 6 with fail
      generalize -d = dd at *
      generalize -r = rr at *
      go_upto_region 7 with (go_big_may; (first | ((with_reducible refine ld_vec 7 ?_ X7.out ?_); (rfl)) | ((with_reducible refine ld_vec 6 ?_ X6.out ?_); (rfl)) | (go_at_call 57; ((with_reducible refine (DF.out _).mono ?_); rintro e w9 ⟨rfl, qq⟩; replace X6 := Lib.hid (X6.out.kept qq); replace X7 := Lib.hid (X7.out.kept qq); replace X10 := Lib.hid (X10.out.kept qq); replace QQ := Lib.hid (Qw.trans QQ.out qq); clear qq)) | ((with_reducible refine al_pt (dst := some 13) ?_); intro w10 B13 hb xx qq; have n13_6 := Lib.hid (Nat.ne_of_gt (Nat.lt_of_lt_of_le X6.out.lt hb)); have n13_7 := Lib.hid (Nat.ne_of_gt (Nat.lt_of_lt_of_le X7.out.lt hb)); have n13_10 := Lib.hid (Nat.ne_of_gt (Nat.lt_of_lt_of_le X10.out.lt hb)); have m13_6 := Lib.hid (Nat.ne_of_lt (Nat.lt_of_lt_of_le X6.out.lt hb)); have m13_7 := Lib.hid (Nat.ne_of_lt (Nat.lt_of_lt_of_le X7.out.lt hb)); have m13_10 := Lib.hid (Nat.ne_of_lt (Nat.lt_of_lt_of_le X10.out.lt hb)); have h13 := Lib.hid (Nat.le_trans QQ.out.size hb); replace X6 := Lib.hid (X6.out.kept qq); replace X7 := Lib.hid (X7.out.kept qq); replace X10 := Lib.hid (X10.out.kept qq); replace QQ := Lib.hid (Qw.trans QQ.out qq); have X13 := Lib.hid xx; clear xx qq hb) | ((with_reducible refine st_pt (x := ?_) (y := ?_) 13 64 ?_ ?_ X13.out ?_); rotate_left 2; (rfl); (rfl); intro w11 xx qf ot; replace X6 := Lib.hid (ot _ _ _ m13_6.out X6.out); replace X7 := Lib.hid (ot _ _ _ m13_7.out X7.out); replace X10 := Lib.hid (ot _ _ _ m13_10.out X10.out); replace QQ := Lib.hid (qf _ QQ.out h13.out); replace X13 := Lib.hid xx; clear xx qf ot)))
      go_upto_region 8 with (go_big_may; (first | ((with_reducible refine ld_pt 13 ?_ X13.out ?_); (rfl)) | ((with_reducible refine ld_pt 13 ?_ X13.out ?_); (rfl)) | (go_at_call 58; ((with_reducible refine (IN.out _).mono ?_); rintro e w12 ⟨rfl, qq⟩; replace X6 := Lib.hid (X6.out.kept qq); replace X7 := Lib.hid (X7.out.kept qq); replace X10 := Lib.hid (X10.out.kept qq); replace X13 := Lib.hid (X13.out.kept qq); replace QQ := Lib.hid (Qw.trans QQ.out qq); clear qq))))
      go_upto_region 9 with fail
      go_wp2_with ((with_reducible refine st_vec (x := ?_) (y := ?_) (z := ?_) 10 80 ?_ ?_ X10.out ?_); rotate_left 3; (rfl); (rfl); intro w13 xx qf ot; replace X6 := Lib.hid (ot _ _ _ m10_6.out X6.out); replace X7 := Lib.hid (ot _ _ _ m10_7.out X7.out); replace X13 := Lib.hid (ot _ _ _ n13_10.out X13.out); replace QQ := Lib.hid (qf _ QQ.out h10.out); replace X10 := Lib.hid xx; clear xx qf ot)
      have c10_0 := X10.out.v0
      have c10_1 := X10.out.v1
      have c10_2 := X10.out.v2
      exact bodyPost_ret (v := .tuple #[.agg #[.int .i64 0, .int .i64 0, .int .i64 0], .int .i64 12]) (by simp [results, Try.results21, go_sem, c10_0, c10_1, c10_2]) rfl ⟨rfl, QQ.out⟩
    have k3 : ¬ (D = 0 ∨ (2 * (-r) + 2) * (2 * (-r) + 2) < D) := by omega
    rw [if_neg k3, if_neg k3, if_neg k3, if_neg k3]
    clear k3
    have e4 := Ac.four_bd r8.1 r8.2
    have rmx := run_max2 (4 * (-r) * (-r) - D) 0
    have hx : 0 ≤ Ac.hi2 (4 * (-r) * (-r) - D) 0 ∧ Ac.hi2 (4 * (-r) * (-r) - D) 0 ≤ 4398046511104 := by unfold Ac.hi2; split <;> omega
    obtain ⟨e5, e6⟩ := e4
    generalize Ac.hi2 (4 * (-r) * (-r) - D) 0 = E at *
    have sq := fun w' => sqrtW E 2 (by omega) (by omega) w'
    obtain ⟨gb1, gb2⟩ := Ac.g_bd hx.1 hx.2
    generalize rtv E 1 2 = G at *
    generalize rtok E 1 2 = ok0 at *
    have o1 := fun w' => overW dw G (4 * D) 2 (by omega) (by omega) (by omega) (by omega) (by omega) (by omega) w'
    have o2 := fun w' => overW du G (4 * D) 2 (by omega) (by omega) (by omega) (by omega) (by omega) (by omega) w'
    obtain ⟨ob1, ob2⟩ := Ac.ov_bd b2 gb1 gb2 (show 1 ≤ D by omega) l4 l2
    obtain ⟨ob3, ob4⟩ := Ac.ov_bd b1 gb1 gb2 (show 1 ≤ D by omega) l3 l2
    generalize ovv dw G (4 * D) 2 = U0 at *
    generalize ovok dw G (4 * D) 2 = ok1 at *
    generalize ovv du G (4 * D) 2 = U1 at *
    generalize ovok du G (4 * D) 2 = ok2 at *
    have m1 := fun w' => apMid fu0 tu0 (by omega) (by omega) (by omega) (by omega) w'
    have m2 := fun w' => apMid fw0 tw0 (by omega) (by omega) (by omega) (by omega) w'
    have mb1 : -1048576 ≤ (fu0 + tu0) / 2 ∧ (fu0 + tu0) / 2 ≤ 1048576 := by omega
    have mb2 : -1048576 ≤ (fw0 + tw0) / 2 ∧ (fw0 + tw0) / 2 ≤ 1048576 := by omega
    generalize (fu0 + tu0) / 2 = Q0 at *
    generalize (fw0 + tw0) / 2 = Q1 at *
    have sb1 : -2097154 ≤ (-d) * U0 ∧ (-d) * U0 ≤ 2097154 := by rcases s1 with e | e <;> rw [e] <;> omega
    have sb2 : -2097154 ≤ (-d) * U1 ∧ (-d) * U1 ≤ 2097154 := by rcases s1 with e | e <;> rw [e] <;> omega
    have EW := Lib.hid (And.intro (IntWalk.i64_in ((-d) * U0) (by omega)) (And.intro (IntWalk.i64_in (Q0 - (-d) * U0) (by omega)) (And.intro (IntWalk.i64_in ((-d) * U1) (by omega)) (IntWalk.i64_in (Q1 + (-d) * U1) (by omega)))))
    have so := fun w' => vc_solid p (Q0 - (-d) * U0) (Q1 + (-d) * U1) fh0 p1 p2 w'
    have cb := Ac.solid_bd (p := p) (u := Q0 - (-d) * U0) (v := Q1 + (-d) * U1) (h := fh0) (L := 4194304) (by decide) (by omega) (by omega) (by omega)
    generalize sx p (Q0 - (-d) * U0) (Q1 + (-d) * U1) fh0 = C0 at *
    generalize sy p (Q0 - (-d) * U0) (Q1 + (-d) * U1) fh0 = C1 at *
    generalize sz p (Q0 - (-d) * U0) (Q1 + (-d) * U1) fh0 = C2 at *
    have co := fun w' => apCoord C0 C1 C2 (by omega) (by omega) (by omega) (by omega) (by omega) (by omega) w'
    generalize cdv C0 C1 C2 C0 = V0 at *
    generalize cdv C0 C1 C2 C1 = V1 at *
    generalize cdv C0 C1 C2 C2 = V2 at *
    generalize cde C0 C1 C2 = EE at *
    have SQ := Lib.hid sq
    have O1 := Lib.hid o1
    have O2 := Lib.hid o2
    have M1 := Lib.hid m1
    have M2 := Lib.hid m2
    have SO := Lib.hid so
    have CO := Lib.hid co
    obtain ⟨sv1, sv2⟩ : -1 ≤ (-d) ∧ (-d) ≤ 1 := by omega
    clear sq o1 o2 m1 m2 so co sb1 sb2 mb1 mb2 cb k1 s1
    obtain ⟨hx1, hx2⟩ := hx
    obtain ⟨r81, r82⟩ := r8
    have QQ : Hid (Qw w w) := Lib.hid (Qw.refl w)
    go_enter Try.func21, Try.ntmps21
    go_upto_region 1 with (go_big_may; (first | ((with_reducible refine box_vec (x := ?_) (y := ?_) (z := ?_) 1 ?_ ?_); rotate_left 3; (rfl); intro w1 B6 hb xx qq; have h6 := Lib.hid (Nat.le_trans QQ.out.size hb); replace QQ := Lib.hid (Qw.trans QQ.out qq); have X6 := Lib.hid xx; clear xx qq hb) | ((with_reducible refine box_vec (x := ?_) (y := ?_) (z := ?_) 2 ?_ ?_); rotate_left 3; (rfl); intro w2 B7 hb xx qq; have n7_6 := Lib.hid (Nat.ne_of_gt (Nat.lt_of_lt_of_le X6.out.lt hb)); have m7_6 := Lib.hid (Nat.ne_of_lt (Nat.lt_of_lt_of_le X6.out.lt hb)); have h7 := Lib.hid (Nat.le_trans QQ.out.size hb); replace X6 := Lib.hid (X6.out.kept qq); replace QQ := Lib.hid (Qw.trans QQ.out qq); have X7 := Lib.hid xx; clear xx qq hb) | ((with_reducible refine al_vec (dst := some 10) ?_); intro w3 B10 hb xx qq; have n10_6 := Lib.hid (Nat.ne_of_gt (Nat.lt_of_lt_of_le X6.out.lt hb)); have n10_7 := Lib.hid (Nat.ne_of_gt (Nat.lt_of_lt_of_le X7.out.lt hb)); have m10_6 := Lib.hid (Nat.ne_of_lt (Nat.lt_of_lt_of_le X6.out.lt hb)); have m10_7 := Lib.hid (Nat.ne_of_lt (Nat.lt_of_lt_of_le X7.out.lt hb)); have h10 := Lib.hid (Nat.le_trans QQ.out.size hb); replace X6 := Lib.hid (X6.out.kept qq); replace X7 := Lib.hid (X7.out.kept qq); replace QQ := Lib.hid (Qw.trans QQ.out qq); have X10 := Lib.hid xx; clear xx qq hb)))
    go_upto_region 3 with (go_big_may; (first | (go_at_call 54; ((with_reducible refine (PL.out _).mono ?_); rintro e w4 ⟨rfl, qq⟩; replace X6 := Lib.hid (X6.out.kept qq); replace X7 := Lib.hid (X7.out.kept qq); replace X10 := Lib.hid (X10.out.kept qq); replace QQ := Lib.hid (Qw.trans QQ.out qq); clear qq; have c6_0 := X6.out.v0; have c6_1 := X6.out.v1; have c6_2 := X6.out.v2)) | (go_at_call 44; ((with_reducible refine (W1.out _).mono ?_); rintro e w5 ⟨rfl, qq⟩; replace X6 := Lib.hid (X6.out.kept qq); replace X7 := Lib.hid (X7.out.kept qq); replace X10 := Lib.hid (X10.out.kept qq); replace QQ := Lib.hid (Qw.trans QQ.out qq); clear qq; have c7_0 := X7.out.v0; have c7_1 := X7.out.v1; have c7_2 := X7.out.v2)) | (go_at_call 44; ((with_reducible refine (W2.out _).mono ?_); rintro e w6 ⟨rfl, qq⟩; replace X6 := Lib.hid (X6.out.kept qq); replace X7 := Lib.hid (X7.out.kept qq); replace X10 := Lib.hid (X10.out.kept qq); replace QQ := Lib.hid (Qw.trans QQ.out qq); clear qq)) | (go_at_call 55; ((with_reducible refine (DI.out _).mono ?_); rintro e w7 ⟨rfl, qq⟩; replace X6 := Lib.hid (X6.out.kept qq); replace X7 := Lib.hid (X7.out.kept qq); replace X10 := Lib.hid (X10.out.kept qq); replace QQ := Lib.hid (Qw.trans QQ.out qq); clear qq)) | (go_at_call 56; ((with_reducible refine (RA.out _).mono ?_); rintro e w8 ⟨rfl, qq⟩; replace X6 := Lib.hid (X6.out.kept qq); replace X7 := Lib.hid (X7.out.kept qq); replace X10 := Lib.hid (X10.out.kept qq); replace QQ := Lib.hid (Qw.trans QQ.out qq); clear qq))))
    clear c6_0 c6_1 c6_2 c7_0 c7_1 c7_2
    go_upto_region 4 with fail
    go_upto_region 5 with fail
    go_upto_region 6 with fail
    generalize -d = dd at *
    generalize -r = rr at *
    go_upto_region 7 with (go_big_may; (first | ((with_reducible refine ld_vec 7 ?_ X7.out ?_); (rfl)) | ((with_reducible refine ld_vec 6 ?_ X6.out ?_); (rfl)) | (go_at_call 57; ((with_reducible refine (DF.out _).mono ?_); rintro e w9 ⟨rfl, qq⟩; replace X6 := Lib.hid (X6.out.kept qq); replace X7 := Lib.hid (X7.out.kept qq); replace X10 := Lib.hid (X10.out.kept qq); replace QQ := Lib.hid (Qw.trans QQ.out qq); clear qq)) | ((with_reducible refine al_pt (dst := some 13) ?_); intro w10 B13 hb xx qq; have n13_6 := Lib.hid (Nat.ne_of_gt (Nat.lt_of_lt_of_le X6.out.lt hb)); have n13_7 := Lib.hid (Nat.ne_of_gt (Nat.lt_of_lt_of_le X7.out.lt hb)); have n13_10 := Lib.hid (Nat.ne_of_gt (Nat.lt_of_lt_of_le X10.out.lt hb)); have m13_6 := Lib.hid (Nat.ne_of_lt (Nat.lt_of_lt_of_le X6.out.lt hb)); have m13_7 := Lib.hid (Nat.ne_of_lt (Nat.lt_of_lt_of_le X7.out.lt hb)); have m13_10 := Lib.hid (Nat.ne_of_lt (Nat.lt_of_lt_of_le X10.out.lt hb)); have h13 := Lib.hid (Nat.le_trans QQ.out.size hb); replace X6 := Lib.hid (X6.out.kept qq); replace X7 := Lib.hid (X7.out.kept qq); replace X10 := Lib.hid (X10.out.kept qq); replace QQ := Lib.hid (Qw.trans QQ.out qq); have X13 := Lib.hid xx; clear xx qq hb) | ((with_reducible refine st_pt (x := ?_) (y := ?_) 13 64 ?_ ?_ X13.out ?_); rotate_left 2; (rfl); (rfl); intro w11 xx qf ot; replace X6 := Lib.hid (ot _ _ _ m13_6.out X6.out); replace X7 := Lib.hid (ot _ _ _ m13_7.out X7.out); replace X10 := Lib.hid (ot _ _ _ m13_10.out X10.out); replace QQ := Lib.hid (qf _ QQ.out h13.out); replace X13 := Lib.hid xx; clear xx qf ot)))
    go_upto_region 8 with (go_big_may; (first | ((with_reducible refine ld_pt 13 ?_ X13.out ?_); (rfl)) | ((with_reducible refine ld_pt 13 ?_ X13.out ?_); (rfl)) | (go_at_call 58; ((with_reducible refine (IN.out _).mono ?_); rintro e w12 ⟨rfl, qq⟩; replace X6 := Lib.hid (X6.out.kept qq); replace X7 := Lib.hid (X7.out.kept qq); replace X10 := Lib.hid (X10.out.kept qq); replace X13 := Lib.hid (X13.out.kept qq); replace QQ := Lib.hid (Qw.trans QQ.out qq); clear qq))))
    go_upto_region 10 with fail
    go_upto_region 11 with (go_big_may; (go_at_call 59; ((with_reducible refine (SQ.out _).mono ?_); rintro e w13 ⟨rfl, qq⟩; replace X6 := Lib.hid (X6.out.kept qq); replace X7 := Lib.hid (X7.out.kept qq); replace X10 := Lib.hid (X10.out.kept qq); replace X13 := Lib.hid (X13.out.kept qq); replace QQ := Lib.hid (Qw.trans QQ.out qq); clear qq)))
    have c13_1 := X13.out.p1
    go_upto_region 12 with (go_big_may; (go_at_call 60; ((with_reducible refine (O1.out _).mono ?_); rintro e w14 ⟨rfl, qq⟩; replace X6 := Lib.hid (X6.out.kept qq); replace X7 := Lib.hid (X7.out.kept qq); replace X10 := Lib.hid (X10.out.kept qq); replace X13 := Lib.hid (X13.out.kept qq); replace QQ := Lib.hid (Qw.trans QQ.out qq); clear qq)))
    clear c13_1
    have c13_0 := X13.out.p0
    go_upto_region 13 with (go_big_may; (go_at_call 60; ((with_reducible refine (O2.out _).mono ?_); rintro e w15 ⟨rfl, qq⟩; replace X6 := Lib.hid (X6.out.kept qq); replace X7 := Lib.hid (X7.out.kept qq); replace X10 := Lib.hid (X10.out.kept qq); replace X13 := Lib.hid (X13.out.kept qq); replace QQ := Lib.hid (Qw.trans QQ.out qq); clear qq)))
    clear c13_0
    go_upto_region 14 with (go_big_may; (first | ((with_reducible refine ld_vec 6 ?_ X6.out ?_); (rfl)) | (go_at_call 43; ((with_reducible refine (F1.out _).mono ?_); rintro e w16 ⟨rfl, qq⟩; replace X6 := Lib.hid (X6.out.kept qq); replace X7 := Lib.hid (X7.out.kept qq); replace X10 := Lib.hid (X10.out.kept qq); replace X13 := Lib.hid (X13.out.kept qq); replace QQ := Lib.hid (Qw.trans QQ.out qq); clear qq)) | ((with_reducible refine al_pt (dst := some 22) ?_); intro w17 B22 hb xx qq; have n22_6 := Lib.hid (Nat.ne_of_gt (Nat.lt_of_lt_of_le X6.out.lt hb)); have n22_7 := Lib.hid (Nat.ne_of_gt (Nat.lt_of_lt_of_le X7.out.lt hb)); have n22_10 := Lib.hid (Nat.ne_of_gt (Nat.lt_of_lt_of_le X10.out.lt hb)); have n22_13 := Lib.hid (Nat.ne_of_gt (Nat.lt_of_lt_of_le X13.out.lt hb)); have m22_6 := Lib.hid (Nat.ne_of_lt (Nat.lt_of_lt_of_le X6.out.lt hb)); have m22_7 := Lib.hid (Nat.ne_of_lt (Nat.lt_of_lt_of_le X7.out.lt hb)); have m22_10 := Lib.hid (Nat.ne_of_lt (Nat.lt_of_lt_of_le X10.out.lt hb)); have m22_13 := Lib.hid (Nat.ne_of_lt (Nat.lt_of_lt_of_le X13.out.lt hb)); have h22 := Lib.hid (Nat.le_trans QQ.out.size hb); replace X6 := Lib.hid (X6.out.kept qq); replace X7 := Lib.hid (X7.out.kept qq); replace X10 := Lib.hid (X10.out.kept qq); replace X13 := Lib.hid (X13.out.kept qq); replace QQ := Lib.hid (Qw.trans QQ.out qq); have X22 := Lib.hid xx; clear xx qq hb) | ((with_reducible refine st_pt (x := ?_) (y := ?_) 22 114 ?_ ?_ X22.out ?_); rotate_left 2; (rfl); (rfl); intro w18 xx qf ot; replace X6 := Lib.hid (ot _ _ _ m22_6.out X6.out); replace X7 := Lib.hid (ot _ _ _ m22_7.out X7.out); replace X10 := Lib.hid (ot _ _ _ m22_10.out X10.out); replace X13 := Lib.hid (ot _ _ _ m22_13.out X13.out); replace QQ := Lib.hid (qf _ QQ.out h22.out); replace X22 := Lib.hid xx; clear xx qf ot)))
    go_upto_region 15 with (go_big_may; (first | ((with_reducible refine ld_vec 7 ?_ X7.out ?_); (rfl)) | (go_at_call 43; ((with_reducible refine (F2.out _).mono ?_); rintro e w19 ⟨rfl, qq⟩; replace X6 := Lib.hid (X6.out.kept qq); replace X7 := Lib.hid (X7.out.kept qq); replace X10 := Lib.hid (X10.out.kept qq); replace X13 := Lib.hid (X13.out.kept qq); replace X22 := Lib.hid (X22.out.kept qq); replace QQ := Lib.hid (Qw.trans QQ.out qq); clear qq)) | ((with_reducible refine al_pt (dst := some 25) ?_); intro w20 B25 hb xx qq; have n25_6 := Lib.hid (Nat.ne_of_gt (Nat.lt_of_lt_of_le X6.out.lt hb)); have n25_7 := Lib.hid (Nat.ne_of_gt (Nat.lt_of_lt_of_le X7.out.lt hb)); have n25_10 := Lib.hid (Nat.ne_of_gt (Nat.lt_of_lt_of_le X10.out.lt hb)); have n25_13 := Lib.hid (Nat.ne_of_gt (Nat.lt_of_lt_of_le X13.out.lt hb)); have n25_22 := Lib.hid (Nat.ne_of_gt (Nat.lt_of_lt_of_le X22.out.lt hb)); have m25_6 := Lib.hid (Nat.ne_of_lt (Nat.lt_of_lt_of_le X6.out.lt hb)); have m25_7 := Lib.hid (Nat.ne_of_lt (Nat.lt_of_lt_of_le X7.out.lt hb)); have m25_10 := Lib.hid (Nat.ne_of_lt (Nat.lt_of_lt_of_le X10.out.lt hb)); have m25_13 := Lib.hid (Nat.ne_of_lt (Nat.lt_of_lt_of_le X13.out.lt hb)); have m25_22 := Lib.hid (Nat.ne_of_lt (Nat.lt_of_lt_of_le X22.out.lt hb)); have h25 := Lib.hid (Nat.le_trans QQ.out.size hb); replace X6 := Lib.hid (X6.out.kept qq); replace X7 := Lib.hid (X7.out.kept qq); replace X10 := Lib.hid (X10.out.kept qq); replace X13 := Lib.hid (X13.out.kept qq); replace X22 := Lib.hid (X22.out.kept qq); replace QQ := Lib.hid (Qw.trans QQ.out qq); have X25 := Lib.hid xx; clear xx qq hb) | ((with_reducible refine st_pt (x := ?_) (y := ?_) 25 121 ?_ ?_ X25.out ?_); rotate_left 2; (rfl); (rfl); intro w21 xx qf ot; replace X6 := Lib.hid (ot _ _ _ m25_6.out X6.out); replace X7 := Lib.hid (ot _ _ _ m25_7.out X7.out); replace X10 := Lib.hid (ot _ _ _ m25_10.out X10.out); replace X13 := Lib.hid (ot _ _ _ m25_13.out X13.out); replace X22 := Lib.hid (ot _ _ _ m25_22.out X22.out); replace QQ := Lib.hid (qf _ QQ.out h25.out); replace X25 := Lib.hid xx; clear xx qf ot)))
    try simp only [List.getElem_toArray, List.getElem_cons_succ, List.getElem_cons_zero, Act.put, List.setIfInBounds_toArray, List.set_cons_zero, List.set_cons_succ]
    refine wp_region_M (fun wS => Qw w21 wS) 27 (by kernel_rfl) ?_
    have hSS : Qw w21 (World.drew w21) := qw_drew1 w21
    generalize World.drew w21 = wd at *
    refine wpAnyM_take (i := 0) (v := ?_) rfl (by kernel_rfl) (fun _ _ _ h => h) (Or.inl ⟨by rfl, ?_⟩) hSS ?_
    rotate_left 1
    · intro wS hwS
      go_simp
      try with_reducible rfl
    simp only [List.getElem_toArray, List.getElem_cons_succ, List.getElem_cons_zero, Act.put, List.setIfInBounds_toArray, List.set_cons_zero, List.set_cons_succ]
    refine wpAnyM_take (i := 1) (v := ?_) rfl (by kernel_rfl) (fun _ _ _ h => h) (Or.inl ⟨by rfl, ?_⟩) hSS ?_
    rotate_left 1
    · intro wS hwS
      go_simp
      try with_reducible rfl
    simp only [List.getElem_toArray, List.getElem_cons_succ, List.getElem_cons_zero, Act.put, List.setIfInBounds_toArray, List.set_cons_zero, List.set_cons_succ]
    refine wpAnyM_take (i := 2) (v := ?_) rfl (by kernel_rfl) (fun _ _ _ h => h) (Or.inl ⟨by rfl, ?_⟩) hSS ?_
    rotate_left 1
    · intro wS hwS
      have y0 := (X22.out.kept hwS).p0; go_simp
      try with_reducible rfl
    simp only [List.getElem_toArray, List.getElem_cons_succ, List.getElem_cons_zero, Act.put, List.setIfInBounds_toArray, List.set_cons_zero, List.set_cons_succ]
    refine wpAnyM_take (i := 3) (v := ?_) rfl (by kernel_rfl) (fun _ _ _ h => h) (Or.inl ⟨by rfl, ?_⟩) hSS ?_
    rotate_left 1
    · intro wS hwS
      go_simp
      try with_reducible rfl
    simp only [List.getElem_toArray, List.getElem_cons_succ, List.getElem_cons_zero, Act.put, List.setIfInBounds_toArray, List.set_cons_zero, List.set_cons_succ]
    refine wpAnyM_take (i := 4) (v := ?_) rfl (by kernel_rfl) (fun _ _ _ h => h) (Or.inl ⟨by rfl, ?_⟩) hSS ?_
    rotate_left 1
    · intro wS hwS
      have y0 := (X25.out.kept hwS).p0; go_simp
      try with_reducible rfl
    simp only [List.getElem_toArray, List.getElem_cons_succ, List.getElem_cons_zero, Act.put, List.setIfInBounds_toArray, List.set_cons_zero, List.set_cons_succ]
    refine wpAnyM_take (i := 6) (v := ?_) rfl (by kernel_rfl) (fun _ _ _ h => h) (Or.inl ⟨by rfl, ?_⟩) hSS ?_
    rotate_left 1
    · intro wS hwS
      go_simp
      try with_reducible rfl
    simp only [List.getElem_toArray, List.getElem_cons_succ, List.getElem_cons_zero, Act.put, List.setIfInBounds_toArray, List.set_cons_zero, List.set_cons_succ]
    refine wpAnyM_take (i := 7) (v := ?_) rfl (by kernel_rfl) (fun _ _ _ h => h) (Or.inl ⟨by rfl, ?_⟩) hSS ?_
    rotate_left 1
    · intro wS hwS
      go_simp
      try with_reducible rfl
    simp only [List.getElem_toArray, List.getElem_cons_succ, List.getElem_cons_zero, Act.put, List.setIfInBounds_toArray, List.set_cons_zero, List.set_cons_succ]
    refine wpAnyM_take (i := 8) (v := ?_) rfl (by kernel_rfl) (fun _ _ _ h => h) (Or.inl ⟨by rfl, ?_⟩) hSS ?_
    rotate_left 1
    · intro wS hwS
      have ew := EW.out.1; go_simp
      try with_reducible rfl
    simp only [List.getElem_toArray, List.getElem_cons_succ, List.getElem_cons_zero, Act.put, List.setIfInBounds_toArray, List.set_cons_zero, List.set_cons_succ]
    refine wpAnyM_take (i := 10) (v := ?_) rfl (by kernel_rfl) (fun _ _ _ h => h) (Or.inl ⟨by rfl, ?_⟩) hSS ?_
    rotate_left 1
    · intro wS hwS
      go_simp
      try with_reducible rfl
    simp only [List.getElem_toArray, List.getElem_cons_succ, List.getElem_cons_zero, Act.put, List.setIfInBounds_toArray, List.set_cons_zero, List.set_cons_succ]
    refine wpAnyM_take (i := 11) (v := ?_) rfl (by kernel_rfl) (fun _ _ _ h => h) (Or.inl ⟨by rfl, ?_⟩) hSS ?_
    rotate_left 1
    · intro wS hwS
      have y1 := (X22.out.kept hwS).p1; go_simp
      try with_reducible rfl
    simp only [List.getElem_toArray, List.getElem_cons_succ, List.getElem_cons_zero, Act.put, List.setIfInBounds_toArray, List.set_cons_zero, List.set_cons_succ]
    refine wpAnyM_take (i := 12) (v := ?_) rfl (by kernel_rfl) (fun _ _ _ h => h) (Or.inl ⟨by rfl, ?_⟩) hSS ?_
    rotate_left 1
    · intro wS hwS
      go_simp
      try with_reducible rfl
    simp only [List.getElem_toArray, List.getElem_cons_succ, List.getElem_cons_zero, Act.put, List.setIfInBounds_toArray, List.set_cons_zero, List.set_cons_succ]
    refine wpAnyM_take (i := 13) (v := ?_) rfl (by kernel_rfl) (fun _ _ _ h => h) (Or.inl ⟨by rfl, ?_⟩) hSS ?_
    rotate_left 1
    · intro wS hwS
      have y1 := (X25.out.kept hwS).p1; go_simp
      try with_reducible rfl
    simp only [List.getElem_toArray, List.getElem_cons_succ, List.getElem_cons_zero, Act.put, List.setIfInBounds_toArray, List.set_cons_zero, List.set_cons_succ]
    refine wpAnyM_take (i := 15) (v := ?_) rfl (by kernel_rfl) (fun _ _ _ h => h) (Or.inl ⟨by rfl, ?_⟩) hSS ?_
    rotate_left 1
    · intro wS hwS
      go_simp
      try with_reducible rfl
    simp only [List.getElem_toArray, List.getElem_cons_succ, List.getElem_cons_zero, Act.put, List.setIfInBounds_toArray, List.set_cons_zero, List.set_cons_succ]
    refine wpAnyM_take (i := 16) (v := ?_) rfl (by kernel_rfl) (fun _ _ _ h => h) (Or.inl ⟨by rfl, ?_⟩) hSS ?_
    rotate_left 1
    · intro wS hwS
      go_simp
      try with_reducible rfl
    simp only [List.getElem_toArray, List.getElem_cons_succ, List.getElem_cons_zero, Act.put, List.setIfInBounds_toArray, List.set_cons_zero, List.set_cons_succ]
    refine wpAnyM_take (i := 17) (v := ?_) rfl (by kernel_rfl) (fun _ _ _ h => h) (Or.inl ⟨by rfl, ?_⟩) hSS ?_
    rotate_left 1
    · intro wS hwS
      have ew := EW.out.2.2.1; go_simp
      try with_reducible rfl
    simp only [List.getElem_toArray, List.getElem_cons_succ, List.getElem_cons_zero, Act.put, List.setIfInBounds_toArray, List.set_cons_zero, List.set_cons_succ]
    refine wpAnyM_take (i := 20) (v := ?_) rfl (by kernel_rfl) (fun _ _ _ h => h) (Or.inl ⟨by rfl, ?_⟩) hSS ?_
    rotate_left 1
    · intro wS hwS
      go_simp
      try with_reducible rfl
    simp only [List.getElem_toArray, List.getElem_cons_succ, List.getElem_cons_zero, Act.put, List.setIfInBounds_toArray, List.set_cons_zero, List.set_cons_succ]
    refine wpAnyM_two (i := 5) (j := 25) rfl rfl (by kernel_rfl) rfl rfl (fun K hK => ?_) (fun K hK => ?_)
    · go_simp
      with_reducible refine (M1.out _).mono ?_
      rintro e wE ⟨rfl, qq⟩
      have m2 := Qw.trans hSS qq
      refine hK _ _ (fun _ => m2) ?_
      clear hK K hSS qq
      have hSS := m2
      clear m2
      try simp only [List.getElem_toArray, List.getElem_cons_succ, List.getElem_cons_zero, Act.put, List.setIfInBounds_toArray, List.set_cons_zero, List.set_cons_succ]
      refine wpAnyM_take (i := 9) (v := ?_) rfl (by kernel_rfl) (fun _ _ _ h => h) (Or.inl ⟨by rfl, ?_⟩) hSS ?_
      rotate_left 1
      · intro wS hwS
        have ew := EW.out.2.1; go_simp
        try with_reducible rfl
      simp only [List.getElem_toArray, List.getElem_cons_succ, List.getElem_cons_zero, Act.put, List.setIfInBounds_toArray, List.set_cons_zero, List.set_cons_succ]
      refine wpAnyM_two (i := 14) (j := 25) rfl rfl (by kernel_rfl) rfl rfl (fun K hK => ?_) (fun K hK => ?_)
      · go_simp
        with_reducible refine (M2.out _).mono ?_
        rintro e wE ⟨rfl, qq⟩
        have m2 := Qw.trans hSS qq
        refine hK _ _ (fun _ => m2) ?_
        clear hK K hSS qq
        have hSS := m2
        clear m2
        try simp only [List.getElem_toArray, List.getElem_cons_succ, List.getElem_cons_zero, Act.put, List.setIfInBounds_toArray, List.set_cons_zero, List.set_cons_succ]
        refine wpAnyM_take (i := 18) (v := ?_) rfl (by kernel_rfl) (fun _ _ _ h => h) (Or.inl ⟨by rfl, ?_⟩) hSS ?_
        rotate_left 1
        · intro wS hwS
          have ew := EW.out.2.2.2; go_simp
          try with_reducible rfl
        simp only [List.getElem_toArray, List.getElem_cons_succ, List.getElem_cons_zero, Act.put, List.setIfInBounds_toArray, List.set_cons_zero, List.set_cons_succ]
        refine wpAnyM_take (i := 19) (v := ?_) rfl (by kernel_rfl) (fun _ _ _ h => h) (Or.inl ⟨by rfl, ?_⟩) hSS ?_
        rotate_left 1
        · intro wS hwS
          go_simp
          try with_reducible rfl
        simp only [List.getElem_toArray, List.getElem_cons_succ, List.getElem_cons_zero, Act.put, List.setIfInBounds_toArray, List.set_cons_zero, List.set_cons_succ]
        refine wpAnyM_two (i := 21) (j := 25) rfl rfl (by kernel_rfl) rfl rfl (fun K hK => ?_) (fun K hK => ?_)
        · go_simp
          with_reducible refine (SO.out _).mono ?_
          rintro e wE ⟨rfl, qq⟩
          have m2 := Qw.trans hSS qq
          refine hK _ _ (fun _ => m2) ?_
          clear hK K hSS qq
          have hSS := m2
          clear m2
          try simp only [List.getElem_toArray, List.getElem_cons_succ, List.getElem_cons_zero, Act.put, List.setIfInBounds_toArray, List.set_cons_zero, List.set_cons_succ]
          refine wpAnyM_take (i := 22) (v := ?_) rfl (by kernel_rfl) (fun _ _ _ h => h) (Or.inl ⟨by rfl, ?_⟩) hSS ?_
          rotate_left 1
          · intro wS hwS
            go_simp
            try with_reducible rfl
          simp only [List.getElem_toArray, List.getElem_cons_succ, List.getElem_cons_zero, Act.put, List.setIfInBounds_toArray, List.set_cons_zero, List.set_cons_succ]
          refine wpAnyM_take (i := 23) (v := ?_) rfl (by kernel_rfl) (fun _ _ _ h => h) (Or.inl ⟨by rfl, ?_⟩) hSS ?_
          rotate_left 1
          · intro wS hwS
            go_simp
            try with_reducible rfl
          simp only [List.getElem_toArray, List.getElem_cons_succ, List.getElem_cons_zero, Act.put, List.setIfInBounds_toArray, List.set_cons_zero, List.set_cons_succ]
          refine wpAnyM_take (i := 24) (v := ?_) rfl (by kernel_rfl) (fun _ _ _ h => h) (Or.inl ⟨by rfl, ?_⟩) hSS ?_
          rotate_left 1
          · intro wS hwS
            go_simp
            try with_reducible rfl
          simp only [List.getElem_toArray, List.getElem_cons_succ, List.getElem_cons_zero, Act.put, List.setIfInBounds_toArray, List.set_cons_zero, List.set_cons_succ]
          refine wpAnyM_one (i := 25) rfl (by kernel_rfl) rfl (fun K hK => ?_)
          go_simp
          refine hK _ _ (fun _ => Qw.al hSS _) ?_
          obtain ⟨wn, B28, en, eN, hb, m2, xx, mm⟩ := al_namedA hSS #[.int .i64 0, .int .i64 0, .int .i64 0] 23
          have g28 := Lib.hid hb
          have X28 := Lib.hid xx
          rw [en, eN]
          clear hK K hSS en eN mm xx hb
          have hSS := m2
          clear m2
          try simp only [List.getElem_toArray, List.getElem_cons_succ, List.getElem_cons_zero, Act.put, List.setIfInBounds_toArray, List.set_cons_zero, List.set_cons_succ]
          refine wpAnyM_one (i := 26) rfl (by kernel_rfl) rfl (fun K hK => ?_)
          have z0 := X28.out.v0
          have y0 := X28.out.free 0
          have z1 := X28.out.v1
          have y1 := X28.out.free 1
          have z2 := X28.out.v2
          have y2 := X28.out.free 2
          go_simp
          have hZ := X28.out.st3 (.int .i64 C0) (.int .i64 C1) (.int .i64 C2)
          have m2 := Qw.stA3 hSS g28.out (.int .i64 C0) (.int .i64 C1) (.int .i64 C2)
          replace X28 := Lib.hid hZ
          refine hK _ _ (fun _ => m2) ?_
          clear hK K hSS hZ z0 y0 z1 y1 z2 y2
          have hSS := m2
          clear m2
          try simp only [List.getElem_toArray, List.getElem_cons_succ, List.getElem_cons_zero, Act.put, List.setIfInBounds_toArray, List.set_cons_zero, List.set_cons_succ]
          refine wpAnyM_one (i := 27) rfl (by kernel_rfl) rfl (fun K hK => ?_)
          go_simp
          refine hK _ _ (fun h => absurd h (by decide)) ?_
          clear hK K
          try simp only [List.getElem_toArray, List.getElem_cons_succ, List.getElem_cons_zero, Act.put, List.setIfInBounds_toArray, List.set_cons_zero, List.set_cons_succ]
          refine wpAnyM_done (by kernel_rfl) ?_ _
          have n28_6 := Lib.hid (Nat.ne_of_gt (Nat.lt_of_lt_of_le X6.out.lt g28.out))
          have m28_6 := Lib.hid (Nat.ne_of_lt (Nat.lt_of_lt_of_le X6.out.lt g28.out))
          have n28_7 := Lib.hid (Nat.ne_of_gt (Nat.lt_of_lt_of_le X7.out.lt g28.out))
          have m28_7 := Lib.hid (Nat.ne_of_lt (Nat.lt_of_lt_of_le X7.out.lt g28.out))
          have n28_10 := Lib.hid (Nat.ne_of_gt (Nat.lt_of_lt_of_le X10.out.lt g28.out))
          have m28_10 := Lib.hid (Nat.ne_of_lt (Nat.lt_of_lt_of_le X10.out.lt g28.out))
          have n28_13 := Lib.hid (Nat.ne_of_gt (Nat.lt_of_lt_of_le X13.out.lt g28.out))
          have m28_13 := Lib.hid (Nat.ne_of_lt (Nat.lt_of_lt_of_le X13.out.lt g28.out))
          have n28_22 := Lib.hid (Nat.ne_of_gt (Nat.lt_of_lt_of_le X22.out.lt g28.out))
          have m28_22 := Lib.hid (Nat.ne_of_lt (Nat.lt_of_lt_of_le X22.out.lt g28.out))
          have n28_25 := Lib.hid (Nat.ne_of_gt (Nat.lt_of_lt_of_le X25.out.lt g28.out))
          have m28_25 := Lib.hid (Nat.ne_of_lt (Nat.lt_of_lt_of_le X25.out.lt g28.out))
          replace X6 := Lib.hid (X6.out.kept hSS)
          replace X7 := Lib.hid (X7.out.kept hSS)
          replace X10 := Lib.hid (X10.out.kept hSS)
          replace X13 := Lib.hid (X13.out.kept hSS)
          replace X22 := Lib.hid (X22.out.kept hSS)
          replace X25 := Lib.hid (X25.out.kept hSS)
          have h28 := Lib.hid (Nat.le_trans QQ.out.size g28.out)
          replace QQ := Lib.hid (Qw.trans QQ.out hSS)
          clear hSS
          go_wp2_with (first | ((with_reducible refine ld_vec 28 ?_ X28.out ?_); (rfl)) | (go_at_call 45; ((with_reducible refine (CO.out _).mono ?_); rintro e w22 ⟨rfl, qq⟩; replace X6 := Lib.hid (X6.out.kept qq); replace X7 := Lib.hid (X7.out.kept qq); replace X10 := Lib.hid (X10.out.kept qq); replace X13 := Lib.hid (X13.out.kept qq); replace X22 := Lib.hid (X22.out.kept qq); replace X25 := Lib.hid (X25.out.kept qq); replace X28 := Lib.hid (X28.out.kept qq); replace QQ := Lib.hid (Qw.trans QQ.out qq); clear qq)) | ((with_reducible refine st_vec (x := ?_) (y := ?_) (z := ?_) 10 151 ?_ ?_ X10.out ?_); rotate_left 3; (rfl); (rfl); intro w23 xx qf ot; replace X6 := Lib.hid (ot _ _ _ m10_6.out X6.out); replace X7 := Lib.hid (ot _ _ _ m10_7.out X7.out); replace X13 := Lib.hid (ot _ _ _ n13_10.out X13.out); replace X22 := Lib.hid (ot _ _ _ n22_10.out X22.out); replace X25 := Lib.hid (ot _ _ _ n25_10.out X25.out); replace X28 := Lib.hid (ot _ _ _ n28_10.out X28.out); replace QQ := Lib.hid (qf _ QQ.out h10.out); replace X10 := Lib.hid xx; clear xx qf ot))
          have c10_0 := X10.out.v0
          have c10_1 := X10.out.v1
          have c10_2 := X10.out.v2
          exact bodyPost_ret (v := .tuple #[.agg #[.int .i64 V0, .int .i64 V1, .int .i64 V2], .int .i64 EE]) (by simp [results, Try.results21, go_sem, c10_0, c10_1, c10_2]) rfl ⟨rfl, QQ.out⟩
        · go_simp
          refine hK _ _ (fun _ => Qw.al hSS _) ?_
          obtain ⟨wn, B28, en, eN, hb, m2, xx, mm⟩ := al_namedA hSS #[.int .i64 0, .int .i64 0, .int .i64 0] 23
          have g28 := Lib.hid hb
          have X28 := Lib.hid xx
          rw [en, eN]
          clear hK K hSS en eN mm xx hb
          have hSS := m2
          clear m2
          try simp only [List.getElem_toArray, List.getElem_cons_succ, List.getElem_cons_zero, Act.put, List.setIfInBounds_toArray, List.set_cons_zero, List.set_cons_succ]
          refine wpAnyM_one (i := 21) rfl (by kernel_rfl) rfl (fun K hK => ?_)
          go_simp
          with_reducible refine (SO.out _).mono ?_
          rintro e wE ⟨rfl, qq⟩
          replace X28 := Lib.hid (X28.out.kept qq)
          have m2 := Qw.trans hSS qq
          refine hK _ _ (fun _ => m2) ?_
          clear hK K hSS qq
          have hSS := m2
          clear m2
          try simp only [List.getElem_toArray, List.getElem_cons_succ, List.getElem_cons_zero, Act.put, List.setIfInBounds_toArray, List.set_cons_zero, List.set_cons_succ]
          refine wpAnyM_take (i := 22) (v := ?_) rfl (by kernel_rfl) (fun _ _ _ h => h) (Or.inl ⟨by rfl, ?_⟩) hSS ?_
          rotate_left 1
          · intro wS hwS
            go_simp
            try with_reducible rfl
          simp only [List.getElem_toArray, List.getElem_cons_succ, List.getElem_cons_zero, Act.put, List.setIfInBounds_toArray, List.set_cons_zero, List.set_cons_succ]
          refine wpAnyM_take (i := 23) (v := ?_) rfl (by kernel_rfl) (fun _ _ _ h => h) (Or.inl ⟨by rfl, ?_⟩) hSS ?_
          rotate_left 1
          · intro wS hwS
            go_simp
            try with_reducible rfl
          simp only [List.getElem_toArray, List.getElem_cons_succ, List.getElem_cons_zero, Act.put, List.setIfInBounds_toArray, List.set_cons_zero, List.set_cons_succ]
          refine wpAnyM_take (i := 24) (v := ?_) rfl (by kernel_rfl) (fun _ _ _ h => h) (Or.inl ⟨by rfl, ?_⟩) hSS ?_
          rotate_left 1
          · intro wS hwS
            go_simp
            try with_reducible rfl
          simp only [List.getElem_toArray, List.getElem_cons_succ, List.getElem_cons_zero, Act.put, List.setIfInBounds_toArray, List.set_cons_zero, List.set_cons_succ]
          refine wpAnyM_one (i := 26) rfl (by kernel_rfl) rfl (fun K hK => ?_)
          have z0 := X28.out.v0
          have y0 := X28.out.free 0
          have z1 := X28.out.v1
          have y1 := X28.out.free 1
          have z2 := X28.out.v2
          have y2 := X28.out.free 2
          go_simp
          have hZ := X28.out.st3 (.int .i64 C0) (.int .i64 C1) (.int .i64 C2)
          have m2 := Qw.stA3 hSS g28.out (.int .i64 C0) (.int .i64 C1) (.int .i64 C2)
          replace X28 := Lib.hid hZ
          refine hK _ _ (fun _ => m2) ?_
          clear hK K hSS hZ z0 y0 z1 y1 z2 y2
          have hSS := m2
          clear m2
          try simp only [List.getElem_toArray, List.getElem_cons_succ, List.getElem_cons_zero, Act.put, List.setIfInBounds_toArray, List.set_cons_zero, List.set_cons_succ]
          refine wpAnyM_one (i := 27) rfl (by kernel_rfl) rfl (fun K hK => ?_)
          go_simp
          refine hK _ _ (fun h => absurd h (by decide)) ?_
          clear hK K
          try simp only [List.getElem_toArray, List.getElem_cons_succ, List.getElem_cons_zero, Act.put, List.setIfInBounds_toArray, List.set_cons_zero, List.set_cons_succ]
          refine wpAnyM_done (by kernel_rfl) ?_ _
          have n28_6 := Lib.hid (Nat.ne_of_gt (Nat.lt_of_lt_of_le X6.out.lt g28.out))
          have m28_6 := Lib.hid (Nat.ne_of_lt (Nat.lt_of_lt_of_le X6.out.lt g28.out))
          have n28_7 := Lib.hid (Nat.ne_of_gt (Nat.lt_of_lt_of_le X7.out.lt g28.out))
          have m28_7 := Lib.hid (Nat.ne_of_lt (Nat.lt_of_lt_of_le X7.out.lt g28.out))
          have n28_10 := Lib.hid (Nat.ne_of_gt (Nat.lt_of_lt_of_le X10.out.lt g28.out))
          have m28_10 := Lib.hid (Nat.ne_of_lt (Nat.lt_of_lt_of_le X10.out.lt g28.out))
          have n28_13 := Lib.hid (Nat.ne_of_gt (Nat.lt_of_lt_of_le X13.out.lt g28.out))
          have m28_13 := Lib.hid (Nat.ne_of_lt (Nat.lt_of_lt_of_le X13.out.lt g28.out))
          have n28_22 := Lib.hid (Nat.ne_of_gt (Nat.lt_of_lt_of_le X22.out.lt g28.out))
          have m28_22 := Lib.hid (Nat.ne_of_lt (Nat.lt_of_lt_of_le X22.out.lt g28.out))
          have n28_25 := Lib.hid (Nat.ne_of_gt (Nat.lt_of_lt_of_le X25.out.lt g28.out))
          have m28_25 := Lib.hid (Nat.ne_of_lt (Nat.lt_of_lt_of_le X25.out.lt g28.out))
          replace X6 := Lib.hid (X6.out.kept hSS)
          replace X7 := Lib.hid (X7.out.kept hSS)
          replace X10 := Lib.hid (X10.out.kept hSS)
          replace X13 := Lib.hid (X13.out.kept hSS)
          replace X22 := Lib.hid (X22.out.kept hSS)
          replace X25 := Lib.hid (X25.out.kept hSS)
          have h28 := Lib.hid (Nat.le_trans QQ.out.size g28.out)
          replace QQ := Lib.hid (Qw.trans QQ.out hSS)
          clear hSS
          go_wp2_with (first | ((with_reducible refine ld_vec 28 ?_ X28.out ?_); (rfl)) | (go_at_call 45; ((with_reducible refine (CO.out _).mono ?_); rintro e w22 ⟨rfl, qq⟩; replace X6 := Lib.hid (X6.out.kept qq); replace X7 := Lib.hid (X7.out.kept qq); replace X10 := Lib.hid (X10.out.kept qq); replace X13 := Lib.hid (X13.out.kept qq); replace X22 := Lib.hid (X22.out.kept qq); replace X25 := Lib.hid (X25.out.kept qq); replace X28 := Lib.hid (X28.out.kept qq); replace QQ := Lib.hid (Qw.trans QQ.out qq); clear qq)) | ((with_reducible refine st_vec (x := ?_) (y := ?_) (z := ?_) 10 151 ?_ ?_ X10.out ?_); rotate_left 3; (rfl); (rfl); intro w23 xx qf ot; replace X6 := Lib.hid (ot _ _ _ m10_6.out X6.out); replace X7 := Lib.hid (ot _ _ _ m10_7.out X7.out); replace X13 := Lib.hid (ot _ _ _ n13_10.out X13.out); replace X22 := Lib.hid (ot _ _ _ n22_10.out X22.out); replace X25 := Lib.hid (ot _ _ _ n25_10.out X25.out); replace X28 := Lib.hid (ot _ _ _ n28_10.out X28.out); replace QQ := Lib.hid (qf _ QQ.out h10.out); replace X10 := Lib.hid xx; clear xx qf ot))
          have c10_0 := X10.out.v0
          have c10_1 := X10.out.v1
          have c10_2 := X10.out.v2
          exact bodyPost_ret (v := .tuple #[.agg #[.int .i64 V0, .int .i64 V1, .int .i64 V2], .int .i64 EE]) (by simp [results, Try.results21, go_sem, c10_0, c10_1, c10_2]) rfl ⟨rfl, QQ.out⟩
      · go_simp
        refine hK _ _ (fun _ => Qw.al hSS _) ?_
        obtain ⟨wn, B28, en, eN, hb, m2, xx, mm⟩ := al_namedA hSS #[.int .i64 0, .int .i64 0, .int .i64 0] 23
        have g28 := Lib.hid hb
        have X28 := Lib.hid xx
        rw [en, eN]
        clear hK K hSS en eN mm xx hb
        have hSS := m2
        clear m2
        try simp only [List.getElem_toArray, List.getElem_cons_succ, List.getElem_cons_zero, Act.put, List.setIfInBounds_toArray, List.set_cons_zero, List.set_cons_succ]
        refine wpAnyM_one (i := 14) rfl (by kernel_rfl) rfl (fun K hK => ?_)
        go_simp
        with_reducible refine (M2.out _).mono ?_
        rintro e wE ⟨rfl, qq⟩
        replace X28 := Lib.hid (X28.out.kept qq)
        have m2 := Qw.trans hSS qq
        refine hK _ _ (fun _ => m2) ?_
        clear hK K hSS qq
        have hSS := m2
        clear m2
        try simp only [List.getElem_toArray, List.getElem_cons_succ, List.getElem_cons_zero, Act.put, List.setIfInBounds_toArray, List.set_cons_zero, List.set_cons_succ]
        refine wpAnyM_take (i := 18) (v := ?_) rfl (by kernel_rfl) (fun _ _ _ h => h) (Or.inl ⟨by rfl, ?_⟩) hSS ?_
        rotate_left 1
        · intro wS hwS
          have ew := EW.out.2.2.2; go_simp
          try with_reducible rfl
        simp only [List.getElem_toArray, List.getElem_cons_succ, List.getElem_cons_zero, Act.put, List.setIfInBounds_toArray, List.set_cons_zero, List.set_cons_succ]
        refine wpAnyM_take (i := 19) (v := ?_) rfl (by kernel_rfl) (fun _ _ _ h => h) (Or.inl ⟨by rfl, ?_⟩) hSS ?_
        rotate_left 1
        · intro wS hwS
          go_simp
          try with_reducible rfl
        simp only [List.getElem_toArray, List.getElem_cons_succ, List.getElem_cons_zero, Act.put, List.setIfInBounds_toArray, List.set_cons_zero, List.set_cons_succ]
        refine wpAnyM_one (i := 21) rfl (by kernel_rfl) rfl (fun K hK => ?_)
        go_simp
        with_reducible refine (SO.out _).mono ?_
        rintro e wE ⟨rfl, qq⟩
        replace X28 := Lib.hid (X28.out.kept qq)
        have m2 := Qw.trans hSS qq
        refine hK _ _ (fun _ => m2) ?_
        clear hK K hSS qq
        have hSS := m2
        clear m2
        try simp only [List.getElem_toArray, List.getElem_cons_succ, List.getElem_cons_zero, Act.put, List.setIfInBounds_toArray, List.set_cons_zero, List.set_cons_succ]
        refine wpAnyM_take (i := 22) (v := ?_) rfl (by kernel_rfl) (fun _ _ _ h => h) (Or.inl ⟨by rfl, ?_⟩) hSS ?_
        rotate_left 1
        · intro wS hwS
          go_simp
          try with_reducible rfl
        simp only [List.getElem_toArray, List.getElem_cons_succ, List.getElem_cons_zero, Act.put, List.setIfInBounds_toArray, List.set_cons_zero, List.set_cons_succ]
        refine wpAnyM_take (i := 23) (v := ?_) rfl (by kernel_rfl) (fun _ _ _ h => h) (Or.inl ⟨by rfl, ?_⟩) hSS ?_
        rotate_left 1
        · intro wS hwS
          go_simp
          try with_reducible rfl
        simp only [List.getElem_toArray, List.getElem_cons_succ, List.getElem_cons_zero, Act.put, List.setIfInBounds_toArray, List.set_cons_zero, List.set_cons_succ]
        refine wpAnyM_take (i := 24) (v := ?_) rfl (by kernel_rfl) (fun _ _ _ h => h) (Or.inl ⟨by rfl, ?_⟩) hSS ?_
        rotate_left 1
        · intro wS hwS
          go_simp
          try with_reducible rfl
        simp only [List.getElem_toArray, List.getElem_cons_succ, List.getElem_cons_zero, Act.put, List.setIfInBounds_toArray, List.set_cons_zero, List.set_cons_succ]
        refine wpAnyM_one (i := 26) rfl (by kernel_rfl) rfl (fun K hK => ?_)
        have z0 := X28.out.v0
        have y0 := X28.out.free 0
        have z1 := X28.out.v1
        have y1 := X28.out.free 1
        have z2 := X28.out.v2
        have y2 := X28.out.free 2
        go_simp
        have hZ := X28.out.st3 (.int .i64 C0) (.int .i64 C1) (.int .i64 C2)
        have m2 := Qw.stA3 hSS g28.out (.int .i64 C0) (.int .i64 C1) (.int .i64 C2)
        replace X28 := Lib.hid hZ
        refine hK _ _ (fun _ => m2) ?_
        clear hK K hSS hZ z0 y0 z1 y1 z2 y2
        have hSS := m2
        clear m2
        try simp only [List.getElem_toArray, List.getElem_cons_succ, List.getElem_cons_zero, Act.put, List.setIfInBounds_toArray, List.set_cons_zero, List.set_cons_succ]
        refine wpAnyM_one (i := 27) rfl (by kernel_rfl) rfl (fun K hK => ?_)
        go_simp
        refine hK _ _ (fun h => absurd h (by decide)) ?_
        clear hK K
        try simp only [List.getElem_toArray, List.getElem_cons_succ, List.getElem_cons_zero, Act.put, List.setIfInBounds_toArray, List.set_cons_zero, List.set_cons_succ]
        refine wpAnyM_done (by kernel_rfl) ?_ _
        have n28_6 := Lib.hid (Nat.ne_of_gt (Nat.lt_of_lt_of_le X6.out.lt g28.out))
        have m28_6 := Lib.hid (Nat.ne_of_lt (Nat.lt_of_lt_of_le X6.out.lt g28.out))
        have n28_7 := Lib.hid (Nat.ne_of_gt (Nat.lt_of_lt_of_le X7.out.lt g28.out))
        have m28_7 := Lib.hid (Nat.ne_of_lt (Nat.lt_of_lt_of_le X7.out.lt g28.out))
        have n28_10 := Lib.hid (Nat.ne_of_gt (Nat.lt_of_lt_of_le X10.out.lt g28.out))
        have m28_10 := Lib.hid (Nat.ne_of_lt (Nat.lt_of_lt_of_le X10.out.lt g28.out))
        have n28_13 := Lib.hid (Nat.ne_of_gt (Nat.lt_of_lt_of_le X13.out.lt g28.out))
        have m28_13 := Lib.hid (Nat.ne_of_lt (Nat.lt_of_lt_of_le X13.out.lt g28.out))
        have n28_22 := Lib.hid (Nat.ne_of_gt (Nat.lt_of_lt_of_le X22.out.lt g28.out))
        have m28_22 := Lib.hid (Nat.ne_of_lt (Nat.lt_of_lt_of_le X22.out.lt g28.out))
        have n28_25 := Lib.hid (Nat.ne_of_gt (Nat.lt_of_lt_of_le X25.out.lt g28.out))
        have m28_25 := Lib.hid (Nat.ne_of_lt (Nat.lt_of_lt_of_le X25.out.lt g28.out))
        replace X6 := Lib.hid (X6.out.kept hSS)
        replace X7 := Lib.hid (X7.out.kept hSS)
        replace X10 := Lib.hid (X10.out.kept hSS)
        replace X13 := Lib.hid (X13.out.kept hSS)
        replace X22 := Lib.hid (X22.out.kept hSS)
        replace X25 := Lib.hid (X25.out.kept hSS)
        have h28 := Lib.hid (Nat.le_trans QQ.out.size g28.out)
        replace QQ := Lib.hid (Qw.trans QQ.out hSS)
        clear hSS
        go_wp2_with (first | ((with_reducible refine ld_vec 28 ?_ X28.out ?_); (rfl)) | (go_at_call 45; ((with_reducible refine (CO.out _).mono ?_); rintro e w22 ⟨rfl, qq⟩; replace X6 := Lib.hid (X6.out.kept qq); replace X7 := Lib.hid (X7.out.kept qq); replace X10 := Lib.hid (X10.out.kept qq); replace X13 := Lib.hid (X13.out.kept qq); replace X22 := Lib.hid (X22.out.kept qq); replace X25 := Lib.hid (X25.out.kept qq); replace X28 := Lib.hid (X28.out.kept qq); replace QQ := Lib.hid (Qw.trans QQ.out qq); clear qq)) | ((with_reducible refine st_vec (x := ?_) (y := ?_) (z := ?_) 10 151 ?_ ?_ X10.out ?_); rotate_left 3; (rfl); (rfl); intro w23 xx qf ot; replace X6 := Lib.hid (ot _ _ _ m10_6.out X6.out); replace X7 := Lib.hid (ot _ _ _ m10_7.out X7.out); replace X13 := Lib.hid (ot _ _ _ n13_10.out X13.out); replace X22 := Lib.hid (ot _ _ _ n22_10.out X22.out); replace X25 := Lib.hid (ot _ _ _ n25_10.out X25.out); replace X28 := Lib.hid (ot _ _ _ n28_10.out X28.out); replace QQ := Lib.hid (qf _ QQ.out h10.out); replace X10 := Lib.hid xx; clear xx qf ot))
        have c10_0 := X10.out.v0
        have c10_1 := X10.out.v1
        have c10_2 := X10.out.v2
        exact bodyPost_ret (v := .tuple #[.agg #[.int .i64 V0, .int .i64 V1, .int .i64 V2], .int .i64 EE]) (by simp [results, Try.results21, go_sem, c10_0, c10_1, c10_2]) rfl ⟨rfl, QQ.out⟩
    · go_simp
      refine hK _ _ (fun _ => Qw.al hSS _) ?_
      obtain ⟨wn, B28, en, eN, hb, m2, xx, mm⟩ := al_namedA hSS #[.int .i64 0, .int .i64 0, .int .i64 0] 23
      have g28 := Lib.hid hb
      have X28 := Lib.hid xx
      rw [en, eN]
      clear hK K hSS en eN mm xx hb
      have hSS := m2
      clear m2
      try simp only [List.getElem_toArray, List.getElem_cons_succ, List.getElem_cons_zero, Act.put, List.setIfInBounds_toArray, List.set_cons_zero, List.set_cons_succ]
      refine wpAnyM_one (i := 5) rfl (by kernel_rfl) rfl (fun K hK => ?_)
      go_simp
      with_reducible refine (M1.out _).mono ?_
      rintro e wE ⟨rfl, qq⟩
      replace X28 := Lib.hid (X28.out.kept qq)
      have m2 := Qw.trans hSS qq
      refine hK _ _ (fun _ => m2) ?_
      clear hK K hSS qq
      have hSS := m2
      clear m2
      try simp only [List.getElem_toArray, List.getElem_cons_succ, List.getElem_cons_zero, Act.put, List.setIfInBounds_toArray, List.set_cons_zero, List.set_cons_succ]
      refine wpAnyM_take (i := 9) (v := ?_) rfl (by kernel_rfl) (fun _ _ _ h => h) (Or.inl ⟨by rfl, ?_⟩) hSS ?_
      rotate_left 1
      · intro wS hwS
        have ew := EW.out.2.1; go_simp
        try with_reducible rfl
      simp only [List.getElem_toArray, List.getElem_cons_succ, List.getElem_cons_zero, Act.put, List.setIfInBounds_toArray, List.set_cons_zero, List.set_cons_succ]
      refine wpAnyM_one (i := 14) rfl (by kernel_rfl) rfl (fun K hK => ?_)
      go_simp
      with_reducible refine (M2.out _).mono ?_
      rintro e wE ⟨rfl, qq⟩
      replace X28 := Lib.hid (X28.out.kept qq)
      have m2 := Qw.trans hSS qq
      refine hK _ _ (fun _ => m2) ?_
      clear hK K hSS qq
      have hSS := m2
      clear m2
      try simp only [List.getElem_toArray, List.getElem_cons_succ, List.getElem_cons_zero, Act.put, List.setIfInBounds_toArray, List.set_cons_zero, List.set_cons_succ]
      refine wpAnyM_take (i := 18) (v := ?_) rfl (by kernel_rfl) (fun _ _ _ h => h) (Or.inl ⟨by rfl, ?_⟩) hSS ?_
      rotate_left 1
      · intro wS hwS
        have ew := EW.out.2.2.2; go_simp
        try with_reducible rfl
      simp only [List.getElem_toArray, List.getElem_cons_succ, List.getElem_cons_zero, Act.put, List.setIfInBounds_toArray, List.set_cons_zero, List.set_cons_succ]
      refine wpAnyM_take (i := 19) (v := ?_) rfl (by kernel_rfl) (fun _ _ _ h => h) (Or.inl ⟨by rfl, ?_⟩) hSS ?_
      rotate_left 1
      · intro wS hwS
        go_simp
        try with_reducible rfl
      simp only [List.getElem_toArray, List.getElem_cons_succ, List.getElem_cons_zero, Act.put, List.setIfInBounds_toArray, List.set_cons_zero, List.set_cons_succ]
      refine wpAnyM_one (i := 21) rfl (by kernel_rfl) rfl (fun K hK => ?_)
      go_simp
      with_reducible refine (SO.out _).mono ?_
      rintro e wE ⟨rfl, qq⟩
      replace X28 := Lib.hid (X28.out.kept qq)
      have m2 := Qw.trans hSS qq
      refine hK _ _ (fun _ => m2) ?_
      clear hK K hSS qq
      have hSS := m2
      clear m2
      try simp only [List.getElem_toArray, List.getElem_cons_succ, List.getElem_cons_zero, Act.put, List.setIfInBounds_toArray, List.set_cons_zero, List.set_cons_succ]
      refine wpAnyM_take (i := 22) (v := ?_) rfl (by kernel_rfl) (fun _ _ _ h => h) (Or.inl ⟨by rfl, ?_⟩) hSS ?_
      rotate_left 1
      · intro wS hwS
        go_simp
        try with_reducible rfl
      simp only [List.getElem_toArray, List.getElem_cons_succ, List.getElem_cons_zero, Act.put, List.setIfInBounds_toArray, List.set_cons_zero, List.set_cons_succ]
      refine wpAnyM_take (i := 23) (v := ?_) rfl (by kernel_rfl) (fun _ _ _ h => h) (Or.inl ⟨by rfl, ?_⟩) hSS ?_
      rotate_left 1
      · intro wS hwS
        go_simp
        try with_reducible rfl
      simp only [List.getElem_toArray, List.getElem_cons_succ, List.getElem_cons_zero, Act.put, List.setIfInBounds_toArray, List.set_cons_zero, List.set_cons_succ]
      refine wpAnyM_take (i := 24) (v := ?_) rfl (by kernel_rfl) (fun _ _ _ h => h) (Or.inl ⟨by rfl, ?_⟩) hSS ?_
      rotate_left 1
      · intro wS hwS
        go_simp
        try with_reducible rfl
      simp only [List.getElem_toArray, List.getElem_cons_succ, List.getElem_cons_zero, Act.put, List.setIfInBounds_toArray, List.set_cons_zero, List.set_cons_succ]
      refine wpAnyM_one (i := 26) rfl (by kernel_rfl) rfl (fun K hK => ?_)
      have z0 := X28.out.v0
      have y0 := X28.out.free 0
      have z1 := X28.out.v1
      have y1 := X28.out.free 1
      have z2 := X28.out.v2
      have y2 := X28.out.free 2
      go_simp
      have hZ := X28.out.st3 (.int .i64 C0) (.int .i64 C1) (.int .i64 C2)
      have m2 := Qw.stA3 hSS g28.out (.int .i64 C0) (.int .i64 C1) (.int .i64 C2)
      replace X28 := Lib.hid hZ
      refine hK _ _ (fun _ => m2) ?_
      clear hK K hSS hZ z0 y0 z1 y1 z2 y2
      have hSS := m2
      clear m2
      try simp only [List.getElem_toArray, List.getElem_cons_succ, List.getElem_cons_zero, Act.put, List.setIfInBounds_toArray, List.set_cons_zero, List.set_cons_succ]
      refine wpAnyM_one (i := 27) rfl (by kernel_rfl) rfl (fun K hK => ?_)
      go_simp
      refine hK _ _ (fun h => absurd h (by decide)) ?_
      clear hK K
      try simp only [List.getElem_toArray, List.getElem_cons_succ, List.getElem_cons_zero, Act.put, List.setIfInBounds_toArray, List.set_cons_zero, List.set_cons_succ]
      refine wpAnyM_done (by kernel_rfl) ?_ _
      have n28_6 := Lib.hid (Nat.ne_of_gt (Nat.lt_of_lt_of_le X6.out.lt g28.out))
      have m28_6 := Lib.hid (Nat.ne_of_lt (Nat.lt_of_lt_of_le X6.out.lt g28.out))
      have n28_7 := Lib.hid (Nat.ne_of_gt (Nat.lt_of_lt_of_le X7.out.lt g28.out))
      have m28_7 := Lib.hid (Nat.ne_of_lt (Nat.lt_of_lt_of_le X7.out.lt g28.out))
      have n28_10 := Lib.hid (Nat.ne_of_gt (Nat.lt_of_lt_of_le X10.out.lt g28.out))
      have m28_10 := Lib.hid (Nat.ne_of_lt (Nat.lt_of_lt_of_le X10.out.lt g28.out))
      have n28_13 := Lib.hid (Nat.ne_of_gt (Nat.lt_of_lt_of_le X13.out.lt g28.out))
      have m28_13 := Lib.hid (Nat.ne_of_lt (Nat.lt_of_lt_of_le X13.out.lt g28.out))
      have n28_22 := Lib.hid (Nat.ne_of_gt (Nat.lt_of_lt_of_le X22.out.lt g28.out))
      have m28_22 := Lib.hid (Nat.ne_of_lt (Nat.lt_of_lt_of_le X22.out.lt g28.out))
      have n28_25 := Lib.hid (Nat.ne_of_gt (Nat.lt_of_lt_of_le X25.out.lt g28.out))
      have m28_25 := Lib.hid (Nat.ne_of_lt (Nat.lt_of_lt_of_le X25.out.lt g28.out))
      replace X6 := Lib.hid (X6.out.kept hSS)
      replace X7 := Lib.hid (X7.out.kept hSS)
      replace X10 := Lib.hid (X10.out.kept hSS)
      replace X13 := Lib.hid (X13.out.kept hSS)
      replace X22 := Lib.hid (X22.out.kept hSS)
      replace X25 := Lib.hid (X25.out.kept hSS)
      have h28 := Lib.hid (Nat.le_trans QQ.out.size g28.out)
      replace QQ := Lib.hid (Qw.trans QQ.out hSS)
      clear hSS
      go_wp2_with (first | ((with_reducible refine ld_vec 28 ?_ X28.out ?_); (rfl)) | (go_at_call 45; ((with_reducible refine (CO.out _).mono ?_); rintro e w22 ⟨rfl, qq⟩; replace X6 := Lib.hid (X6.out.kept qq); replace X7 := Lib.hid (X7.out.kept qq); replace X10 := Lib.hid (X10.out.kept qq); replace X13 := Lib.hid (X13.out.kept qq); replace X22 := Lib.hid (X22.out.kept qq); replace X25 := Lib.hid (X25.out.kept qq); replace X28 := Lib.hid (X28.out.kept qq); replace QQ := Lib.hid (Qw.trans QQ.out qq); clear qq)) | ((with_reducible refine st_vec (x := ?_) (y := ?_) (z := ?_) 10 151 ?_ ?_ X10.out ?_); rotate_left 3; (rfl); (rfl); intro w23 xx qf ot; replace X6 := Lib.hid (ot _ _ _ m10_6.out X6.out); replace X7 := Lib.hid (ot _ _ _ m10_7.out X7.out); replace X13 := Lib.hid (ot _ _ _ n13_10.out X13.out); replace X22 := Lib.hid (ot _ _ _ n22_10.out X22.out); replace X25 := Lib.hid (ot _ _ _ n25_10.out X25.out); replace X28 := Lib.hid (ot _ _ _ n28_10.out X28.out); replace QQ := Lib.hid (qf _ QQ.out h10.out); replace X10 := Lib.hid xx; clear xx qf ot))
      have c10_0 := X10.out.v0
      have c10_1 := X10.out.v1
      have c10_2 := X10.out.v2
      exact bodyPost_ret (v := .tuple #[.agg #[.int .i64 V0, .int .i64 V1, .int .i64 V2], .int .i64 EE]) (by simp [results, Try.results21, go_sem, c10_0, c10_1, c10_2]) rfl ⟨rfl, QQ.out⟩
  · rw [show Ac.rabs r = r by unfold Ac.rabs; rw [if_neg kr], show Ac.rsid d r = d by unfold Ac.rsid; rw [if_neg kr]]
    have r8 : 8 ≤ r ∧ r ≤ 1048576 := by omega
    have s1 := hd
    clear hr hd
    by_cases k1 : D = 0
    · have z0 : (D == 0) = true := by simpa using k1
      rw [if_pos (.inl k1), if_pos (.inl k1), if_pos (.inl k1), if_pos (.inl k1)]
      clear k1
      have QQ : Hid (Qw w w) := Lib.hid (Qw.refl w)
      go_enter Try.func21, Try.ntmps21
      go_upto_region 1 with (go_big_may; (first | ((with_reducible refine box_vec (x := ?_) (y := ?_) (z := ?_) 1 ?_ ?_); rotate_left 3; (rfl); intro w1 B6 hb xx qq; have h6 := Lib.hid (Nat.le_trans QQ.out.size hb); replace QQ := Lib.hid (Qw.trans QQ.out qq); have X6 := Lib.hid xx; clear xx qq hb) | ((with_reducible refine box_vec (x := ?_) (y := ?_) (z := ?_) 2 ?_ ?_); rotate_left 3; (rfl); intro w2 B7 hb xx qq; have n7_6 := Lib.hid (Nat.ne_of_gt (Nat.lt_of_lt_of_le X6.out.lt hb)); have m7_6 := Lib.hid (Nat.ne_of_lt (Nat.lt_of_lt_of_le X6.out.lt hb)); have h7 := Lib.hid (Nat.le_trans QQ.out.size hb); replace X6 := Lib.hid (X6.out.kept qq); replace QQ := Lib.hid (Qw.trans QQ.out qq); have X7 := Lib.hid xx; clear xx qq hb) | ((with_reducible refine al_vec (dst := some 10) ?_); intro w3 B10 hb xx qq; have n10_6 := Lib.hid (Nat.ne_of_gt (Nat.lt_of_lt_of_le X6.out.lt hb)); have n10_7 := Lib.hid (Nat.ne_of_gt (Nat.lt_of_lt_of_le X7.out.lt hb)); have m10_6 := Lib.hid (Nat.ne_of_lt (Nat.lt_of_lt_of_le X6.out.lt hb)); have m10_7 := Lib.hid (Nat.ne_of_lt (Nat.lt_of_lt_of_le X7.out.lt hb)); have h10 := Lib.hid (Nat.le_trans QQ.out.size hb); replace X6 := Lib.hid (X6.out.kept qq); replace X7 := Lib.hid (X7.out.kept qq); replace QQ := Lib.hid (Qw.trans QQ.out qq); have X10 := Lib.hid xx; clear xx qq hb)))
      go_upto_region 3 with (go_big_may; (first | (go_at_call 54; ((with_reducible refine (PL.out _).mono ?_); rintro e w4 ⟨rfl, qq⟩; replace X6 := Lib.hid (X6.out.kept qq); replace X7 := Lib.hid (X7.out.kept qq); replace X10 := Lib.hid (X10.out.kept qq); replace QQ := Lib.hid (Qw.trans QQ.out qq); clear qq; have c6_0 := X6.out.v0; have c6_1 := X6.out.v1; have c6_2 := X6.out.v2)) | (go_at_call 44; ((with_reducible refine (W1.out _).mono ?_); rintro e w5 ⟨rfl, qq⟩; replace X6 := Lib.hid (X6.out.kept qq); replace X7 := Lib.hid (X7.out.kept qq); replace X10 := Lib.hid (X10.out.kept qq); replace QQ := Lib.hid (Qw.trans QQ.out qq); clear qq; have c7_0 := X7.out.v0; have c7_1 := X7.out.v1; have c7_2 := X7.out.v2)) | (go_at_call 44; ((with_reducible refine (W2.out _).mono ?_); rintro e w6 ⟨rfl, qq⟩; replace X6 := Lib.hid (X6.out.kept qq); replace X7 := Lib.hid (X7.out.kept qq); replace X10 := Lib.hid (X10.out.kept qq); replace QQ := Lib.hid (Qw.trans QQ.out qq); clear qq)) | (go_at_call 55; ((with_reducible refine (DI.out _).mono ?_); rintro e w7 ⟨rfl, qq⟩; replace X6 := Lib.hid (X6.out.kept qq); replace X7 := Lib.hid (X7.out.kept qq); replace X10 := Lib.hid (X10.out.kept qq); replace QQ := Lib.hid (Qw.trans QQ.out qq); clear qq)) | (go_at_call 56; ((with_reducible refine (RA.out _).mono ?_); rintro e w8 ⟨rfl, qq⟩; replace X6 := Lib.hid (X6.out.kept qq); replace X7 := Lib.hid (X7.out.kept qq); replace X10 := Lib.hid (X10.out.kept qq); replace QQ := Lib.hid (Qw.trans QQ.out qq); clear qq))))
      clear c6_0 c6_1 c6_2 c7_0 c7_1 c7_2
      go_upto_region 4 with fail
      go_upto_region 6 with fail
      go_upto_region 7 with (go_big_may; (first | ((with_reducible refine ld_vec 7 ?_ X7.out ?_); (rfl)) | ((with_reducible refine ld_vec 6 ?_ X6.out ?_); (rfl)) | (go_at_call 57; ((with_reducible refine (DF.out _).mono ?_); rintro e w9 ⟨rfl, qq⟩; replace X6 := Lib.hid (X6.out.kept qq); replace X7 := Lib.hid (X7.out.kept qq); replace X10 := Lib.hid (X10.out.kept qq); replace QQ := Lib.hid (Qw.trans QQ.out qq); clear qq)) | ((with_reducible refine al_pt (dst := some 13) ?_); intro w10 B13 hb xx qq; have n13_6 := Lib.hid (Nat.ne_of_gt (Nat.lt_of_lt_of_le X6.out.lt hb)); have n13_7 := Lib.hid (Nat.ne_of_gt (Nat.lt_of_lt_of_le X7.out.lt hb)); have n13_10 := Lib.hid (Nat.ne_of_gt (Nat.lt_of_lt_of_le X10.out.lt hb)); have m13_6 := Lib.hid (Nat.ne_of_lt (Nat.lt_of_lt_of_le X6.out.lt hb)); have m13_7 := Lib.hid (Nat.ne_of_lt (Nat.lt_of_lt_of_le X7.out.lt hb)); have m13_10 := Lib.hid (Nat.ne_of_lt (Nat.lt_of_lt_of_le X10.out.lt hb)); have h13 := Lib.hid (Nat.le_trans QQ.out.size hb); replace X6 := Lib.hid (X6.out.kept qq); replace X7 := Lib.hid (X7.out.kept qq); replace X10 := Lib.hid (X10.out.kept qq); replace QQ := Lib.hid (Qw.trans QQ.out qq); have X13 := Lib.hid xx; clear xx qq hb) | ((with_reducible refine st_pt (x := ?_) (y := ?_) 13 64 ?_ ?_ X13.out ?_); rotate_left 2; (rfl); (rfl); intro w11 xx qf ot; replace X6 := Lib.hid (ot _ _ _ m13_6.out X6.out); replace X7 := Lib.hid (ot _ _ _ m13_7.out X7.out); replace X10 := Lib.hid (ot _ _ _ m13_10.out X10.out); replace QQ := Lib.hid (qf _ QQ.out h13.out); replace X13 := Lib.hid xx; clear xx qf ot)))
      go_upto_region 8 with (go_big_may; (first | ((with_reducible refine ld_pt 13 ?_ X13.out ?_); (rfl)) | ((with_reducible refine ld_pt 13 ?_ X13.out ?_); (rfl)) | (go_at_call 58; ((with_reducible refine (IN.out _).mono ?_); rintro e w12 ⟨rfl, qq⟩; replace X6 := Lib.hid (X6.out.kept qq); replace X7 := Lib.hid (X7.out.kept qq); replace X10 := Lib.hid (X10.out.kept qq); replace X13 := Lib.hid (X13.out.kept qq); replace QQ := Lib.hid (Qw.trans QQ.out qq); clear qq))))
      go_upto_region 9 with fail
      go_wp2_with ((with_reducible refine st_vec (x := ?_) (y := ?_) (z := ?_) 10 80 ?_ ?_ X10.out ?_); rotate_left 3; (rfl); (rfl); intro w13 xx qf ot; replace X6 := Lib.hid (ot _ _ _ m10_6.out X6.out); replace X7 := Lib.hid (ot _ _ _ m10_7.out X7.out); replace X13 := Lib.hid (ot _ _ _ n13_10.out X13.out); replace QQ := Lib.hid (qf _ QQ.out h10.out); replace X10 := Lib.hid xx; clear xx qf ot)
      have c10_0 := X10.out.v0
      have c10_1 := X10.out.v1
      have c10_2 := X10.out.v2
      exact bodyPost_ret (v := .tuple #[.agg #[.int .i64 0, .int .i64 0, .int .i64 0], .int .i64 12]) (by simp [results, Try.results21, go_sem, c10_0, c10_1, c10_2]) rfl ⟨rfl, QQ.out⟩
    have z0 : (D == 0) = false := beq_eq_false_iff_ne.2 k1
    obtain ⟨mm1, mm2⟩ := Ac.most_bd r8.1 r8.2
    by_cases k2 : (2 * r + 2) * (2 * r + 2) < D
    · rw [if_pos (.inr k2), if_pos (.inr k2), if_pos (.inr k2), if_pos (.inr k2)]
      clear k1
      have QQ : Hid (Qw w w) := Lib.hid (Qw.refl w)
      go_enter Try.func21, Try.ntmps21
      go_upto_region 1 with (go_big_may; (first | ((with_reducible refine box_vec (x := ?_) (y := ?_) (z := ?_) 1 ?_ ?_); rotate_left 3; (rfl); intro w1 B6 hb xx qq; have h6 := Lib.hid (Nat.le_trans QQ.out.size hb); replace QQ := Lib.hid (Qw.trans QQ.out qq); have X6 := Lib.hid xx; clear xx qq hb) | ((with_reducible refine box_vec (x := ?_) (y := ?_) (z := ?_) 2 ?_ ?_); rotate_left 3; (rfl); intro w2 B7 hb xx qq; have n7_6 := Lib.hid (Nat.ne_of_gt (Nat.lt_of_lt_of_le X6.out.lt hb)); have m7_6 := Lib.hid (Nat.ne_of_lt (Nat.lt_of_lt_of_le X6.out.lt hb)); have h7 := Lib.hid (Nat.le_trans QQ.out.size hb); replace X6 := Lib.hid (X6.out.kept qq); replace QQ := Lib.hid (Qw.trans QQ.out qq); have X7 := Lib.hid xx; clear xx qq hb) | ((with_reducible refine al_vec (dst := some 10) ?_); intro w3 B10 hb xx qq; have n10_6 := Lib.hid (Nat.ne_of_gt (Nat.lt_of_lt_of_le X6.out.lt hb)); have n10_7 := Lib.hid (Nat.ne_of_gt (Nat.lt_of_lt_of_le X7.out.lt hb)); have m10_6 := Lib.hid (Nat.ne_of_lt (Nat.lt_of_lt_of_le X6.out.lt hb)); have m10_7 := Lib.hid (Nat.ne_of_lt (Nat.lt_of_lt_of_le X7.out.lt hb)); have h10 := Lib.hid (Nat.le_trans QQ.out.size hb); replace X6 := Lib.hid (X6.out.kept qq); replace X7 := Lib.hid (X7.out.kept qq); replace QQ := Lib.hid (Qw.trans QQ.out qq); have X10 := Lib.hid xx; clear xx qq hb)))
      go_upto_region 3 with (go_big_may; (first | (go_at_call 54; ((with_reducible refine (PL.out _).mono ?_); rintro e w4 ⟨rfl, qq⟩; replace X6 := Lib.hid (X6.out.kept qq); replace X7 := Lib.hid (X7.out.kept qq); replace X10 := Lib.hid (X10.out.kept qq); replace QQ := Lib.hid (Qw.trans QQ.out qq); clear qq; have c6_0 := X6.out.v0; have c6_1 := X6.out.v1; have c6_2 := X6.out.v2)) | (go_at_call 44; ((with_reducible refine (W1.out _).mono ?_); rintro e w5 ⟨rfl, qq⟩; replace X6 := Lib.hid (X6.out.kept qq); replace X7 := Lib.hid (X7.out.kept qq); replace X10 := Lib.hid (X10.out.kept qq); replace QQ := Lib.hid (Qw.trans QQ.out qq); clear qq; have c7_0 := X7.out.v0; have c7_1 := X7.out.v1; have c7_2 := X7.out.v2)) | (go_at_call 44; ((with_reducible refine (W2.out _).mono ?_); rintro e w6 ⟨rfl, qq⟩; replace X6 := Lib.hid (X6.out.kept qq); replace X7 := Lib.hid (X7.out.kept qq); replace X10 := Lib.hid (X10.out.kept qq); replace QQ := Lib.hid (Qw.trans QQ.out qq); clear qq)) | (go_at_call 55; ((with_reducible refine (DI.out _).mono ?_); rintro e w7 ⟨rfl, qq⟩; replace X6 := Lib.hid (X6.out.kept qq); replace X7 := Lib.hid (X7.out.kept qq); replace X10 := Lib.hid (X10.out.kept qq); replace QQ := Lib.hid (Qw.trans QQ.out qq); clear qq)) | (go_at_call 56; ((with_reducible refine (RA.out _).mono ?_); rintro e w8 ⟨rfl, qq⟩; replace X6 := Lib.hid (X6.out.kept qq); replace X7 := Lib.hid (X7.out.kept qq); replace X10 := Lib.hid (X10.out.kept qq); replace QQ := Lib.hid (Qw.trans QQ.out qq); clear qq))))
      clear c6_0 c6_1 c6_2 c7_0 c7_1 c7_2
      go_upto_region 4 with fail
      go_upto_region 6 with fail
      go_upto_region 7 with (go_big_may; (first | ((with_reducible refine ld_vec 7 ?_ X7.out ?_); (rfl)) | ((with_reducible refine ld_vec 6 ?_ X6.out ?_); (rfl)) | (go_at_call 57; ((with_reducible refine (DF.out _).mono ?_); rintro e w9 ⟨rfl, qq⟩; replace X6 := Lib.hid (X6.out.kept qq); replace X7 := Lib.hid (X7.out.kept qq); replace X10 := Lib.hid (X10.out.kept qq); replace QQ := Lib.hid (Qw.trans QQ.out qq); clear qq)) | ((with_reducible refine al_pt (dst := some 13) ?_); intro w10 B13 hb xx qq; have n13_6 := Lib.hid (Nat.ne_of_gt (Nat.lt_of_lt_of_le X6.out.lt hb)); have n13_7 := Lib.hid (Nat.ne_of_gt (Nat.lt_of_lt_of_le X7.out.lt hb)); have n13_10 := Lib.hid (Nat.ne_of_gt (Nat.lt_of_lt_of_le X10.out.lt hb)); have m13_6 := Lib.hid (Nat.ne_of_lt (Nat.lt_of_lt_of_le X6.out.lt hb)); have m13_7 := Lib.hid (Nat.ne_of_lt (Nat.lt_of_lt_of_le X7.out.lt hb)); have m13_10 := Lib.hid (Nat.ne_of_lt (Nat.lt_of_lt_of_le X10.out.lt hb)); have h13 := Lib.hid (Nat.le_trans QQ.out.size hb); replace X6 := Lib.hid (X6.out.kept qq); replace X7 := Lib.hid (X7.out.kept qq); replace X10 := Lib.hid (X10.out.kept qq); replace QQ := Lib.hid (Qw.trans QQ.out qq); have X13 := Lib.hid xx; clear xx qq hb) | ((with_reducible refine st_pt (x := ?_) (y := ?_) 13 64 ?_ ?_ X13.out ?_); rotate_left 2; (rfl); (rfl); intro w11 xx qf ot; replace X6 := Lib.hid (ot _ _ _ m13_6.out X6.out); replace X7 := Lib.hid (ot _ _ _ m13_7.out X7.out); replace X10 := Lib.hid (ot _ _ _ m13_10.out X10.out); replace QQ := Lib.hid (qf _ QQ.out h13.out); replace X13 := Lib.hid xx; clear xx qf ot)))
      go_upto_region 8 with (go_big_may; (first | ((with_reducible refine ld_pt 13 ?_ X13.out ?_); (rfl)) | ((with_reducible refine ld_pt 13 ?_ X13.out ?_); (rfl)) | (go_at_call 58; ((with_reducible refine (IN.out _).mono ?_); rintro e w12 ⟨rfl, qq⟩; replace X6 := Lib.hid (X6.out.kept qq); replace X7 := Lib.hid (X7.out.kept qq); replace X10 := Lib.hid (X10.out.kept qq); replace X13 := Lib.hid (X13.out.kept qq); replace QQ := Lib.hid (Qw.trans QQ.out qq); clear qq))))
      go_upto_region 9 with fail
      go_wp2_with ((with_reducible refine st_vec (x := ?_) (y := ?_) (z := ?_) 10 80 ?_ ?_ X10.out ?_); rotate_left 3; (rfl); (rfl); intro w13 xx qf ot; replace X6 := Lib.hid (ot _ _ _ m10_6.out X6.out); replace X7 := Lib.hid (ot _ _ _ m10_7.out X7.out); replace X13 := Lib.hid (ot _ _ _ n13_10.out X13.out); replace QQ := Lib.hid (qf _ QQ.out h10.out); replace X10 := Lib.hid xx; clear xx qf ot)
      have c10_0 := X10.out.v0
      have c10_1 := X10.out.v1
      have c10_2 := X10.out.v2
      exact bodyPost_ret (v := .tuple #[.agg #[.int .i64 0, .int .i64 0, .int .i64 0], .int .i64 12]) (by simp [results, Try.results21, go_sem, c10_0, c10_1, c10_2]) rfl ⟨rfl, QQ.out⟩
    have k3 : ¬ (D = 0 ∨ (2 * r + 2) * (2 * r + 2) < D) := by omega
    rw [if_neg k3, if_neg k3, if_neg k3, if_neg k3]
    clear k3
    have e4 := Ac.four_bd r8.1 r8.2
    have rmx := run_max2 (4 * r * r - D) 0
    have hx : 0 ≤ Ac.hi2 (4 * r * r - D) 0 ∧ Ac.hi2 (4 * r * r - D) 0 ≤ 4398046511104 := by unfold Ac.hi2; split <;> omega
    obtain ⟨e5, e6⟩ := e4
    generalize Ac.hi2 (4 * r * r - D) 0 = E at *
    have sq := fun w' => sqrtW E 2 (by omega) (by omega) w'
    obtain ⟨gb1, gb2⟩ := Ac.g_bd hx.1 hx.2
    generalize rtv E 1 2 = G at *
    generalize rtok E 1 2 = ok0 at *
    have o1 := fun w' => overW dw G (4 * D) 2 (by omega) (by omega) (by omega) (by omega) (by omega) (by omega) w'
    have o2 := fun w' => overW du G (4 * D) 2 (by omega) (by omega) (by omega) (by omega) (by omega) (by omega) w'
    obtain ⟨ob1, ob2⟩ := Ac.ov_bd b2 gb1 gb2 (show 1 ≤ D by omega) l4 l2
    obtain ⟨ob3, ob4⟩ := Ac.ov_bd b1 gb1 gb2 (show 1 ≤ D by omega) l3 l2
    generalize ovv dw G (4 * D) 2 = U0 at *
    generalize ovok dw G (4 * D) 2 = ok1 at *
    generalize ovv du G (4 * D) 2 = U1 at *
    generalize ovok du G (4 * D) 2 = ok2 at *
    have m1 := fun w' => apMid fu0 tu0 (by omega) (by omega) (by omega) (by omega) w'
    have m2 := fun w' => apMid fw0 tw0 (by omega) (by omega) (by omega) (by omega) w'
    have mb1 : -1048576 ≤ (fu0 + tu0) / 2 ∧ (fu0 + tu0) / 2 ≤ 1048576 := by omega
    have mb2 : -1048576 ≤ (fw0 + tw0) / 2 ∧ (fw0 + tw0) / 2 ≤ 1048576 := by omega
    generalize (fu0 + tu0) / 2 = Q0 at *
    generalize (fw0 + tw0) / 2 = Q1 at *
    have sb1 : -2097154 ≤ d * U0 ∧ d * U0 ≤ 2097154 := by rcases s1 with e | e <;> rw [e] <;> omega
    have sb2 : -2097154 ≤ d * U1 ∧ d * U1 ≤ 2097154 := by rcases s1 with e | e <;> rw [e] <;> omega
    have EW := Lib.hid (And.intro (IntWalk.i64_in (d * U0) (by omega)) (And.intro (IntWalk.i64_in (Q0 - d * U0) (by omega)) (And.intro (IntWalk.i64_in (d * U1) (by omega)) (IntWalk.i64_in (Q1 + d * U1) (by omega)))))
    have so := fun w' => vc_solid p (Q0 - d * U0) (Q1 + d * U1) fh0 p1 p2 w'
    have cb := Ac.solid_bd (p := p) (u := Q0 - d * U0) (v := Q1 + d * U1) (h := fh0) (L := 4194304) (by decide) (by omega) (by omega) (by omega)
    generalize sx p (Q0 - d * U0) (Q1 + d * U1) fh0 = C0 at *
    generalize sy p (Q0 - d * U0) (Q1 + d * U1) fh0 = C1 at *
    generalize sz p (Q0 - d * U0) (Q1 + d * U1) fh0 = C2 at *
    have co := fun w' => apCoord C0 C1 C2 (by omega) (by omega) (by omega) (by omega) (by omega) (by omega) w'
    generalize cdv C0 C1 C2 C0 = V0 at *
    generalize cdv C0 C1 C2 C1 = V1 at *
    generalize cdv C0 C1 C2 C2 = V2 at *
    generalize cde C0 C1 C2 = EE at *
    have SQ := Lib.hid sq
    have O1 := Lib.hid o1
    have O2 := Lib.hid o2
    have M1 := Lib.hid m1
    have M2 := Lib.hid m2
    have SO := Lib.hid so
    have CO := Lib.hid co
    obtain ⟨sv1, sv2⟩ : -1 ≤ d ∧ d ≤ 1 := by omega
    clear sq o1 o2 m1 m2 so co sb1 sb2 mb1 mb2 cb k1 s1
    obtain ⟨hx1, hx2⟩ := hx
    obtain ⟨r81, r82⟩ := r8
    have QQ : Hid (Qw w w) := Lib.hid (Qw.refl w)
    go_enter Try.func21, Try.ntmps21
    go_upto_region 1 with (go_big_may; (first | ((with_reducible refine box_vec (x := ?_) (y := ?_) (z := ?_) 1 ?_ ?_); rotate_left 3; (rfl); intro w1 B6 hb xx qq; have h6 := Lib.hid (Nat.le_trans QQ.out.size hb); replace QQ := Lib.hid (Qw.trans QQ.out qq); have X6 := Lib.hid xx; clear xx qq hb) | ((with_reducible refine box_vec (x := ?_) (y := ?_) (z := ?_) 2 ?_ ?_); rotate_left 3; (rfl); intro w2 B7 hb xx qq; have n7_6 := Lib.hid (Nat.ne_of_gt (Nat.lt_of_lt_of_le X6.out.lt hb)); have m7_6 := Lib.hid (Nat.ne_of_lt (Nat.lt_of_lt_of_le X6.out.lt hb)); have h7 := Lib.hid (Nat.le_trans QQ.out.size hb); replace X6 := Lib.hid (X6.out.kept qq); replace QQ := Lib.hid (Qw.trans QQ.out qq); have X7 := Lib.hid xx; clear xx qq hb) | ((with_reducible refine al_vec (dst := some 10) ?_); intro w3 B10 hb xx qq; have n10_6 := Lib.hid (Nat.ne_of_gt (Nat.lt_of_lt_of_le X6.out.lt hb)); have n10_7 := Lib.hid (Nat.ne_of_gt (Nat.lt_of_lt_of_le X7.out.lt hb)); have m10_6 := Lib.hid (Nat.ne_of_lt (Nat.lt_of_lt_of_le X6.out.lt hb)); have m10_7 := Lib.hid (Nat.ne_of_lt (Nat.lt_of_lt_of_le X7.out.lt hb)); have h10 := Lib.hid (Nat.le_trans QQ.out.size hb); replace X6 := Lib.hid (X6.out.kept qq); replace X7 := Lib.hid (X7.out.kept qq); replace QQ := Lib.hid (Qw.trans QQ.out qq); have X10 := Lib.hid xx; clear xx qq hb)))
    go_upto_region 3 with (go_big_may; (first | (go_at_call 54; ((with_reducible refine (PL.out _).mono ?_); rintro e w4 ⟨rfl, qq⟩; replace X6 := Lib.hid (X6.out.kept qq); replace X7 := Lib.hid (X7.out.kept qq); replace X10 := Lib.hid (X10.out.kept qq); replace QQ := Lib.hid (Qw.trans QQ.out qq); clear qq; have c6_0 := X6.out.v0; have c6_1 := X6.out.v1; have c6_2 := X6.out.v2)) | (go_at_call 44; ((with_reducible refine (W1.out _).mono ?_); rintro e w5 ⟨rfl, qq⟩; replace X6 := Lib.hid (X6.out.kept qq); replace X7 := Lib.hid (X7.out.kept qq); replace X10 := Lib.hid (X10.out.kept qq); replace QQ := Lib.hid (Qw.trans QQ.out qq); clear qq; have c7_0 := X7.out.v0; have c7_1 := X7.out.v1; have c7_2 := X7.out.v2)) | (go_at_call 44; ((with_reducible refine (W2.out _).mono ?_); rintro e w6 ⟨rfl, qq⟩; replace X6 := Lib.hid (X6.out.kept qq); replace X7 := Lib.hid (X7.out.kept qq); replace X10 := Lib.hid (X10.out.kept qq); replace QQ := Lib.hid (Qw.trans QQ.out qq); clear qq)) | (go_at_call 55; ((with_reducible refine (DI.out _).mono ?_); rintro e w7 ⟨rfl, qq⟩; replace X6 := Lib.hid (X6.out.kept qq); replace X7 := Lib.hid (X7.out.kept qq); replace X10 := Lib.hid (X10.out.kept qq); replace QQ := Lib.hid (Qw.trans QQ.out qq); clear qq)) | (go_at_call 56; ((with_reducible refine (RA.out _).mono ?_); rintro e w8 ⟨rfl, qq⟩; replace X6 := Lib.hid (X6.out.kept qq); replace X7 := Lib.hid (X7.out.kept qq); replace X10 := Lib.hid (X10.out.kept qq); replace QQ := Lib.hid (Qw.trans QQ.out qq); clear qq))))
    clear c6_0 c6_1 c6_2 c7_0 c7_1 c7_2
    go_upto_region 4 with fail
    go_upto_region 6 with fail
    go_upto_region 7 with (go_big_may; (first | ((with_reducible refine ld_vec 7 ?_ X7.out ?_); (rfl)) | ((with_reducible refine ld_vec 6 ?_ X6.out ?_); (rfl)) | (go_at_call 57; ((with_reducible refine (DF.out _).mono ?_); rintro e w9 ⟨rfl, qq⟩; replace X6 := Lib.hid (X6.out.kept qq); replace X7 := Lib.hid (X7.out.kept qq); replace X10 := Lib.hid (X10.out.kept qq); replace QQ := Lib.hid (Qw.trans QQ.out qq); clear qq)) | ((with_reducible refine al_pt (dst := some 13) ?_); intro w10 B13 hb xx qq; have n13_6 := Lib.hid (Nat.ne_of_gt (Nat.lt_of_lt_of_le X6.out.lt hb)); have n13_7 := Lib.hid (Nat.ne_of_gt (Nat.lt_of_lt_of_le X7.out.lt hb)); have n13_10 := Lib.hid (Nat.ne_of_gt (Nat.lt_of_lt_of_le X10.out.lt hb)); have m13_6 := Lib.hid (Nat.ne_of_lt (Nat.lt_of_lt_of_le X6.out.lt hb)); have m13_7 := Lib.hid (Nat.ne_of_lt (Nat.lt_of_lt_of_le X7.out.lt hb)); have m13_10 := Lib.hid (Nat.ne_of_lt (Nat.lt_of_lt_of_le X10.out.lt hb)); have h13 := Lib.hid (Nat.le_trans QQ.out.size hb); replace X6 := Lib.hid (X6.out.kept qq); replace X7 := Lib.hid (X7.out.kept qq); replace X10 := Lib.hid (X10.out.kept qq); replace QQ := Lib.hid (Qw.trans QQ.out qq); have X13 := Lib.hid xx; clear xx qq hb) | ((with_reducible refine st_pt (x := ?_) (y := ?_) 13 64 ?_ ?_ X13.out ?_); rotate_left 2; (rfl); (rfl); intro w11 xx qf ot; replace X6 := Lib.hid (ot _ _ _ m13_6.out X6.out); replace X7 := Lib.hid (ot _ _ _ m13_7.out X7.out); replace X10 := Lib.hid (ot _ _ _ m13_10.out X10.out); replace QQ := Lib.hid (qf _ QQ.out h13.out); replace X13 := Lib.hid xx; clear xx qf ot)))
    go_upto_region 8 with (go_big_may; (first | ((with_reducible refine ld_pt 13 ?_ X13.out ?_); (rfl)) | ((with_reducible refine ld_pt 13 ?_ X13.out ?_); (rfl)) | (go_at_call 58; ((with_reducible refine (IN.out _).mono ?_); rintro e w12 ⟨rfl, qq⟩; replace X6 := Lib.hid (X6.out.kept qq); replace X7 := Lib.hid (X7.out.kept qq); replace X10 := Lib.hid (X10.out.kept qq); replace X13 := Lib.hid (X13.out.kept qq); replace QQ := Lib.hid (Qw.trans QQ.out qq); clear qq))))
    go_upto_region 10 with fail
    go_upto_region 11 with (go_big_may; (go_at_call 59; ((with_reducible refine (SQ.out _).mono ?_); rintro e w13 ⟨rfl, qq⟩; replace X6 := Lib.hid (X6.out.kept qq); replace X7 := Lib.hid (X7.out.kept qq); replace X10 := Lib.hid (X10.out.kept qq); replace X13 := Lib.hid (X13.out.kept qq); replace QQ := Lib.hid (Qw.trans QQ.out qq); clear qq)))
    have c13_1 := X13.out.p1
    go_upto_region 12 with (go_big_may; (go_at_call 60; ((with_reducible refine (O1.out _).mono ?_); rintro e w14 ⟨rfl, qq⟩; replace X6 := Lib.hid (X6.out.kept qq); replace X7 := Lib.hid (X7.out.kept qq); replace X10 := Lib.hid (X10.out.kept qq); replace X13 := Lib.hid (X13.out.kept qq); replace QQ := Lib.hid (Qw.trans QQ.out qq); clear qq)))
    clear c13_1
    have c13_0 := X13.out.p0
    go_upto_region 13 with (go_big_may; (go_at_call 60; ((with_reducible refine (O2.out _).mono ?_); rintro e w15 ⟨rfl, qq⟩; replace X6 := Lib.hid (X6.out.kept qq); replace X7 := Lib.hid (X7.out.kept qq); replace X10 := Lib.hid (X10.out.kept qq); replace X13 := Lib.hid (X13.out.kept qq); replace QQ := Lib.hid (Qw.trans QQ.out qq); clear qq)))
    clear c13_0
    go_upto_region 14 with (go_big_may; (first | ((with_reducible refine ld_vec 6 ?_ X6.out ?_); (rfl)) | (go_at_call 43; ((with_reducible refine (F1.out _).mono ?_); rintro e w16 ⟨rfl, qq⟩; replace X6 := Lib.hid (X6.out.kept qq); replace X7 := Lib.hid (X7.out.kept qq); replace X10 := Lib.hid (X10.out.kept qq); replace X13 := Lib.hid (X13.out.kept qq); replace QQ := Lib.hid (Qw.trans QQ.out qq); clear qq)) | ((with_reducible refine al_pt (dst := some 22) ?_); intro w17 B22 hb xx qq; have n22_6 := Lib.hid (Nat.ne_of_gt (Nat.lt_of_lt_of_le X6.out.lt hb)); have n22_7 := Lib.hid (Nat.ne_of_gt (Nat.lt_of_lt_of_le X7.out.lt hb)); have n22_10 := Lib.hid (Nat.ne_of_gt (Nat.lt_of_lt_of_le X10.out.lt hb)); have n22_13 := Lib.hid (Nat.ne_of_gt (Nat.lt_of_lt_of_le X13.out.lt hb)); have m22_6 := Lib.hid (Nat.ne_of_lt (Nat.lt_of_lt_of_le X6.out.lt hb)); have m22_7 := Lib.hid (Nat.ne_of_lt (Nat.lt_of_lt_of_le X7.out.lt hb)); have m22_10 := Lib.hid (Nat.ne_of_lt (Nat.lt_of_lt_of_le X10.out.lt hb)); have m22_13 := Lib.hid (Nat.ne_of_lt (Nat.lt_of_lt_of_le X13.out.lt hb)); have h22 := Lib.hid (Nat.le_trans QQ.out.size hb); replace X6 := Lib.hid (X6.out.kept qq); replace X7 := Lib.hid (X7.out.kept qq); replace X10 := Lib.hid (X10.out.kept qq); replace X13 := Lib.hid (X13.out.kept qq); replace QQ := Lib.hid (Qw.trans QQ.out qq); have X22 := Lib.hid xx; clear xx qq hb) | ((with_reducible refine st_pt (x := ?_) (y := ?_) 22 114 ?_ ?_ X22.out ?_); rotate_left 2; (rfl); (rfl); intro w18 xx qf ot; replace X6 := Lib.hid (ot _ _ _ m22_6.out X6.out); replace X7 := Lib.hid (ot _ _ _ m22_7.out X7.out); replace X10 := Lib.hid (ot _ _ _ m22_10.out X10.out); replace X13 := Lib.hid (ot _ _ _ m22_13.out X13.out); replace QQ := Lib.hid (qf _ QQ.out h22.out); replace X22 := Lib.hid xx; clear xx qf ot)))
    go_upto_region 15 with (go_big_may; (first | ((with_reducible refine ld_vec 7 ?_ X7.out ?_); (rfl)) | (go_at_call 43; ((with_reducible refine (F2.out _).mono ?_); rintro e w19 ⟨rfl, qq⟩; replace X6 := Lib.hid (X6.out.kept qq); replace X7 := Lib.hid (X7.out.kept qq); replace X10 := Lib.hid (X10.out.kept qq); replace X13 := Lib.hid (X13.out.kept qq); replace X22 := Lib.hid (X22.out.kept qq); replace QQ := Lib.hid (Qw.trans QQ.out qq); clear qq)) | ((with_reducible refine al_pt (dst := some 25) ?_); intro w20 B25 hb xx qq; have n25_6 := Lib.hid (Nat.ne_of_gt (Nat.lt_of_lt_of_le X6.out.lt hb)); have n25_7 := Lib.hid (Nat.ne_of_gt (Nat.lt_of_lt_of_le X7.out.lt hb)); have n25_10 := Lib.hid (Nat.ne_of_gt (Nat.lt_of_lt_of_le X10.out.lt hb)); have n25_13 := Lib.hid (Nat.ne_of_gt (Nat.lt_of_lt_of_le X13.out.lt hb)); have n25_22 := Lib.hid (Nat.ne_of_gt (Nat.lt_of_lt_of_le X22.out.lt hb)); have m25_6 := Lib.hid (Nat.ne_of_lt (Nat.lt_of_lt_of_le X6.out.lt hb)); have m25_7 := Lib.hid (Nat.ne_of_lt (Nat.lt_of_lt_of_le X7.out.lt hb)); have m25_10 := Lib.hid (Nat.ne_of_lt (Nat.lt_of_lt_of_le X10.out.lt hb)); have m25_13 := Lib.hid (Nat.ne_of_lt (Nat.lt_of_lt_of_le X13.out.lt hb)); have m25_22 := Lib.hid (Nat.ne_of_lt (Nat.lt_of_lt_of_le X22.out.lt hb)); have h25 := Lib.hid (Nat.le_trans QQ.out.size hb); replace X6 := Lib.hid (X6.out.kept qq); replace X7 := Lib.hid (X7.out.kept qq); replace X10 := Lib.hid (X10.out.kept qq); replace X13 := Lib.hid (X13.out.kept qq); replace X22 := Lib.hid (X22.out.kept qq); replace QQ := Lib.hid (Qw.trans QQ.out qq); have X25 := Lib.hid xx; clear xx qq hb) | ((with_reducible refine st_pt (x := ?_) (y := ?_) 25 121 ?_ ?_ X25.out ?_); rotate_left 2; (rfl); (rfl); intro w21 xx qf ot; replace X6 := Lib.hid (ot _ _ _ m25_6.out X6.out); replace X7 := Lib.hid (ot _ _ _ m25_7.out X7.out); replace X10 := Lib.hid (ot _ _ _ m25_10.out X10.out); replace X13 := Lib.hid (ot _ _ _ m25_13.out X13.out); replace X22 := Lib.hid (ot _ _ _ m25_22.out X22.out); replace QQ := Lib.hid (qf _ QQ.out h25.out); replace X25 := Lib.hid xx; clear xx qf ot)))
    try simp only [List.getElem_toArray, List.getElem_cons_succ, List.getElem_cons_zero, Act.put, List.setIfInBounds_toArray, List.set_cons_zero, List.set_cons_succ]
    refine wp_region_M (fun wS => Qw w21 wS) 27 (by kernel_rfl) ?_
    have hSS : Qw w21 (World.drew w21) := qw_drew1 w21
    generalize World.drew w21 = wd at *
    refine wpAnyM_take (i := 0) (v := ?_) rfl (by kernel_rfl) (fun _ _ _ h => h) (Or.inl ⟨by rfl, ?_⟩) hSS ?_
    rotate_left 1
    · intro wS hwS
      go_simp
      try with_reducible rfl
    simp only [List.getElem_toArray, List.getElem_cons_succ, List.getElem_cons_zero, Act.put, List.setIfInBounds_toArray, List.set_cons_zero, List.set_cons_succ]
    refine wpAnyM_take (i := 1) (v := ?_) rfl (by kernel_rfl) (fun _ _ _ h => h) (Or.inl ⟨by rfl, ?_⟩) hSS ?_
    rotate_left 1
    · intro wS hwS
      go_simp
      try with_reducible rfl
    simp only [List.getElem_toArray, List.getElem_cons_succ, List.getElem_cons_zero, Act.put, List.setIfInBounds_toArray, List.set_cons_zero, List.set_cons_succ]
    refine wpAnyM_take (i := 2) (v := ?_) rfl (by kernel_rfl) (fun _ _ _ h => h) (Or.inl ⟨by rfl, ?_⟩) hSS ?_
    rotate_left 1
    · intro wS hwS
      have y0 := (X22.out.kept hwS).p0; go_simp
      try with_reducible rfl
    simp only [List.getElem_toArray, List.getElem_cons_succ, List.getElem_cons_zero, Act.put, List.setIfInBounds_toArray, List.set_cons_zero, List.set_cons_succ]
    refine wpAnyM_take (i := 3) (v := ?_) rfl (by kernel_rfl) (fun _ _ _ h => h) (Or.inl ⟨by rfl, ?_⟩) hSS ?_
    rotate_left 1
    · intro wS hwS
      go_simp
      try with_reducible rfl
    simp only [List.getElem_toArray, List.getElem_cons_succ, List.getElem_cons_zero, Act.put, List.setIfInBounds_toArray, List.set_cons_zero, List.set_cons_succ]
    refine wpAnyM_take (i := 4) (v := ?_) rfl (by kernel_rfl) (fun _ _ _ h => h) (Or.inl ⟨by rfl, ?_⟩) hSS ?_
    rotate_left 1
    · intro wS hwS
      have y0 := (X25.out.kept hwS).p0; go_simp
      try with_reducible rfl
    simp only [List.getElem_toArray, List.getElem_cons_succ, List.getElem_cons_zero, Act.put, List.setIfInBounds_toArray, List.set_cons_zero, List.set_cons_succ]
    refine wpAnyM_take (i := 6) (v := ?_) rfl (by kernel_rfl) (fun _ _ _ h => h) (Or.inl ⟨by rfl, ?_⟩) hSS ?_
    rotate_left 1
    · intro wS hwS
      go_simp
      try with_reducible rfl
    simp only [List.getElem_toArray, List.getElem_cons_succ, List.getElem_cons_zero, Act.put, List.setIfInBounds_toArray, List.set_cons_zero, List.set_cons_succ]
    refine wpAnyM_take (i := 7) (v := ?_) rfl (by kernel_rfl) (fun _ _ _ h => h) (Or.inl ⟨by rfl, ?_⟩) hSS ?_
    rotate_left 1
    · intro wS hwS
      go_simp
      try with_reducible rfl
    simp only [List.getElem_toArray, List.getElem_cons_succ, List.getElem_cons_zero, Act.put, List.setIfInBounds_toArray, List.set_cons_zero, List.set_cons_succ]
    refine wpAnyM_take (i := 8) (v := ?_) rfl (by kernel_rfl) (fun _ _ _ h => h) (Or.inl ⟨by rfl, ?_⟩) hSS ?_
    rotate_left 1
    · intro wS hwS
      have ew := EW.out.1; go_simp
      try with_reducible rfl
    simp only [List.getElem_toArray, List.getElem_cons_succ, List.getElem_cons_zero, Act.put, List.setIfInBounds_toArray, List.set_cons_zero, List.set_cons_succ]
    refine wpAnyM_take (i := 10) (v := ?_) rfl (by kernel_rfl) (fun _ _ _ h => h) (Or.inl ⟨by rfl, ?_⟩) hSS ?_
    rotate_left 1
    · intro wS hwS
      go_simp
      try with_reducible rfl
    simp only [List.getElem_toArray, List.getElem_cons_succ, List.getElem_cons_zero, Act.put, List.setIfInBounds_toArray, List.set_cons_zero, List.set_cons_succ]
    refine wpAnyM_take (i := 11) (v := ?_) rfl (by kernel_rfl) (fun _ _ _ h => h) (Or.inl ⟨by rfl, ?_⟩) hSS ?_
    rotate_left 1
    · intro wS hwS
      have y1 := (X22.out.kept hwS).p1; go_simp
      try with_reducible rfl
    simp only [List.getElem_toArray, List.getElem_cons_succ, List.getElem_cons_zero, Act.put, List.setIfInBounds_toArray, List.set_cons_zero, List.set_cons_succ]
    refine wpAnyM_take (i := 12) (v := ?_) rfl (by kernel_rfl) (fun _ _ _ h => h) (Or.inl ⟨by rfl, ?_⟩) hSS ?_
    rotate_left 1
    · intro wS hwS
      go_simp
      try with_reducible rfl
    simp only [List.getElem_toArray, List.getElem_cons_succ, List.getElem_cons_zero, Act.put, List.setIfInBounds_toArray, List.set_cons_zero, List.set_cons_succ]
    refine wpAnyM_take (i := 13) (v := ?_) rfl (by kernel_rfl) (fun _ _ _ h => h) (Or.inl ⟨by rfl, ?_⟩) hSS ?_
    rotate_left 1
    · intro wS hwS
      have y1 := (X25.out.kept hwS).p1; go_simp
      try with_reducible rfl
    simp only [List.getElem_toArray, List.getElem_cons_succ, List.getElem_cons_zero, Act.put, List.setIfInBounds_toArray, List.set_cons_zero, List.set_cons_succ]
    refine wpAnyM_take (i := 15) (v := ?_) rfl (by kernel_rfl) (fun _ _ _ h => h) (Or.inl ⟨by rfl, ?_⟩) hSS ?_
    rotate_left 1
    · intro wS hwS
      go_simp
      try with_reducible rfl
    simp only [List.getElem_toArray, List.getElem_cons_succ, List.getElem_cons_zero, Act.put, List.setIfInBounds_toArray, List.set_cons_zero, List.set_cons_succ]
    refine wpAnyM_take (i := 16) (v := ?_) rfl (by kernel_rfl) (fun _ _ _ h => h) (Or.inl ⟨by rfl, ?_⟩) hSS ?_
    rotate_left 1
    · intro wS hwS
      go_simp
      try with_reducible rfl
    simp only [List.getElem_toArray, List.getElem_cons_succ, List.getElem_cons_zero, Act.put, List.setIfInBounds_toArray, List.set_cons_zero, List.set_cons_succ]
    refine wpAnyM_take (i := 17) (v := ?_) rfl (by kernel_rfl) (fun _ _ _ h => h) (Or.inl ⟨by rfl, ?_⟩) hSS ?_
    rotate_left 1
    · intro wS hwS
      have ew := EW.out.2.2.1; go_simp
      try with_reducible rfl
    simp only [List.getElem_toArray, List.getElem_cons_succ, List.getElem_cons_zero, Act.put, List.setIfInBounds_toArray, List.set_cons_zero, List.set_cons_succ]
    refine wpAnyM_take (i := 20) (v := ?_) rfl (by kernel_rfl) (fun _ _ _ h => h) (Or.inl ⟨by rfl, ?_⟩) hSS ?_
    rotate_left 1
    · intro wS hwS
      go_simp
      try with_reducible rfl
    simp only [List.getElem_toArray, List.getElem_cons_succ, List.getElem_cons_zero, Act.put, List.setIfInBounds_toArray, List.set_cons_zero, List.set_cons_succ]
    refine wpAnyM_two (i := 5) (j := 25) rfl rfl (by kernel_rfl) rfl rfl (fun K hK => ?_) (fun K hK => ?_)
    · go_simp
      with_reducible refine (M1.out _).mono ?_
      rintro e wE ⟨rfl, qq⟩
      have m2 := Qw.trans hSS qq
      refine hK _ _ (fun _ => m2) ?_
      clear hK K hSS qq
      have hSS := m2
      clear m2
      try simp only [List.getElem_toArray, List.getElem_cons_succ, List.getElem_cons_zero, Act.put, List.setIfInBounds_toArray, List.set_cons_zero, List.set_cons_succ]
      refine wpAnyM_take (i := 9) (v := ?_) rfl (by kernel_rfl) (fun _ _ _ h => h) (Or.inl ⟨by rfl, ?_⟩) hSS ?_
      rotate_left 1
      · intro wS hwS
        have ew := EW.out.2.1; go_simp
        try with_reducible rfl
      simp only [List.getElem_toArray, List.getElem_cons_succ, List.getElem_cons_zero, Act.put, List.setIfInBounds_toArray, List.set_cons_zero, List.set_cons_succ]
      refine wpAnyM_two (i := 14) (j := 25) rfl rfl (by kernel_rfl) rfl rfl (fun K hK => ?_) (fun K hK => ?_)
      · go_simp
        with_reducible refine (M2.out _).mono ?_
        rintro e wE ⟨rfl, qq⟩
        have m2 := Qw.trans hSS qq
        refine hK _ _ (fun _ => m2) ?_
        clear hK K hSS qq
        have hSS := m2
        clear m2
        try simp only [List.getElem_toArray, List.getElem_cons_succ, List.getElem_cons_zero, Act.put, List.setIfInBounds_toArray, List.set_cons_zero, List.set_cons_succ]
        refine wpAnyM_take (i := 18) (v := ?_) rfl (by kernel_rfl) (fun _ _ _ h => h) (Or.inl ⟨by rfl, ?_⟩) hSS ?_
        rotate_left 1
        · intro wS hwS
          have ew := EW.out.2.2.2; go_simp
          try with_reducible rfl
        simp only [List.getElem_toArray, List.getElem_cons_succ, List.getElem_cons_zero, Act.put, List.setIfInBounds_toArray, List.set_cons_zero, List.set_cons_succ]
        refine wpAnyM_take (i := 19) (v := ?_) rfl (by kernel_rfl) (fun _ _ _ h => h) (Or.inl ⟨by rfl, ?_⟩) hSS ?_
        rotate_left 1
        · intro wS hwS
          go_simp
          try with_reducible rfl
        simp only [List.getElem_toArray, List.getElem_cons_succ, List.getElem_cons_zero, Act.put, List.setIfInBounds_toArray, List.set_cons_zero, List.set_cons_succ]
        refine wpAnyM_two (i := 21) (j := 25) rfl rfl (by kernel_rfl) rfl rfl (fun K hK => ?_) (fun K hK => ?_)
        · go_simp
          with_reducible refine (SO.out _).mono ?_
          rintro e wE ⟨rfl, qq⟩
          have m2 := Qw.trans hSS qq
          refine hK _ _ (fun _ => m2) ?_
          clear hK K hSS qq
          have hSS := m2
          clear m2
          try simp only [List.getElem_toArray, List.getElem_cons_succ, List.getElem_cons_zero, Act.put, List.setIfInBounds_toArray, List.set_cons_zero, List.set_cons_succ]
          refine wpAnyM_take (i := 22) (v := ?_) rfl (by kernel_rfl) (fun _ _ _ h => h) (Or.inl ⟨by rfl, ?_⟩) hSS ?_
          rotate_left 1
          · intro wS hwS
            go_simp
            try with_reducible rfl
          simp only [List.getElem_toArray, List.getElem_cons_succ, List.getElem_cons_zero, Act.put, List.setIfInBounds_toArray, List.set_cons_zero, List.set_cons_succ]
          refine wpAnyM_take (i := 23) (v := ?_) rfl (by kernel_rfl) (fun _ _ _ h => h) (Or.inl ⟨by rfl, ?_⟩) hSS ?_
          rotate_left 1
          · intro wS hwS
            go_simp
            try with_reducible rfl
          simp only [List.getElem_toArray, List.getElem_cons_succ, List.getElem_cons_zero, Act.put, List.setIfInBounds_toArray, List.set_cons_zero, List.set_cons_succ]
          refine wpAnyM_take (i := 24) (v := ?_) rfl (by kernel_rfl) (fun _ _ _ h => h) (Or.inl ⟨by rfl, ?_⟩) hSS ?_
          rotate_left 1
          · intro wS hwS
            go_simp
            try with_reducible rfl
          simp only [List.getElem_toArray, List.getElem_cons_succ, List.getElem_cons_zero, Act.put, List.setIfInBounds_toArray, List.set_cons_zero, List.set_cons_succ]
          refine wpAnyM_one (i := 25) rfl (by kernel_rfl) rfl (fun K hK => ?_)
          go_simp
          refine hK _ _ (fun _ => Qw.al hSS _) ?_
          obtain ⟨wn, B28, en, eN, hb, m2, xx, mm⟩ := al_namedA hSS #[.int .i64 0, .int .i64 0, .int .i64 0] 23
          have g28 := Lib.hid hb
          have X28 := Lib.hid xx
          rw [en, eN]
          clear hK K hSS en eN mm xx hb
          have hSS := m2
          clear m2
          try simp only [List.getElem_toArray, List.getElem_cons_succ, List.getElem_cons_zero, Act.put, List.setIfInBounds_toArray, List.set_cons_zero, List.set_cons_succ]
          refine wpAnyM_one (i := 26) rfl (by kernel_rfl) rfl (fun K hK => ?_)
          have z0 := X28.out.v0
          have y0 := X28.out.free 0
          have z1 := X28.out.v1
          have y1 := X28.out.free 1
          have z2 := X28.out.v2
          have y2 := X28.out.free 2
          go_simp
          have hZ := X28.out.st3 (.int .i64 C0) (.int .i64 C1) (.int .i64 C2)
          have m2 := Qw.stA3 hSS g28.out (.int .i64 C0) (.int .i64 C1) (.int .i64 C2)
          replace X28 := Lib.hid hZ
          refine hK _ _ (fun _ => m2) ?_
          clear hK K hSS hZ z0 y0 z1 y1 z2 y2
          have hSS := m2
          clear m2
          try simp only [List.getElem_toArray, List.getElem_cons_succ, List.getElem_cons_zero, Act.put, List.setIfInBounds_toArray, List.set_cons_zero, List.set_cons_succ]
          refine wpAnyM_one (i := 27) rfl (by kernel_rfl) rfl (fun K hK => ?_)
          go_simp
          refine hK _ _ (fun h => absurd h (by decide)) ?_
          clear hK K
          try simp only [List.getElem_toArray, List.getElem_cons_succ, List.getElem_cons_zero, Act.put, List.setIfInBounds_toArray, List.set_cons_zero, List.set_cons_succ]
          refine wpAnyM_done (by kernel_rfl) ?_ _
          have n28_6 := Lib.hid (Nat.ne_of_gt (Nat.lt_of_lt_of_le X6.out.lt g28.out))
          have m28_6 := Lib.hid (Nat.ne_of_lt (Nat.lt_of_lt_of_le X6.out.lt g28.out))
          have n28_7 := Lib.hid (Nat.ne_of_gt (Nat.lt_of_lt_of_le X7.out.lt g28.out))
          have m28_7 := Lib.hid (Nat.ne_of_lt (Nat.lt_of_lt_of_le X7.out.lt g28.out))
          have n28_10 := Lib.hid (Nat.ne_of_gt (Nat.lt_of_lt_of_le X10.out.lt g28.out))
          have m28_10 := Lib.hid (Nat.ne_of_lt (Nat.lt_of_lt_of_le X10.out.lt g28.out))
          have n28_13 := Lib.hid (Nat.ne_of_gt (Nat.lt_of_lt_of_le X13.out.lt g28.out))
          have m28_13 := Lib.hid (Nat.ne_of_lt (Nat.lt_of_lt_of_le X13.out.lt g28.out))
          have n28_22 := Lib.hid (Nat.ne_of_gt (Nat.lt_of_lt_of_le X22.out.lt g28.out))
          have m28_22 := Lib.hid (Nat.ne_of_lt (Nat.lt_of_lt_of_le X22.out.lt g28.out))
          have n28_25 := Lib.hid (Nat.ne_of_gt (Nat.lt_of_lt_of_le X25.out.lt g28.out))
          have m28_25 := Lib.hid (Nat.ne_of_lt (Nat.lt_of_lt_of_le X25.out.lt g28.out))
          replace X6 := Lib.hid (X6.out.kept hSS)
          replace X7 := Lib.hid (X7.out.kept hSS)
          replace X10 := Lib.hid (X10.out.kept hSS)
          replace X13 := Lib.hid (X13.out.kept hSS)
          replace X22 := Lib.hid (X22.out.kept hSS)
          replace X25 := Lib.hid (X25.out.kept hSS)
          have h28 := Lib.hid (Nat.le_trans QQ.out.size g28.out)
          replace QQ := Lib.hid (Qw.trans QQ.out hSS)
          clear hSS
          go_wp2_with (first | ((with_reducible refine ld_vec 28 ?_ X28.out ?_); (rfl)) | (go_at_call 45; ((with_reducible refine (CO.out _).mono ?_); rintro e w22 ⟨rfl, qq⟩; replace X6 := Lib.hid (X6.out.kept qq); replace X7 := Lib.hid (X7.out.kept qq); replace X10 := Lib.hid (X10.out.kept qq); replace X13 := Lib.hid (X13.out.kept qq); replace X22 := Lib.hid (X22.out.kept qq); replace X25 := Lib.hid (X25.out.kept qq); replace X28 := Lib.hid (X28.out.kept qq); replace QQ := Lib.hid (Qw.trans QQ.out qq); clear qq)) | ((with_reducible refine st_vec (x := ?_) (y := ?_) (z := ?_) 10 151 ?_ ?_ X10.out ?_); rotate_left 3; (rfl); (rfl); intro w23 xx qf ot; replace X6 := Lib.hid (ot _ _ _ m10_6.out X6.out); replace X7 := Lib.hid (ot _ _ _ m10_7.out X7.out); replace X13 := Lib.hid (ot _ _ _ n13_10.out X13.out); replace X22 := Lib.hid (ot _ _ _ n22_10.out X22.out); replace X25 := Lib.hid (ot _ _ _ n25_10.out X25.out); replace X28 := Lib.hid (ot _ _ _ n28_10.out X28.out); replace QQ := Lib.hid (qf _ QQ.out h10.out); replace X10 := Lib.hid xx; clear xx qf ot))
          have c10_0 := X10.out.v0
          have c10_1 := X10.out.v1
          have c10_2 := X10.out.v2
          exact bodyPost_ret (v := .tuple #[.agg #[.int .i64 V0, .int .i64 V1, .int .i64 V2], .int .i64 EE]) (by simp [results, Try.results21, go_sem, c10_0, c10_1, c10_2]) rfl ⟨rfl, QQ.out⟩
        · go_simp
          refine hK _ _ (fun _ => Qw.al hSS _) ?_
          obtain ⟨wn, B28, en, eN, hb, m2, xx, mm⟩ := al_namedA hSS #[.int .i64 0, .int .i64 0, .int .i64 0] 23
          have g28 := Lib.hid hb
          have X28 := Lib.hid xx
          rw [en, eN]
          clear hK K hSS en eN mm xx hb
          have hSS := m2
          clear m2
          try simp only [List.getElem_toArray, List.getElem_cons_succ, List.getElem_cons_zero, Act.put, List.setIfInBounds_toArray, List.set_cons_zero, List.set_cons_succ]
          refine wpAnyM_one (i := 21) rfl (by kernel_rfl) rfl (fun K hK => ?_)
          go_simp
          with_reducible refine (SO.out _).mono ?_
          rintro e wE ⟨rfl, qq⟩
          replace X28 := Lib.hid (X28.out.kept qq)
          have m2 := Qw.trans hSS qq
          refine hK _ _ (fun _ => m2) ?_
          clear hK K hSS qq
          have hSS := m2
          clear m2
          try simp only [List.getElem_toArray, List.getElem_cons_succ, List.getElem_cons_zero, Act.put, List.setIfInBounds_toArray, List.set_cons_zero, List.set_cons_succ]
          refine wpAnyM_take (i := 22) (v := ?_) rfl (by kernel_rfl) (fun _ _ _ h => h) (Or.inl ⟨by rfl, ?_⟩) hSS ?_
          rotate_left 1
          · intro wS hwS
            go_simp
            try with_reducible rfl
          simp only [List.getElem_toArray, List.getElem_cons_succ, List.getElem_cons_zero, Act.put, List.setIfInBounds_toArray, List.set_cons_zero, List.set_cons_succ]
          refine wpAnyM_take (i := 23) (v := ?_) rfl (by kernel_rfl) (fun _ _ _ h => h) (Or.inl ⟨by rfl, ?_⟩) hSS ?_
          rotate_left 1
          · intro wS hwS
            go_simp
            try with_reducible rfl
          simp only [List.getElem_toArray, List.getElem_cons_succ, List.getElem_cons_zero, Act.put, List.setIfInBounds_toArray, List.set_cons_zero, List.set_cons_succ]
          refine wpAnyM_take (i := 24) (v := ?_) rfl (by kernel_rfl) (fun _ _ _ h => h) (Or.inl ⟨by rfl, ?_⟩) hSS ?_
          rotate_left 1
          · intro wS hwS
            go_simp
            try with_reducible rfl
          simp only [List.getElem_toArray, List.getElem_cons_succ, List.getElem_cons_zero, Act.put, List.setIfInBounds_toArray, List.set_cons_zero, List.set_cons_succ]
          refine wpAnyM_one (i := 26) rfl (by kernel_rfl) rfl (fun K hK => ?_)
          have z0 := X28.out.v0
          have y0 := X28.out.free 0
          have z1 := X28.out.v1
          have y1 := X28.out.free 1
          have z2 := X28.out.v2
          have y2 := X28.out.free 2
          go_simp
          have hZ := X28.out.st3 (.int .i64 C0) (.int .i64 C1) (.int .i64 C2)
          have m2 := Qw.stA3 hSS g28.out (.int .i64 C0) (.int .i64 C1) (.int .i64 C2)
          replace X28 := Lib.hid hZ
          refine hK _ _ (fun _ => m2) ?_
          clear hK K hSS hZ z0 y0 z1 y1 z2 y2
          have hSS := m2
          clear m2
          try simp only [List.getElem_toArray, List.getElem_cons_succ, List.getElem_cons_zero, Act.put, List.setIfInBounds_toArray, List.set_cons_zero, List.set_cons_succ]
          refine wpAnyM_one (i := 27) rfl (by kernel_rfl) rfl (fun K hK => ?_)
          go_simp
          refine hK _ _ (fun h => absurd h (by decide)) ?_
          clear hK K
          try simp only [List.getElem_toArray, List.getElem_cons_succ, List.getElem_cons_zero, Act.put, List.setIfInBounds_toArray, List.set_cons_zero, List.set_cons_succ]
          refine wpAnyM_done (by kernel_rfl) ?_ _
          have n28_6 := Lib.hid (Nat.ne_of_gt (Nat.lt_of_lt_of_le X6.out.lt g28.out))
          have m28_6 := Lib.hid (Nat.ne_of_lt (Nat.lt_of_lt_of_le X6.out.lt g28.out))
          have n28_7 := Lib.hid (Nat.ne_of_gt (Nat.lt_of_lt_of_le X7.out.lt g28.out))
          have m28_7 := Lib.hid (Nat.ne_of_lt (Nat.lt_of_lt_of_le X7.out.lt g28.out))
          have n28_10 := Lib.hid (Nat.ne_of_gt (Nat.lt_of_lt_of_le X10.out.lt g28.out))
          have m28_10 := Lib.hid (Nat.ne_of_lt (Nat.lt_of_lt_of_le X10.out.lt g28.out))
          have n28_13 := Lib.hid (Nat.ne_of_gt (Nat.lt_of_lt_of_le X13.out.lt g28.out))
          have m28_13 := Lib.hid (Nat.ne_of_lt (Nat.lt_of_lt_of_le X13.out.lt g28.out))
          have n28_22 := Lib.hid (Nat.ne_of_gt (Nat.lt_of_lt_of_le X22.out.lt g28.out))
          have m28_22 := Lib.hid (Nat.ne_of_lt (Nat.lt_of_lt_of_le X22.out.lt g28.out))
          have n28_25 := Lib.hid (Nat.ne_of_gt (Nat.lt_of_lt_of_le X25.out.lt g28.out))
          have m28_25 := Lib.hid (Nat.ne_of_lt (Nat.lt_of_lt_of_le X25.out.lt g28.out))
          replace X6 := Lib.hid (X6.out.kept hSS)
          replace X7 := Lib.hid (X7.out.kept hSS)
          replace X10 := Lib.hid (X10.out.kept hSS)
          replace X13 := Lib.hid (X13.out.kept hSS)
          replace X22 := Lib.hid (X22.out.kept hSS)
          replace X25 := Lib.hid (X25.out.kept hSS)
          have h28 := Lib.hid (Nat.le_trans QQ.out.size g28.out)
          replace QQ := Lib.hid (Qw.trans QQ.out hSS)
          clear hSS
          go_wp2_with (first | ((with_reducible refine ld_vec 28 ?_ X28.out ?_); (rfl)) | (go_at_call 45; ((with_reducible refine (CO.out _).mono ?_); rintro e w22 ⟨rfl, qq⟩; replace X6 := Lib.hid (X6.out.kept qq); replace X7 := Lib.hid (X7.out.kept qq); replace X10 := Lib.hid (X10.out.kept qq); replace X13 := Lib.hid (X13.out.kept qq); replace X22 := Lib.hid (X22.out.kept qq); replace X25 := Lib.hid (X25.out.kept qq); replace X28 := Lib.hid (X28.out.kept qq); replace QQ := Lib.hid (Qw.trans QQ.out qq); clear qq)) | ((with_reducible refine st_vec (x := ?_) (y := ?_) (z := ?_) 10 151 ?_ ?_ X10.out ?_); rotate_left 3; (rfl); (rfl); intro w23 xx qf ot; replace X6 := Lib.hid (ot _ _ _ m10_6.out X6.out); replace X7 := Lib.hid (ot _ _ _ m10_7.out X7.out); replace X13 := Lib.hid (ot _ _ _ n13_10.out X13.out); replace X22 := Lib.hid (ot _ _ _ n22_10.out X22.out); replace X25 := Lib.hid (ot _ _ _ n25_10.out X25.out); replace X28 := Lib.hid (ot _ _ _ n28_10.out X28.out); replace QQ := Lib.hid (qf _ QQ.out h10.out); replace X10 := Lib.hid xx; clear xx qf ot))
          have c10_0 := X10.out.v0
          have c10_1 := X10.out.v1
          have c10_2 := X10.out.v2
          exact bodyPost_ret (v := .tuple #[.agg #[.int .i64 V0, .int .i64 V1, .int .i64 V2], .int .i64 EE]) (by simp [results, Try.results21, go_sem, c10_0, c10_1, c10_2]) rfl ⟨rfl, QQ.out⟩
      · go_simp
        refine hK _ _ (fun _ => Qw.al hSS _) ?_
        obtain ⟨wn, B28, en, eN, hb, m2, xx, mm⟩ := al_namedA hSS #[.int .i64 0, .int .i64 0, .int .i64 0] 23
        have g28 := Lib.hid hb
        have X28 := Lib.hid xx
        rw [en, eN]
        clear hK K hSS en eN mm xx hb
        have hSS := m2
        clear m2
        try simp only [List.getElem_toArray, List.getElem_cons_succ, List.getElem_cons_zero, Act.put, List.setIfInBounds_toArray, List.set_cons_zero, List.set_cons_succ]
        refine wpAnyM_one (i := 14) rfl (by kernel_rfl) rfl (fun K hK => ?_)
        go_simp
        with_reducible refine (M2.out _).mono ?_
        rintro e wE ⟨rfl, qq⟩
        replace X28 := Lib.hid (X28.out.kept qq)
        have m2 := Qw.trans hSS qq
        refine hK _ _ (fun _ => m2) ?_
        clear hK K hSS qq
        have hSS := m2
        clear m2
        try simp only [List.getElem_toArray, List.getElem_cons_succ, List.getElem_cons_zero, Act.put, List.setIfInBounds_toArray, List.set_cons_zero, List.set_cons_succ]
        refine wpAnyM_take (i := 18) (v := ?_) rfl (by kernel_rfl) (fun _ _ _ h => h) (Or.inl ⟨by rfl, ?_⟩) hSS ?_
        rotate_left 1
        · intro wS hwS
          have ew := EW.out.2.2.2; go_simp
          try with_reducible rfl
        simp only [List.getElem_toArray, List.getElem_cons_succ, List.getElem_cons_zero, Act.put, List.setIfInBounds_toArray, List.set_cons_zero, List.set_cons_succ]
        refine wpAnyM_take (i := 19) (v := ?_) rfl (by kernel_rfl) (fun _ _ _ h => h) (Or.inl ⟨by rfl, ?_⟩) hSS ?_
        rotate_left 1
        · intro wS hwS
          go_simp
          try with_reducible rfl
        simp only [List.getElem_toArray, List.getElem_cons_succ, List.getElem_cons_zero, Act.put, List.setIfInBounds_toArray, List.set_cons_zero, List.set_cons_succ]
        refine wpAnyM_one (i := 21) rfl (by kernel_rfl) rfl (fun K hK => ?_)
        go_simp
        with_reducible refine (SO.out _).mono ?_
        rintro e wE ⟨rfl, qq⟩
        replace X28 := Lib.hid (X28.out.kept qq)
        have m2 := Qw.trans hSS qq
        refine hK _ _ (fun _ => m2) ?_
        clear hK K hSS qq
        have hSS := m2
        clear m2
        try simp only [List.getElem_toArray, List.getElem_cons_succ, List.getElem_cons_zero, Act.put, List.setIfInBounds_toArray, List.set_cons_zero, List.set_cons_succ]
        refine wpAnyM_take (i := 22) (v := ?_) rfl (by kernel_rfl) (fun _ _ _ h => h) (Or.inl ⟨by rfl, ?_⟩) hSS ?_
        rotate_left 1
        · intro wS hwS
          go_simp
          try with_reducible rfl
        simp only [List.getElem_toArray, List.getElem_cons_succ, List.getElem_cons_zero, Act.put, List.setIfInBounds_toArray, List.set_cons_zero, List.set_cons_succ]
        refine wpAnyM_take (i := 23) (v := ?_) rfl (by kernel_rfl) (fun _ _ _ h => h) (Or.inl ⟨by rfl, ?_⟩) hSS ?_
        rotate_left 1
        · intro wS hwS
          go_simp
          try with_reducible rfl
        simp only [List.getElem_toArray, List.getElem_cons_succ, List.getElem_cons_zero, Act.put, List.setIfInBounds_toArray, List.set_cons_zero, List.set_cons_succ]
        refine wpAnyM_take (i := 24) (v := ?_) rfl (by kernel_rfl) (fun _ _ _ h => h) (Or.inl ⟨by rfl, ?_⟩) hSS ?_
        rotate_left 1
        · intro wS hwS
          go_simp
          try with_reducible rfl
        simp only [List.getElem_toArray, List.getElem_cons_succ, List.getElem_cons_zero, Act.put, List.setIfInBounds_toArray, List.set_cons_zero, List.set_cons_succ]
        refine wpAnyM_one (i := 26) rfl (by kernel_rfl) rfl (fun K hK => ?_)
        have z0 := X28.out.v0
        have y0 := X28.out.free 0
        have z1 := X28.out.v1
        have y1 := X28.out.free 1
        have z2 := X28.out.v2
        have y2 := X28.out.free 2
        go_simp
        have hZ := X28.out.st3 (.int .i64 C0) (.int .i64 C1) (.int .i64 C2)
        have m2 := Qw.stA3 hSS g28.out (.int .i64 C0) (.int .i64 C1) (.int .i64 C2)
        replace X28 := Lib.hid hZ
        refine hK _ _ (fun _ => m2) ?_
        clear hK K hSS hZ z0 y0 z1 y1 z2 y2
        have hSS := m2
        clear m2
        try simp only [List.getElem_toArray, List.getElem_cons_succ, List.getElem_cons_zero, Act.put, List.setIfInBounds_toArray, List.set_cons_zero, List.set_cons_succ]
        refine wpAnyM_one (i := 27) rfl (by kernel_rfl) rfl (fun K hK => ?_)
        go_simp
        refine hK _ _ (fun h => absurd h (by decide)) ?_
        clear hK K
        try simp only [List.getElem_toArray, List.getElem_cons_succ, List.getElem_cons_zero, Act.put, List.setIfInBounds_toArray, List.set_cons_zero, List.set_cons_succ]
        refine wpAnyM_done (by kernel_rfl) ?_ _
        have n28_6 := Lib.hid (Nat.ne_of_gt (Nat.lt_of_lt_of_le X6.out.lt g28.out))
        have m28_6 := Lib.hid (Nat.ne_of_lt (Nat.lt_of_lt_of_le X6.out.lt g28.out))
        have n28_7 := Lib.hid (Nat.ne_of_gt (Nat.lt_of_lt_of_le X7.out.lt g28.out))
        have m28_7 := Lib.hid (Nat.ne_of_lt (Nat.lt_of_lt_of_le X7.out.lt g28.out))
        have n28_10 := Lib.hid (Nat.ne_of_gt (Nat.lt_of_lt_of_le X10.out.lt g28.out))
        have m28_10 := Lib.hid (Nat.ne_of_lt (Nat.lt_of_lt_of_le X10.out.lt g28.out))
        have n28_13 := Lib.hid (Nat.ne_of_gt (Nat.lt_of_lt_of_le X13.out.lt g28.out))
        have m28_13 := Lib.hid (Nat.ne_of_lt (Nat.lt_of_lt_of_le X13.out.lt g28.out))
        have n28_22 := Lib.hid (Nat.ne_of_gt (Nat.lt_of_lt_of_le X22.out.lt g28.out))
        have m28_22 := Lib.hid (Nat.ne_of_lt (Nat.lt_of_lt_of_le X22.out.lt g28.out))
        have n28_25 := Lib.hid (Nat.ne_of_gt (Nat.lt_of_lt_of_le X25.out.lt g28.out))
        have m28_25 := Lib.hid (Nat.ne_of_lt (Nat.lt_of_lt_of_le X25.out.lt g28.out))
        replace X6 := Lib.hid (X6.out.kept hSS)
        replace X7 := Lib.hid (X7.out.kept hSS)
        replace X10 := Lib.hid (X10.out.kept hSS)
        replace X13 := Lib.hid (X13.out.kept hSS)
        replace X22 := Lib.hid (X22.out.kept hSS)
        replace X25 := Lib.hid (X25.out.kept hSS)
        have h28 := Lib.hid (Nat.le_trans QQ.out.size g28.out)
        replace QQ := Lib.hid (Qw.trans QQ.out hSS)
        clear hSS
        go_wp2_with (first | ((with_reducible refine ld_vec 28 ?_ X28.out ?_); (rfl)) | (go_at_call 45; ((with_reducible refine (CO.out _).mono ?_); rintro e w22 ⟨rfl, qq⟩; replace X6 := Lib.hid (X6.out.kept qq); replace X7 := Lib.hid (X7.out.kept qq); replace X10 := Lib.hid (X10.out.kept qq); replace X13 := Lib.hid (X13.out.kept qq); replace X22 := Lib.hid (X22.out.kept qq); replace X25 := Lib.hid (X25.out.kept qq); replace X28 := Lib.hid (X28.out.kept qq); replace QQ := Lib.hid (Qw.trans QQ.out qq); clear qq)) | ((with_reducible refine st_vec (x := ?_) (y := ?_) (z := ?_) 10 151 ?_ ?_ X10.out ?_); rotate_left 3; (rfl); (rfl); intro w23 xx qf ot; replace X6 := Lib.hid (ot _ _ _ m10_6.out X6.out); replace X7 := Lib.hid (ot _ _ _ m10_7.out X7.out); replace X13 := Lib.hid (ot _ _ _ n13_10.out X13.out); replace X22 := Lib.hid (ot _ _ _ n22_10.out X22.out); replace X25 := Lib.hid (ot _ _ _ n25_10.out X25.out); replace X28 := Lib.hid (ot _ _ _ n28_10.out X28.out); replace QQ := Lib.hid (qf _ QQ.out h10.out); replace X10 := Lib.hid xx; clear xx qf ot))
        have c10_0 := X10.out.v0
        have c10_1 := X10.out.v1
        have c10_2 := X10.out.v2
        exact bodyPost_ret (v := .tuple #[.agg #[.int .i64 V0, .int .i64 V1, .int .i64 V2], .int .i64 EE]) (by simp [results, Try.results21, go_sem, c10_0, c10_1, c10_2]) rfl ⟨rfl, QQ.out⟩
    · go_simp
      refine hK _ _ (fun _ => Qw.al hSS _) ?_
      obtain ⟨wn, B28, en, eN, hb, m2, xx, mm⟩ := al_namedA hSS #[.int .i64 0, .int .i64 0, .int .i64 0] 23
      have g28 := Lib.hid hb
      have X28 := Lib.hid xx
      rw [en, eN]
      clear hK K hSS en eN mm xx hb
      have hSS := m2
      clear m2
      try simp only [List.getElem_toArray, List.getElem_cons_succ, List.getElem_cons_zero, Act.put, List.setIfInBounds_toArray, List.set_cons_zero, List.set_cons_succ]
      refine wpAnyM_one (i := 5) rfl (by kernel_rfl) rfl (fun K hK => ?_)
      go_simp
      with_reducible refine (M1.out _).mono ?_
      rintro e wE ⟨rfl, qq⟩
      replace X28 := Lib.hid (X28.out.kept qq)
      have m2 := Qw.trans hSS qq
      refine hK _ _ (fun _ => m2) ?_
      clear hK K hSS qq
      have hSS := m2
      clear m2
      try simp only [List.getElem_toArray, List.getElem_cons_succ, List.getElem_cons_zero, Act.put, List.setIfInBounds_toArray, List.set_cons_zero, List.set_cons_succ]
      refine wpAnyM_take (i := 9) (v := ?_) rfl (by kernel_rfl) (fun _ _ _ h => h) (Or.inl ⟨by rfl, ?_⟩) hSS ?_
      rotate_left 1
      · intro wS hwS
        have ew := EW.out.2.1; go_simp
        try with_reducible rfl
      simp only [List.getElem_toArray, List.getElem_cons_succ, List.getElem_cons_zero, Act.put, List.setIfInBounds_toArray, List.set_cons_zero, List.set_cons_succ]
      refine wpAnyM_one (i := 14) rfl (by kernel_rfl) rfl (fun K hK => ?_)
      go_simp
      with_reducible refine (M2.out _).mono ?_
      rintro e wE ⟨rfl, qq⟩
      replace X28 := Lib.hid (X28.out.kept qq)
      have m2 := Qw.trans hSS qq
      refine hK _ _ (fun _ => m2) ?_
      clear hK K hSS qq
      have hSS := m2
      clear m2
      try simp only [List.getElem_toArray, List.getElem_cons_succ, List.getElem_cons_zero, Act.put, List.setIfInBounds_toArray, List.set_cons_zero, List.set_cons_succ]
      refine wpAnyM_take (i := 18) (v := ?_) rfl (by kernel_rfl) (fun _ _ _ h => h) (Or.inl ⟨by rfl, ?_⟩) hSS ?_
      rotate_left 1
      · intro wS hwS
        have ew := EW.out.2.2.2; go_simp
        try with_reducible rfl
      simp only [List.getElem_toArray, List.getElem_cons_succ, List.getElem_cons_zero, Act.put, List.setIfInBounds_toArray, List.set_cons_zero, List.set_cons_succ]
      refine wpAnyM_take (i := 19) (v := ?_) rfl (by kernel_rfl) (fun _ _ _ h => h) (Or.inl ⟨by rfl, ?_⟩) hSS ?_
      rotate_left 1
      · intro wS hwS
        go_simp
        try with_reducible rfl
      simp only [List.getElem_toArray, List.getElem_cons_succ, List.getElem_cons_zero, Act.put, List.setIfInBounds_toArray, List.set_cons_zero, List.set_cons_succ]
      refine wpAnyM_one (i := 21) rfl (by kernel_rfl) rfl (fun K hK => ?_)
      go_simp
      with_reducible refine (SO.out _).mono ?_
      rintro e wE ⟨rfl, qq⟩
      replace X28 := Lib.hid (X28.out.kept qq)
      have m2 := Qw.trans hSS qq
      refine hK _ _ (fun _ => m2) ?_
      clear hK K hSS qq
      have hSS := m2
      clear m2
      try simp only [List.getElem_toArray, List.getElem_cons_succ, List.getElem_cons_zero, Act.put, List.setIfInBounds_toArray, List.set_cons_zero, List.set_cons_succ]
      refine wpAnyM_take (i := 22) (v := ?_) rfl (by kernel_rfl) (fun _ _ _ h => h) (Or.inl ⟨by rfl, ?_⟩) hSS ?_
      rotate_left 1
      · intro wS hwS
        go_simp
        try with_reducible rfl
      simp only [List.getElem_toArray, List.getElem_cons_succ, List.getElem_cons_zero, Act.put, List.setIfInBounds_toArray, List.set_cons_zero, List.set_cons_succ]
      refine wpAnyM_take (i := 23) (v := ?_) rfl (by kernel_rfl) (fun _ _ _ h => h) (Or.inl ⟨by rfl, ?_⟩) hSS ?_
      rotate_left 1
      · intro wS hwS
        go_simp
        try with_reducible rfl
      simp only [List.getElem_toArray, List.getElem_cons_succ, List.getElem_cons_zero, Act.put, List.setIfInBounds_toArray, List.set_cons_zero, List.set_cons_succ]
      refine wpAnyM_take (i := 24) (v := ?_) rfl (by kernel_rfl) (fun _ _ _ h => h) (Or.inl ⟨by rfl, ?_⟩) hSS ?_
      rotate_left 1
      · intro wS hwS
        go_simp
        try with_reducible rfl
      simp only [List.getElem_toArray, List.getElem_cons_succ, List.getElem_cons_zero, Act.put, List.setIfInBounds_toArray, List.set_cons_zero, List.set_cons_succ]
      refine wpAnyM_one (i := 26) rfl (by kernel_rfl) rfl (fun K hK => ?_)
      have z0 := X28.out.v0
      have y0 := X28.out.free 0
      have z1 := X28.out.v1
      have y1 := X28.out.free 1
      have z2 := X28.out.v2
      have y2 := X28.out.free 2
      go_simp
      have hZ := X28.out.st3 (.int .i64 C0) (.int .i64 C1) (.int .i64 C2)
      have m2 := Qw.stA3 hSS g28.out (.int .i64 C0) (.int .i64 C1) (.int .i64 C2)
      replace X28 := Lib.hid hZ
      refine hK _ _ (fun _ => m2) ?_
      clear hK K hSS hZ z0 y0 z1 y1 z2 y2
      have hSS := m2
      clear m2
      try simp only [List.getElem_toArray, List.getElem_cons_succ, List.getElem_cons_zero, Act.put, List.setIfInBounds_toArray, List.set_cons_zero, List.set_cons_succ]
      refine wpAnyM_one (i := 27) rfl (by kernel_rfl) rfl (fun K hK => ?_)
      go_simp
      refine hK _ _ (fun h => absurd h (by decide)) ?_
      clear hK K
      try simp only [List.getElem_toArray, List.getElem_cons_succ, List.getElem_cons_zero, Act.put, List.setIfInBounds_toArray, List.set_cons_zero, List.set_cons_succ]
      refine wpAnyM_done (by kernel_rfl) ?_ _
      have n28_6 := Lib.hid (Nat.ne_of_gt (Nat.lt_of_lt_of_le X6.out.lt g28.out))
      have m28_6 := Lib.hid (Nat.ne_of_lt (Nat.lt_of_lt_of_le X6.out.lt g28.out))
      have n28_7 := Lib.hid (Nat.ne_of_gt (Nat.lt_of_lt_of_le X7.out.lt g28.out))
      have m28_7 := Lib.hid (Nat.ne_of_lt (Nat.lt_of_lt_of_le X7.out.lt g28.out))
      have n28_10 := Lib.hid (Nat.ne_of_gt (Nat.lt_of_lt_of_le X10.out.lt g28.out))
      have m28_10 := Lib.hid (Nat.ne_of_lt (Nat.lt_of_lt_of_le X10.out.lt g28.out))
      have n28_13 := Lib.hid (Nat.ne_of_gt (Nat.lt_of_lt_of_le X13.out.lt g28.out))
      have m28_13 := Lib.hid (Nat.ne_of_lt (Nat.lt_of_lt_of_le X13.out.lt g28.out))
      have n28_22 := Lib.hid (Nat.ne_of_gt (Nat.lt_of_lt_of_le X22.out.lt g28.out))
      have m28_22 := Lib.hid (Nat.ne_of_lt (Nat.lt_of_lt_of_le X22.out.lt g28.out))
      have n28_25 := Lib.hid (Nat.ne_of_gt (Nat.lt_of_lt_of_le X25.out.lt g28.out))
      have m28_25 := Lib.hid (Nat.ne_of_lt (Nat.lt_of_lt_of_le X25.out.lt g28.out))
      replace X6 := Lib.hid (X6.out.kept hSS)
      replace X7 := Lib.hid (X7.out.kept hSS)
      replace X10 := Lib.hid (X10.out.kept hSS)
      replace X13 := Lib.hid (X13.out.kept hSS)
      replace X22 := Lib.hid (X22.out.kept hSS)
      replace X25 := Lib.hid (X25.out.kept hSS)
      have h28 := Lib.hid (Nat.le_trans QQ.out.size g28.out)
      replace QQ := Lib.hid (Qw.trans QQ.out hSS)
      clear hSS
      go_wp2_with (first | ((with_reducible refine ld_vec 28 ?_ X28.out ?_); (rfl)) | (go_at_call 45; ((with_reducible refine (CO.out _).mono ?_); rintro e w22 ⟨rfl, qq⟩; replace X6 := Lib.hid (X6.out.kept qq); replace X7 := Lib.hid (X7.out.kept qq); replace X10 := Lib.hid (X10.out.kept qq); replace X13 := Lib.hid (X13.out.kept qq); replace X22 := Lib.hid (X22.out.kept qq); replace X25 := Lib.hid (X25.out.kept qq); replace X28 := Lib.hid (X28.out.kept qq); replace QQ := Lib.hid (Qw.trans QQ.out qq); clear qq)) | ((with_reducible refine st_vec (x := ?_) (y := ?_) (z := ?_) 10 151 ?_ ?_ X10.out ?_); rotate_left 3; (rfl); (rfl); intro w23 xx qf ot; replace X6 := Lib.hid (ot _ _ _ m10_6.out X6.out); replace X7 := Lib.hid (ot _ _ _ m10_7.out X7.out); replace X13 := Lib.hid (ot _ _ _ n13_10.out X13.out); replace X22 := Lib.hid (ot _ _ _ n22_10.out X22.out); replace X25 := Lib.hid (ot _ _ _ n25_10.out X25.out); replace X28 := Lib.hid (ot _ _ _ n28_10.out X28.out); replace QQ := Lib.hid (qf _ QQ.out h10.out); replace X10 := Lib.hid xx; clear xx qf ot))
      have c10_0 := X10.out.v0
      have c10_1 := X10.out.v1
      have c10_2 := X10.out.v2
      exact bodyPost_ret (v := .tuple #[.agg #[.int .i64 V0, .int .i64 V1, .int .i64 V2], .int .i64 EE]) (by simp [results, Try.results21, go_sem, c10_0, c10_1, c10_2]) rfl ⟨rfl, QQ.out⟩
end Go.Proofs.Ytihmifdadikhaaa
