import Derived.Test.YtihmifdadikhaaaGD
import Derived.Test.YtihmifdadikhaaaGB

/- The walks of the small functions of package arc. -/
set_option linter.unusedVariables false
set_option linter.unusedSimpArgs false
namespace Go.Proofs.Ytihmifdadikhaaa
open Go.RowKit

theorem fu_bd {p x y z L : Int} (l0 : 0 ≤ L) (x1 : -L ≤ x) (x2 : x ≤ L) (y1 : -L ≤ y) (y2 : y ≤ L) (z1 : -L ≤ z) (z2 : z ≤ L) : (-L ≤ fu p x y z ∧ fu p x y z ≤ L) ∧ (-L ≤ fw p x y z ∧ fw p x y z ≤ L) ∧ (-L ≤ fh p x y z ∧ fh p x y z ≤ L) := Ac.flat_le l0 ⟨x1, x2⟩ ⟨y1, y2⟩ ⟨z1, z2⟩
set_option maxRecDepth 100000 in
set_option maxHeartbeats 2000000 in
theorem apDiff (p x y z a b c : Int) (p1 : -9223372036854775808 ≤ p) (p2 : p ≤ 9223372036854775807) (x1 : -4194304 ≤ x) (x2 : x ≤ 4194304) (y1 : -4194304 ≤ y) (y2 : y ≤ 4194304) (z1 : -4194304 ≤ z) (z2 : z ≤ 4194304) (a1 : -4194304 ≤ a) (a2 : a ≤ 4194304) (b1 : -4194304 ≤ b) (b2 : b ≤ 4194304) (c1 : -4194304 ≤ c) (c2 : c ≤ 4194304) (w : World) :
    Calls Try.prog 57 #[.int .i64 p, .agg #[.int .i64 x, .int .i64 y, .int .i64 z], .agg #[.int .i64 a, .int .i64 b, .int .i64 c]] w fun e w' => e = .returned (.agg #[.int .i64 (fu p x y z - fu p a b c), .int .i64 (fw p x y z - fw p a b c)]) ∧ Qw w w' := by
  have f1 := fun w => vc_flat p x y z p1 p2 w
  have f2 := fun w => vc_flat p a b c p1 p2 w
  obtain ⟨⟨g1, g2⟩, ⟨g3, g4⟩, _⟩ := fu_bd (p := p) (by decide) x1 x2 y1 y2 z1 z2
  obtain ⟨⟨g5, g6⟩, ⟨g7, g8⟩, _⟩ := fu_bd (p := p) (by decide) a1 a2 b1 b2 c1 c2
  generalize fu p x y z = u1 at *
  generalize fw p x y z = v1 at *
  generalize fh p x y z = h1 at *
  generalize fu p a b c = u2 at *
  generalize fw p a b c = v2 at *
  generalize fh p a b c = h2 at *
  have F1 := Lib.hid f1; have F2 := Lib.hid f2
  clear f1 f2
  have QQ : Hid (Qw w w) := Lib.hid (Qw.refl w)
  go_enter Try.func57, Try.ntmps57
  go_upto_region 1 with (first | (refine box_vec 1 rfl ?_; intro w1 B4 hb xx qq; have h4 : w.heap.size ≤ B4 := Nat.le_trans QQ.out.size hb; replace QQ := Lib.hid (Qw.trans QQ.out qq); have X4 := Lib.hid xx; clear xx qq hb) | (refine box_vec 2 rfl ?_; intro w2 B5 hb xx qq; have n5_4 : B5 ≠ B4 := (by have := X4.out.lt; omega); have m5_4 : B4 ≠ B5 := (by have := X4.out.lt; omega); have h5 : w.heap.size ≤ B5 := Nat.le_trans QQ.out.size hb; replace X4 := Lib.hid (X4.out.kept qq); replace QQ := Lib.hid (Qw.trans QQ.out qq); have X5 := Lib.hid xx; clear xx qq hb) | (refine al_pt ?_; intro w3 B6 hb xx qq; have n6_4 : B6 ≠ B4 := (by have := X4.out.lt; omega); have n6_5 : B6 ≠ B5 := (by have := X5.out.lt; omega); have m6_4 : B4 ≠ B6 := (by have := X4.out.lt; omega); have m6_5 : B5 ≠ B6 := (by have := X5.out.lt; omega); have h6 : w.heap.size ≤ B6 := Nat.le_trans QQ.out.size hb; replace X4 := Lib.hid (X4.out.kept qq); replace X5 := Lib.hid (X5.out.kept qq); replace QQ := Lib.hid (Qw.trans QQ.out qq); have X6 := Lib.hid xx; clear xx qq hb))
  go_upto_region 2 with (first | (refine ld_vec 4 rfl X4.out ?_) | (go_at_call 43; ((with_reducible refine (F1.out _).mono ?_); rintro e w4 ⟨rfl, qq⟩; replace X4 := Lib.hid (X4.out.kept qq); replace X5 := Lib.hid (X5.out.kept qq); replace X6 := Lib.hid (X6.out.kept qq); replace QQ := Lib.hid (Qw.trans QQ.out qq); clear qq)) | (refine al_pt ?_; intro w5 B7 hb xx qq; have n7_4 : B7 ≠ B4 := (by have := X4.out.lt; omega); have n7_5 : B7 ≠ B5 := (by have := X5.out.lt; omega); have n7_6 : B7 ≠ B6 := (by have := X6.out.lt; omega); have m7_4 : B4 ≠ B7 := (by have := X4.out.lt; omega); have m7_5 : B5 ≠ B7 := (by have := X5.out.lt; omega); have m7_6 : B6 ≠ B7 := (by have := X6.out.lt; omega); have h7 : w.heap.size ≤ B7 := Nat.le_trans QQ.out.size hb; replace X4 := Lib.hid (X4.out.kept qq); replace X5 := Lib.hid (X5.out.kept qq); replace X6 := Lib.hid (X6.out.kept qq); replace QQ := Lib.hid (Qw.trans QQ.out qq); have X7 := Lib.hid xx; clear xx qq hb) | (refine st_pt 7 17 rfl rfl X7.out ?_; intro w6 xx qf ot; replace X4 := Lib.hid (ot _ _ _ m7_4 X4.out); replace X5 := Lib.hid (ot _ _ _ m7_5 X5.out); replace X6 := Lib.hid (ot _ _ _ m7_6 X6.out); replace QQ := Lib.hid (qf _ QQ.out h7); replace X7 := Lib.hid xx; clear xx qf ot))
  go_upto_region 3 with (first | (refine ld_vec 5 rfl X5.out ?_) | (go_at_call 43; ((with_reducible refine (F2.out _).mono ?_); rintro e w7 ⟨rfl, qq⟩; replace X4 := Lib.hid (X4.out.kept qq); replace X5 := Lib.hid (X5.out.kept qq); replace X6 := Lib.hid (X6.out.kept qq); replace X7 := Lib.hid (X7.out.kept qq); replace QQ := Lib.hid (Qw.trans QQ.out qq); clear qq)) | (refine al_pt ?_; intro w8 B10 hb xx qq; have n10_4 : B10 ≠ B4 := (by have := X4.out.lt; omega); have n10_5 : B10 ≠ B5 := (by have := X5.out.lt; omega); have n10_6 : B10 ≠ B6 := (by have := X6.out.lt; omega); have n10_7 : B10 ≠ B7 := (by have := X7.out.lt; omega); have m10_4 : B4 ≠ B10 := (by have := X4.out.lt; omega); have m10_5 : B5 ≠ B10 := (by have := X5.out.lt; omega); have m10_6 : B6 ≠ B10 := (by have := X6.out.lt; omega); have m10_7 : B7 ≠ B10 := (by have := X7.out.lt; omega); have h10 : w.heap.size ≤ B10 := Nat.le_trans QQ.out.size hb; replace X4 := Lib.hid (X4.out.kept qq); replace X5 := Lib.hid (X5.out.kept qq); replace X6 := Lib.hid (X6.out.kept qq); replace X7 := Lib.hid (X7.out.kept qq); replace QQ := Lib.hid (Qw.trans QQ.out qq); have X10 := Lib.hid xx; clear xx qq hb) | (refine st_pt 10 24 rfl rfl X10.out ?_; intro w9 xx qf ot; replace X4 := Lib.hid (ot _ _ _ m10_4 X4.out); replace X5 := Lib.hid (ot _ _ _ m10_5 X5.out); replace X6 := Lib.hid (ot _ _ _ m10_6 X6.out); replace X7 := Lib.hid (ot _ _ _ m10_7 X7.out); replace QQ := Lib.hid (qf _ QQ.out h10); replace X10 := Lib.hid xx; clear xx qf ot))
  have c7_0 := X7.out.p0
  have c7_1 := X7.out.p1
  have c10_0 := X10.out.p0
  have c10_1 := X10.out.p1
  go_wp2_with (refine st_pt 6 37 rfl rfl X6.out ?_; intro w10 xx qf ot; replace X4 := Lib.hid (ot _ _ _ m6_4 X4.out); replace X5 := Lib.hid (ot _ _ _ m6_5 X5.out); replace X7 := Lib.hid (ot _ _ _ n7_6 X7.out); replace X10 := Lib.hid (ot _ _ _ n10_6 X10.out); replace QQ := Lib.hid (qf _ QQ.out h6); replace X6 := Lib.hid xx; clear xx qf ot)
  have c6_0 := X6.out.p0
  have c6_1 := X6.out.p1
  exact bodyPost_ret (v := .agg #[.int .i64 (u1 - u2), .int .i64 (v1 - v2)]) (by simp [results, Try.results57, go_sem, c6_0, c6_1]) rfl ⟨rfl, QQ.out⟩
set_option maxRecDepth 100000 in
set_option maxHeartbeats 2000000 in
theorem apHeight (p x y z : Int) (p1 : -9223372036854775808 ≤ p) (p2 : p ≤ 9223372036854775807) (w : World) :
    Calls Try.prog 71 #[.int .i64 p, .agg #[.int .i64 x, .int .i64 y, .int .i64 z]] w fun e w' => e = .returned (.int .i64 (fh p x y z)) ∧ Qw w w' := by
  have f1 := fun w => vc_flat p x y z p1 p2 w
  generalize fu p x y z = u1 at *
  generalize fw p x y z = v1 at *
  generalize fh p x y z = h1 at *
  have F1 := Lib.hid f1
  clear f1
  have QQ : Hid (Qw w w) := Lib.hid (Qw.refl w)
  go_enter Try.func71, Try.ntmps71
  go_upto_region 1 with (refine box_vec 1 rfl ?_; intro w1 B3 hb xx qq; have h3 : w.heap.size ≤ B3 := Nat.le_trans QQ.out.size hb; replace QQ := Lib.hid (Qw.trans QQ.out qq); have X3 := Lib.hid xx; clear xx qq hb)
  go_upto_region 2 with (first | (refine ld_vec 3 rfl X3.out ?_) | (go_at_call 43; ((with_reducible refine (F1.out _).mono ?_); rintro e w2 ⟨rfl, qq⟩; replace X3 := Lib.hid (X3.out.kept qq); replace QQ := Lib.hid (Qw.trans QQ.out qq); clear qq)) | (refine al_pt ?_; intro w3 B5 hb xx qq; have n5_3 : B5 ≠ B3 := (by have := X3.out.lt; omega); have m5_3 : B3 ≠ B5 := (by have := X3.out.lt; omega); have h5 : w.heap.size ≤ B5 := Nat.le_trans QQ.out.size hb; replace X3 := Lib.hid (X3.out.kept qq); replace QQ := Lib.hid (Qw.trans QQ.out qq); have X5 := Lib.hid xx; clear xx qq hb) | (refine st_pt 5 12 rfl rfl X5.out ?_; intro w4 xx qf ot; replace X3 := Lib.hid (ot _ _ _ m5_3 X3.out); replace QQ := Lib.hid (qf _ QQ.out h5); replace X5 := Lib.hid xx; clear xx qf ot))
  go_wp2
  go_ret
  exact ⟨rfl, QQ.out⟩
set_option maxRecDepth 100000 in
set_option maxHeartbeats 2000000 in
theorem apPlane (p : Int) (p1 : -9223372036854775808 ≤ p) (p2 : p ≤ 9223372036854775807) (w : World) :
    Calls Try.prog 54 #[.int .i64 p] w fun e w' => e = .returned (.bool (pin p)) ∧ Qw w w' := by
  have f1 := fun w => vc_flat p 0 0 0 p1 p2 w
  generalize fu p 0 0 0 = u1 at *
  generalize fw p 0 0 0 = v1 at *
  generalize fh p 0 0 0 = h1 at *
  generalize pin p = bb at *
  have F1 := Lib.hid f1
  clear f1
  have QQ : Hid (Qw w w) := Lib.hid (Qw.refl w)
  go_enter Try.func54, Try.ntmps54
  go_upto_region 1 with fail
  go_upto_region 2 with (first | (go_at_call 43; ((with_reducible refine (F1.out _).mono ?_); rintro e w1 ⟨rfl, qq⟩; replace QQ := Lib.hid (Qw.trans QQ.out qq); clear qq)) | (refine al_pt ?_; intro w2 B3 hb xx qq; have h3 : w.heap.size ≤ B3 := Nat.le_trans QQ.out.size hb; replace QQ := Lib.hid (Qw.trans QQ.out qq); have X3 := Lib.hid xx; clear xx qq hb) | (refine st_pt 3 10 rfl rfl X3.out ?_; intro w3 xx qf ot; replace QQ := Lib.hid (qf _ QQ.out h3); replace X3 := Lib.hid xx; clear xx qf ot))
  go_wp2
  go_ret
  exact ⟨rfl, QQ.out⟩
def dirB (d : Int) : Bool := decide (d = 1) || decide (d = -1)
def radB (r : Int) : Bool := (decide (8 ≤ r) && decide (r ≤ 1048576)) || (decide (r ≤ -8) && decide (-1048576 ≤ r))
set_option maxRecDepth 100000 in
set_option maxHeartbeats 2000000 in
theorem apDir (d : Int) (d1 : -9223372036854775808 ≤ d) (d2 : d ≤ 9223372036854775807) (w : World) :
    Calls Try.prog 55 #[.int .i64 d] w fun e w' => e = .returned (.bool (dirB d)) ∧ Qw w w' := by
  by_cases k1 : d = 1
  · have e : dirB d = true := by simp [dirB, k1]
    have y : (d == 1) = true := by simpa using k1
    rw [e]
    clear e k1
    go_enter Try.func55, Try.ntmps55
    go_wp2
    go_ret
    exact ⟨rfl, Qw.refl _⟩
  · have y : (d == 1) = false := beq_eq_false_iff_ne.2 k1
    by_cases k2 : d = -1
    · have e : dirB d = true := by simp [dirB, k2]
      have z : (d == -1) = true := by simpa using k2
      rw [e]
      clear e k1 k2
      go_enter Try.func55, Try.ntmps55
      go_wp2
      go_ret
      exact ⟨rfl, Qw.refl _⟩
    · have e : dirB d = false := by simp [dirB, k1, k2]
      have z : (d == -1) = false := beq_eq_false_iff_ne.2 k2
      rw [e]
      clear e k1 k2
      go_enter Try.func55, Try.ntmps55
      go_wp2
      go_ret
      exact ⟨rfl, Qw.refl _⟩

set_option maxRecDepth 100000 in
set_option maxHeartbeats 2000000 in
theorem apRad (r : Int) (r1 : -9223372036854775808 ≤ r) (r2 : r ≤ 9223372036854775807) (w : World) :
    Calls Try.prog 56 #[.int .i64 r] w fun e w' => e = .returned (.bool (radB r)) ∧ Qw w w' := by
  have main : ∀ bb, radB r = bb → Calls Try.prog 56 #[.int .i64 r] w fun e w' => e = .returned (.bool bb) ∧ Qw w w' := by
    intro bb hb
    by_cases k1 : 8 ≤ r
    · by_cases k2 : r ≤ 1048576
      · obtain rfl : true = bb := by rw [← hb]; simp [radB, k1, k2]
        clear hb
        go_enter Try.func56, Try.ntmps56
        go_wp2
        go_ret
        exact ⟨rfl, Qw.refl _⟩
      · obtain rfl : false = bb := by rw [← hb]; simp [radB, k1, k2]; omega
        have k3 : ¬ r ≤ -8 := by omega
        clear hb
        go_enter Try.func56, Try.ntmps56
        go_wp2
        go_ret
        exact ⟨rfl, Qw.refl _⟩
    · by_cases k3 : r ≤ -8
      · by_cases k4 : -1048576 ≤ r
        · obtain rfl : true = bb := by rw [← hb]; simp [radB, k3, k4]
          clear hb
          go_enter Try.func56, Try.ntmps56
          go_wp2
          go_ret
          exact ⟨rfl, Qw.refl _⟩
        · obtain rfl : false = bb := by rw [← hb]; simp [radB, k1, k4]
          clear hb
          go_enter Try.func56, Try.ntmps56
          go_wp2
          go_ret
          exact ⟨rfl, Qw.refl _⟩
      · obtain rfl : false = bb := by rw [← hb]; simp [radB, k1, k3]
        clear hb
        go_enter Try.func56, Try.ntmps56
        go_wp2
        go_ret
        exact ⟨rfl, Qw.refl _⟩
  exact main _ rfl

theorem shr_one (n : Int) : n >>> 1 = n / 2 := by rw [Int.shiftRight_eq_div_pow]; rfl
set_option maxRecDepth 100000 in
set_option maxHeartbeats 2000000 in
theorem apMid (a b : Int) (a1 : -4194304 ≤ a) (a2 : a ≤ 4194304) (b1 : -4194304 ≤ b) (b2 : b ≤ 4194304) (w : World) :
    Calls Try.prog 62 #[.int .i64 a, .int .i64 b] w fun e w' => e = .returned (.int .i64 ((a + b) / 2)) ∧ Qw w w' := by
  go_enter Try.func62, Try.ntmps62
  go_wp2
  go_ret
  exact ⟨by simp [shr_one], Qw.refl _⟩

/-- The coordinates that are returned, and the error. -/
def cdv (x y z n : Int) : Int := if wth x y z = true then n else 0
def cde (x y z : Int) : Int := if wth x y z = true then 0 else 3
set_option maxRecDepth 100000 in
set_option maxHeartbeats 2000000 in
theorem apCoord (x y z : Int) (x1 : -9223372036854775808 ≤ x) (x2 : x ≤ 9223372036854775807) (y1 : -9223372036854775808 ≤ y) (y2 : y ≤ 9223372036854775807) (z1 : -9223372036854775808 ≤ z) (z2 : z ≤ 9223372036854775807) (w : World) :
    Calls Try.prog 45 #[.agg #[.int .i64 x, .int .i64 y, .int .i64 z]] w fun e w' => e = .returned (.tuple #[.agg #[.int .i64 (cdv x y z x), .int .i64 (cdv x y z y), .int .i64 (cdv x y z z)], .int .i64 (cde x y z)]) ∧ Qw w w' := by
  have c := fun w => vc_within x y z x1 x2 y1 y2 z1 z2 w
  unfold cdv cde
  cases h : wth x y z
  · rw [h] at c
    simp only [Bool.false_eq_true, if_false]
    have C := Lib.hid c
    clear c h x1 x2 y1 y2 z1 z2
    have QQ : Hid (Qw w w) := Lib.hid (Qw.refl w)
    go_enter Try.func45, Try.ntmps45
    go_upto_region 1 with (first | (refine box_vec 0 rfl ?_; intro w1 B1 hb xx qq; have h1 : w.heap.size ≤ B1 := Nat.le_trans QQ.out.size hb; replace QQ := Lib.hid (Qw.trans QQ.out qq); have X1 := Lib.hid xx; clear xx qq hb) | (refine al_vec ?_; intro w2 B2 hb xx qq; have n2_1 : B2 ≠ B1 := (by have := X1.out.lt; omega); have m2_1 : B1 ≠ B2 := (by have := X1.out.lt; omega); have h2 : w.heap.size ≤ B2 := Nat.le_trans QQ.out.size hb; replace X1 := Lib.hid (X1.out.kept qq); replace QQ := Lib.hid (Qw.trans QQ.out qq); have X2 := Lib.hid xx; clear xx qq hb))
    go_upto_region 2 with (first | (refine ld_vec 1 rfl X1.out ?_) | (go_at_call 44; ((with_reducible refine (C.out _).mono ?_); rintro e w3 ⟨rfl, qq⟩; replace X1 := Lib.hid (X1.out.kept qq); replace X2 := Lib.hid (X2.out.kept qq); replace QQ := Lib.hid (Qw.trans QQ.out qq); clear qq)))
    go_wp2_with (refine st_vec 2 7 rfl rfl X2.out ?_; intro w4 xx qf ot; replace X1 := Lib.hid (ot _ _ _ m2_1 X1.out); replace QQ := Lib.hid (qf _ QQ.out h2); replace X2 := Lib.hid xx; clear xx qf ot)
    have c2_0 := X2.out.v0
    have c2_1 := X2.out.v1
    have c2_2 := X2.out.v2
    exact bodyPost_ret (v := .tuple #[.agg #[.int .i64 0, .int .i64 0, .int .i64 0], .int .i64 3]) (by simp [results, Try.results45, go_sem, c2_0, c2_1, c2_2]) rfl ⟨rfl, QQ.out⟩
  · rw [h] at c
    simp only [if_true]
    have C := Lib.hid c
    clear c h x1 x2 y1 y2 z1 z2
    have QQ : Hid (Qw w w) := Lib.hid (Qw.refl w)
    go_enter Try.func45, Try.ntmps45
    go_upto_region 1 with (first | (refine box_vec 0 rfl ?_; intro w1 B1 hb xx qq; have h1 : w.heap.size ≤ B1 := Nat.le_trans QQ.out.size hb; replace QQ := Lib.hid (Qw.trans QQ.out qq); have X1 := Lib.hid xx; clear xx qq hb) | (refine al_vec ?_; intro w2 B2 hb xx qq; have n2_1 : B2 ≠ B1 := (by have := X1.out.lt; omega); have m2_1 : B1 ≠ B2 := (by have := X1.out.lt; omega); have h2 : w.heap.size ≤ B2 := Nat.le_trans QQ.out.size hb; replace X1 := Lib.hid (X1.out.kept qq); replace QQ := Lib.hid (Qw.trans QQ.out qq); have X2 := Lib.hid xx; clear xx qq hb))
    go_upto_region 3 with (first | (refine ld_vec 1 rfl X1.out ?_) | (go_at_call 44; ((with_reducible refine (C.out _).mono ?_); rintro e w3 ⟨rfl, qq⟩; replace X1 := Lib.hid (X1.out.kept qq); replace X2 := Lib.hid (X2.out.kept qq); replace QQ := Lib.hid (Qw.trans QQ.out qq); clear qq)))
    go_wp2_with (first | (refine ld_vec 1 rfl X1.out ?_) | (refine st_vec 2 8 rfl rfl X2.out ?_; intro w4 xx qf ot; replace X1 := Lib.hid (ot _ _ _ m2_1 X1.out); replace QQ := Lib.hid (qf _ QQ.out h2); replace X2 := Lib.hid xx; clear xx qf ot))
    have c2_0 := X2.out.v0
    have c2_1 := X2.out.v1
    have c2_2 := X2.out.v2
    exact bodyPost_ret (v := .tuple #[.agg #[.int .i64 x, .int .i64 y, .int .i64 z], .int .i64 0]) (by simp [results, Try.results45, go_sem, c2_0, c2_1, c2_2]) rfl ⟨rfl, QQ.out⟩
end Go.Proofs.Ytihmifdadikhaaa

/- The walks of package arc: directions, lengths that fit, spokes that agree, Spokes, Inside, Tangent. -/
set_option linter.unusedVariables false
set_option linter.unusedSimpArgs false
namespace Go.Proofs.Ytihmifdadikhaaa
open Go.RowKit

theorem run_min2 (n m : Int) (w : World) : (Builtin.min_ #[3, 3] 3 #[.int .i64 n, .int .i64 m]).run Try.prog w = .ok (.int .i64 (Ac.lo2 n m)) w := by
  simp [Builtin.min_, Builtin.min2, Ac.lo2]
theorem run_max2 (n m : Int) (w : World) : (Builtin.max_ #[3, 3] 3 #[.int .i64 n, .int .i64 m]).run Try.prog w = .ok (.int .i64 (Ac.hi2 n m)) w := by
  simp [Builtin.max_, Builtin.max2, Ac.hi2]
set_option maxRecDepth 100000 in
set_option maxHeartbeats 2000000 in
theorem apCross (u v a b : Int) (u1 : -4194304 ≤ u) (u2 : u ≤ 4194304) (v1 : -4194304 ≤ v) (v2 : v ≤ 4194304) (a1 : -4194304 ≤ a) (a2 : a ≤ 4194304) (b1 : -4194304 ≤ b) (b2 : b ≤ 4194304) (w : World) :
    Calls Try.prog 101 #[.agg #[.int .i64 u, .int .i64 v], .agg #[.int .i64 a, .int .i64 b]] w fun e w' => e = .returned (.int .i64 (Ac.cr u v a b)) ∧ Qw w w' := by
  have c := fun w => vc_cross u v a b u1 u2 v1 v2 a1 a2 b1 b2 w
  change ∀ w, Calls Try.prog 112 #[.agg #[.int .i64 u, .int .i64 v], .agg #[.int .i64 a, .int .i64 b]] w fun e w' => e = .returned (.int .i64 (Ac.cr u v a b)) ∧ Qw w w' at c
  generalize Ac.cr u v a b = R at *
  have C := Lib.hid c
  clear c
  have QQ : Hid (Qw w w) := Lib.hid (Qw.refl w)
  go_enter Try.func101, Try.ntmps101
  go_upto_region 1 with (first | (refine box_dir 0 rfl ?_; intro w1 B2 hb xx qq; have h2 : w.heap.size ≤ B2 := Nat.le_trans QQ.out.size hb; replace QQ := Lib.hid (Qw.trans QQ.out qq); have X2 := Lib.hid xx; clear xx qq hb) | (refine box_dir 1 rfl ?_; intro w2 B3 hb xx qq; have n3_2 : B3 ≠ B2 := (by have := X2.out.lt; omega); have m3_2 : B2 ≠ B3 := (by have := X2.out.lt; omega); have h3 : w.heap.size ≤ B3 := Nat.le_trans QQ.out.size hb; replace X2 := Lib.hid (X2.out.kept qq); replace QQ := Lib.hid (Qw.trans QQ.out qq); have X3 := Lib.hid xx; clear xx qq hb))
  go_wp2_with (first | (refine ld_dir 2 rfl X2.out ?_) | (refine ld_dir 3 rfl X3.out ?_) | (go_at_call 112; ((with_reducible refine (C.out _).mono ?_); rintro e w3 ⟨rfl, qq⟩; replace X2 := Lib.hid (X2.out.kept qq); replace X3 := Lib.hid (X3.out.kept qq); replace QQ := Lib.hid (Qw.trans QQ.out qq); clear qq)))
  go_ret
  exact ⟨rfl, QQ.out⟩
set_option maxRecDepth 100000 in
set_option maxHeartbeats 2000000 in
theorem apMeets (u v a b : Int) (u1 : -4194304 ≤ u) (u2 : u ≤ 4194304) (v1 : -4194304 ≤ v) (v2 : v ≤ 4194304) (a1 : -4194304 ≤ a) (a2 : a ≤ 4194304) (b1 : -4194304 ≤ b) (b2 : b ≤ 4194304) (w : World) :
    Calls Try.prog 99 #[.agg #[.int .i64 u, .int .i64 v], .agg #[.int .i64 a, .int .i64 b]] w fun e w' => e = .returned (.int .i64 (Ac.mts (Ac.cr u v a b) (Ac.inn u v a b))) ∧ Qw w w' := by
  have c := fun w => apCross u v a b u1 u2 v1 v2 a1 a2 b1 b2 w
  have i := fun w => vc_inner u v a b u1 u2 v1 v2 a1 a2 b1 b2 w
  change ∀ w, Calls Try.prog 58 #[.agg #[.int .i64 u, .int .i64 v], .agg #[.int .i64 a, .int .i64 b]] w fun e w' => e = .returned (.int .i64 (Ac.inn u v a b)) ∧ Qw w w' at i
  generalize Ac.cr u v a b = X at *
  generalize Ac.inn u v a b = Y at *
  have C := Lib.hid c
  have I := Lib.hid i
  clear c i
  by_cases k1 : X < 0
  · have e : Ac.mts X Y = 2 := by unfold Ac.mts; rw [if_pos k1]
    rw [e]
    clear e
    have QQ : Hid (Qw w w) := Lib.hid (Qw.refl w)
    go_enter Try.func99, Try.ntmps99
    go_upto_region 1 with (first | (refine box_dir 0 rfl ?_; intro w1 B2 hb xx qq; have h2 : w.heap.size ≤ B2 := Nat.le_trans QQ.out.size hb; replace QQ := Lib.hid (Qw.trans QQ.out qq); have X2 := Lib.hid xx; clear xx qq hb) | (refine box_dir 1 rfl ?_; intro w2 B3 hb xx qq; have n3_2 : B3 ≠ B2 := (by have := X2.out.lt; omega); have m3_2 : B2 ≠ B3 := (by have := X2.out.lt; omega); have h3 : w.heap.size ≤ B3 := Nat.le_trans QQ.out.size hb; replace X2 := Lib.hid (X2.out.kept qq); replace QQ := Lib.hid (Qw.trans QQ.out qq); have X3 := Lib.hid xx; clear xx qq hb))
    go_upto_region 2 with (first | (refine ld_dir 2 rfl X2.out ?_) | (refine ld_dir 3 rfl X3.out ?_) | (go_at_call 101; ((with_reducible refine (C.out _).mono ?_); rintro e w3 ⟨rfl, qq⟩; replace X2 := Lib.hid (X2.out.kept qq); replace X3 := Lib.hid (X3.out.kept qq); replace QQ := Lib.hid (Qw.trans QQ.out qq); clear qq)))
    go_upto_region 3 with fail
    go_wp2_with fail
    go_ret
    first | exact ⟨rfl, QQ.out⟩ | exact ⟨ret_bl (by simp [*]), QQ.out⟩ | exact ⟨ret_bl (by simp; omega), QQ.out⟩
  by_cases k2 : 0 < X
  · have e : Ac.mts X Y = 1 := by unfold Ac.mts; rw [if_neg k1, if_pos (.inl k2)]
    rw [e]
    clear e
    have QQ : Hid (Qw w w) := Lib.hid (Qw.refl w)
    go_enter Try.func99, Try.ntmps99
    go_upto_region 1 with (first | (refine box_dir 0 rfl ?_; intro w1 B2 hb xx qq; have h2 : w.heap.size ≤ B2 := Nat.le_trans QQ.out.size hb; replace QQ := Lib.hid (Qw.trans QQ.out qq); have X2 := Lib.hid xx; clear xx qq hb) | (refine box_dir 1 rfl ?_; intro w2 B3 hb xx qq; have n3_2 : B3 ≠ B2 := (by have := X2.out.lt; omega); have m3_2 : B2 ≠ B3 := (by have := X2.out.lt; omega); have h3 : w.heap.size ≤ B3 := Nat.le_trans QQ.out.size hb; replace X2 := Lib.hid (X2.out.kept qq); replace QQ := Lib.hid (Qw.trans QQ.out qq); have X3 := Lib.hid xx; clear xx qq hb))
    go_upto_region 2 with (first | (refine ld_dir 2 rfl X2.out ?_) | (refine ld_dir 3 rfl X3.out ?_) | (go_at_call 101; ((with_reducible refine (C.out _).mono ?_); rintro e w3 ⟨rfl, qq⟩; replace X2 := Lib.hid (X2.out.kept qq); replace X3 := Lib.hid (X3.out.kept qq); replace QQ := Lib.hid (Qw.trans QQ.out qq); clear qq)))
    go_upto_region 4 with fail
    have c2_0 := X2.out.p0
    have c2_1 := X2.out.p1
    have c3_0 := X3.out.p0
    have c3_1 := X3.out.p1
    go_upto_region 5 with fail
    clear c2_0 c2_1 c3_0 c3_1
    go_wp2_with fail
    go_ret
    first | exact ⟨rfl, QQ.out⟩ | exact ⟨ret_bl (by simp [*]), QQ.out⟩ | exact ⟨ret_bl (by simp; omega), QQ.out⟩
  by_cases k3 : Y < 0
  · have e : Ac.mts X Y = 1 := by unfold Ac.mts; rw [if_neg k1, if_pos (.inr k3)]
    rw [e]
    clear e
    have QQ : Hid (Qw w w) := Lib.hid (Qw.refl w)
    go_enter Try.func99, Try.ntmps99
    go_upto_region 1 with (first | (refine box_dir 0 rfl ?_; intro w1 B2 hb xx qq; have h2 : w.heap.size ≤ B2 := Nat.le_trans QQ.out.size hb; replace QQ := Lib.hid (Qw.trans QQ.out qq); have X2 := Lib.hid xx; clear xx qq hb) | (refine box_dir 1 rfl ?_; intro w2 B3 hb xx qq; have n3_2 : B3 ≠ B2 := (by have := X2.out.lt; omega); have m3_2 : B2 ≠ B3 := (by have := X2.out.lt; omega); have h3 : w.heap.size ≤ B3 := Nat.le_trans QQ.out.size hb; replace X2 := Lib.hid (X2.out.kept qq); replace QQ := Lib.hid (Qw.trans QQ.out qq); have X3 := Lib.hid xx; clear xx qq hb))
    go_upto_region 2 with (first | (refine ld_dir 2 rfl X2.out ?_) | (refine ld_dir 3 rfl X3.out ?_) | (go_at_call 101; ((with_reducible refine (C.out _).mono ?_); rintro e w3 ⟨rfl, qq⟩; replace X2 := Lib.hid (X2.out.kept qq); replace X3 := Lib.hid (X3.out.kept qq); replace QQ := Lib.hid (Qw.trans QQ.out qq); clear qq)))
    go_upto_region 4 with fail
    have c2_0 := X2.out.p0
    have c2_1 := X2.out.p1
    have c3_0 := X3.out.p0
    have c3_1 := X3.out.p1
    go_upto_region 5 with (go_at_call 58; ((with_reducible refine (I.out _).mono ?_); rintro e w4 ⟨rfl, qq⟩; replace X2 := Lib.hid (X2.out.kept qq); replace X3 := Lib.hid (X3.out.kept qq); replace QQ := Lib.hid (Qw.trans QQ.out qq); clear qq))
    clear c2_0 c2_1 c3_0 c3_1
    go_wp2_with fail
    go_ret
    first | exact ⟨rfl, QQ.out⟩ | exact ⟨ret_bl (by simp [*]), QQ.out⟩ | exact ⟨ret_bl (by simp; omega), QQ.out⟩
  · have e : Ac.mts X Y = 0 := by unfold Ac.mts; rw [if_neg k1, if_neg (by omega)]
    rw [e]
    clear e
    have QQ : Hid (Qw w w) := Lib.hid (Qw.refl w)
    go_enter Try.func99, Try.ntmps99
    go_upto_region 1 with (first | (refine box_dir 0 rfl ?_; intro w1 B2 hb xx qq; have h2 : w.heap.size ≤ B2 := Nat.le_trans QQ.out.size hb; replace QQ := Lib.hid (Qw.trans QQ.out qq); have X2 := Lib.hid xx; clear xx qq hb) | (refine box_dir 1 rfl ?_; intro w2 B3 hb xx qq; have n3_2 : B3 ≠ B2 := (by have := X2.out.lt; omega); have m3_2 : B2 ≠ B3 := (by have := X2.out.lt; omega); have h3 : w.heap.size ≤ B3 := Nat.le_trans QQ.out.size hb; replace X2 := Lib.hid (X2.out.kept qq); replace QQ := Lib.hid (Qw.trans QQ.out qq); have X3 := Lib.hid xx; clear xx qq hb))
    go_upto_region 2 with (first | (refine ld_dir 2 rfl X2.out ?_) | (refine ld_dir 3 rfl X3.out ?_) | (go_at_call 101; ((with_reducible refine (C.out _).mono ?_); rintro e w3 ⟨rfl, qq⟩; replace X2 := Lib.hid (X2.out.kept qq); replace X3 := Lib.hid (X3.out.kept qq); replace QQ := Lib.hid (Qw.trans QQ.out qq); clear qq)))
    go_upto_region 4 with fail
    have c2_0 := X2.out.p0
    have c2_1 := X2.out.p1
    have c3_0 := X3.out.p0
    have c3_1 := X3.out.p1
    go_upto_region 6 with (go_at_call 58; ((with_reducible refine (I.out _).mono ?_); rintro e w4 ⟨rfl, qq⟩; replace X2 := Lib.hid (X2.out.kept qq); replace X3 := Lib.hid (X3.out.kept qq); replace QQ := Lib.hid (Qw.trans QQ.out qq); clear qq))
    clear c2_0 c2_1 c3_0 c3_1
    go_wp2_with fail
    go_ret
    first | exact ⟨rfl, QQ.out⟩ | exact ⟨ret_bl (by simp [*]), QQ.out⟩ | exact ⟨ret_bl (by simp; omega), QQ.out⟩
set_option maxRecDepth 100000 in
set_option maxHeartbeats 2000000 in
theorem apPasses (u v x y a b : Int) (u1 : -4194304 ≤ u) (u2 : u ≤ 4194304) (v1 : -4194304 ≤ v) (v2 : v ≤ 4194304) (x1 : -4194304 ≤ x) (x2 : x ≤ 4194304) (y1 : -4194304 ≤ y) (y2 : y ≤ 4194304) (a1 : -4194304 ≤ a) (a2 : a ≤ 4194304) (b1 : -4194304 ≤ b) (b2 : b ≤ 4194304) (w : World) :
    Calls Try.prog 75 #[.agg #[.int .i64 u, .int .i64 v], .agg #[.int .i64 x, .int .i64 y], .agg #[.int .i64 a, .int .i64 b]] w fun e w' => e = .returned (.bool (Ac.pas u v x y a b)) ∧ Qw w w' := by
  have m1 := fun w => apMeets u v x y u1 u2 v1 v2 x1 x2 y1 y2 w
  have m2 := fun w => apMeets u v a b u1 u2 v1 v2 a1 a2 b1 b2 w
  have c := fun w => apCross x y a b x1 x2 y1 y2 a1 a2 b1 b2 w
  unfold Ac.pas
  generalize Ac.mts (Ac.cr u v x y) (Ac.inn u v x y) = X at *
  generalize Ac.mts (Ac.cr u v a b) (Ac.inn u v a b) = Y at *
  generalize Ac.cr x y a b = Z at *
  have M1 := Lib.hid m1
  have M2 := Lib.hid m2
  have C := Lib.hid c
  clear m1 m2 c
  by_cases k1 : X < Y
  · have e : (decide (X < Y) || (decide (X = Y) && decide (0 ≤ Z))) = true := by simp [k1]
    rw [e]
    clear e
    have QQ : Hid (Qw w w) := Lib.hid (Qw.refl w)
    go_enter Try.func75, Try.ntmps75
    go_upto_region 1 with (first | (refine box_dir 0 rfl ?_; intro w1 B3 hb xx qq; have h3 : w.heap.size ≤ B3 := Nat.le_trans QQ.out.size hb; replace QQ := Lib.hid (Qw.trans QQ.out qq); have X3 := Lib.hid xx; clear xx qq hb) | (refine box_dir 1 rfl ?_; intro w2 B4 hb xx qq; have n4_3 : B4 ≠ B3 := (by have := X3.out.lt; omega); have m4_3 : B3 ≠ B4 := (by have := X3.out.lt; omega); have h4 : w.heap.size ≤ B4 := Nat.le_trans QQ.out.size hb; replace X3 := Lib.hid (X3.out.kept qq); replace QQ := Lib.hid (Qw.trans QQ.out qq); have X4 := Lib.hid xx; clear xx qq hb) | (refine box_dir 2 rfl ?_; intro w3 B5 hb xx qq; have n5_3 : B5 ≠ B3 := (by have := X3.out.lt; omega); have n5_4 : B5 ≠ B4 := (by have := X4.out.lt; omega); have m5_3 : B3 ≠ B5 := (by have := X3.out.lt; omega); have m5_4 : B4 ≠ B5 := (by have := X4.out.lt; omega); have h5 : w.heap.size ≤ B5 := Nat.le_trans QQ.out.size hb; replace X3 := Lib.hid (X3.out.kept qq); replace X4 := Lib.hid (X4.out.kept qq); replace QQ := Lib.hid (Qw.trans QQ.out qq); have X5 := Lib.hid xx; clear xx qq hb))
    have c3_0 := X3.out.kp0
    have c3_1 := X3.out.kp1
    have c4_0 := X4.out.kp0
    have c4_1 := X4.out.kp1
    have c5_0 := X5.out.kp0
    have c5_1 := X5.out.kp1
    refine region_kept (by kernel_rfl) (by kernel_rfl) ?_
    repeat (go_big_quiet_step (first | (go_at_call 99; with_reducible exact Kept.call (M1.out _)) | (go_at_call 99; with_reducible exact Kept.call (M2.out _))))
    refine wpQuiet_nil ?_
    intro w4 qq
    clear c3_0 c3_1 c4_0 c4_1 c5_0 c5_1
    replace X3 := Lib.hid (X3.out.kept qq)
    replace X4 := Lib.hid (X4.out.kept qq)
    replace X5 := Lib.hid (X5.out.kept qq)
    replace QQ := Lib.hid (Qw.trans QQ.out qq)
    clear qq
    have c4_0 := X4.out.p0
    have c4_1 := X4.out.p1
    have c5_0 := X5.out.p0
    have c5_1 := X5.out.p1
    go_wp2_with fail
    go_ret
    first | exact ⟨rfl, QQ.out⟩ | exact ⟨ret_bl (by simp [*]), QQ.out⟩ | exact ⟨ret_bl (by simp; omega), QQ.out⟩
  by_cases k2 : X = Y
  · have z : (X == Y) = true := by simpa using k2
    by_cases k3 : 0 ≤ Z
    · have e : (decide (X < Y) || (decide (X = Y) && decide (0 ≤ Z))) = true := by simp [k2, k3]
      rw [e]
      clear e k2
      have QQ : Hid (Qw w w) := Lib.hid (Qw.refl w)
      go_enter Try.func75, Try.ntmps75
      go_upto_region 1 with (first | (refine box_dir 0 rfl ?_; intro w1 B3 hb xx qq; have h3 : w.heap.size ≤ B3 := Nat.le_trans QQ.out.size hb; replace QQ := Lib.hid (Qw.trans QQ.out qq); have X3 := Lib.hid xx; clear xx qq hb) | (refine box_dir 1 rfl ?_; intro w2 B4 hb xx qq; have n4_3 : B4 ≠ B3 := (by have := X3.out.lt; omega); have m4_3 : B3 ≠ B4 := (by have := X3.out.lt; omega); have h4 : w.heap.size ≤ B4 := Nat.le_trans QQ.out.size hb; replace X3 := Lib.hid (X3.out.kept qq); replace QQ := Lib.hid (Qw.trans QQ.out qq); have X4 := Lib.hid xx; clear xx qq hb) | (refine box_dir 2 rfl ?_; intro w3 B5 hb xx qq; have n5_3 : B5 ≠ B3 := (by have := X3.out.lt; omega); have n5_4 : B5 ≠ B4 := (by have := X4.out.lt; omega); have m5_3 : B3 ≠ B5 := (by have := X3.out.lt; omega); have m5_4 : B4 ≠ B5 := (by have := X4.out.lt; omega); have h5 : w.heap.size ≤ B5 := Nat.le_trans QQ.out.size hb; replace X3 := Lib.hid (X3.out.kept qq); replace X4 := Lib.hid (X4.out.kept qq); replace QQ := Lib.hid (Qw.trans QQ.out qq); have X5 := Lib.hid xx; clear xx qq hb))
      have c3_0 := X3.out.kp0
      have c3_1 := X3.out.kp1
      have c4_0 := X4.out.kp0
      have c4_1 := X4.out.kp1
      have c5_0 := X5.out.kp0
      have c5_1 := X5.out.kp1
      refine region_kept (by kernel_rfl) (by kernel_rfl) ?_
      repeat (go_big_quiet_step (first | (go_at_call 99; with_reducible exact Kept.call (M1.out _)) | (go_at_call 99; with_reducible exact Kept.call (M2.out _))))
      refine wpQuiet_nil ?_
      intro w4 qq
      clear c3_0 c3_1 c4_0 c4_1 c5_0 c5_1
      replace X3 := Lib.hid (X3.out.kept qq)
      replace X4 := Lib.hid (X4.out.kept qq)
      replace X5 := Lib.hid (X5.out.kept qq)
      replace QQ := Lib.hid (Qw.trans QQ.out qq)
      clear qq
      have c4_0 := X4.out.p0
      have c4_1 := X4.out.p1
      have c5_0 := X5.out.p0
      have c5_1 := X5.out.p1
      go_wp2_with (go_at_call 101; ((with_reducible refine (C.out _).mono ?_); rintro e w5 ⟨rfl, qq⟩; replace X3 := Lib.hid (X3.out.kept qq); replace X4 := Lib.hid (X4.out.kept qq); replace X5 := Lib.hid (X5.out.kept qq); replace QQ := Lib.hid (Qw.trans QQ.out qq); clear qq))
      go_ret
      first | exact ⟨rfl, QQ.out⟩ | exact ⟨ret_bl (by simp [*]), QQ.out⟩ | exact ⟨ret_bl (by simp; omega), QQ.out⟩
    · have e : (decide (X < Y) || (decide (X = Y) && decide (0 ≤ Z))) = false := by simp [k1, k3]
      rw [e]
      clear e k2
      have QQ : Hid (Qw w w) := Lib.hid (Qw.refl w)
      go_enter Try.func75, Try.ntmps75
      go_upto_region 1 with (first | (refine box_dir 0 rfl ?_; intro w1 B3 hb xx qq; have h3 : w.heap.size ≤ B3 := Nat.le_trans QQ.out.size hb; replace QQ := Lib.hid (Qw.trans QQ.out qq); have X3 := Lib.hid xx; clear xx qq hb) | (refine box_dir 1 rfl ?_; intro w2 B4 hb xx qq; have n4_3 : B4 ≠ B3 := (by have := X3.out.lt; omega); have m4_3 : B3 ≠ B4 := (by have := X3.out.lt; omega); have h4 : w.heap.size ≤ B4 := Nat.le_trans QQ.out.size hb; replace X3 := Lib.hid (X3.out.kept qq); replace QQ := Lib.hid (Qw.trans QQ.out qq); have X4 := Lib.hid xx; clear xx qq hb) | (refine box_dir 2 rfl ?_; intro w3 B5 hb xx qq; have n5_3 : B5 ≠ B3 := (by have := X3.out.lt; omega); have n5_4 : B5 ≠ B4 := (by have := X4.out.lt; omega); have m5_3 : B3 ≠ B5 := (by have := X3.out.lt; omega); have m5_4 : B4 ≠ B5 := (by have := X4.out.lt; omega); have h5 : w.heap.size ≤ B5 := Nat.le_trans QQ.out.size hb; replace X3 := Lib.hid (X3.out.kept qq); replace X4 := Lib.hid (X4.out.kept qq); replace QQ := Lib.hid (Qw.trans QQ.out qq); have X5 := Lib.hid xx; clear xx qq hb))
      have c3_0 := X3.out.kp0
      have c3_1 := X3.out.kp1
      have c4_0 := X4.out.kp0
      have c4_1 := X4.out.kp1
      have c5_0 := X5.out.kp0
      have c5_1 := X5.out.kp1
      refine region_kept (by kernel_rfl) (by kernel_rfl) ?_
      repeat (go_big_quiet_step (first | (go_at_call 99; with_reducible exact Kept.call (M1.out _)) | (go_at_call 99; with_reducible exact Kept.call (M2.out _))))
      refine wpQuiet_nil ?_
      intro w4 qq
      clear c3_0 c3_1 c4_0 c4_1 c5_0 c5_1
      replace X3 := Lib.hid (X3.out.kept qq)
      replace X4 := Lib.hid (X4.out.kept qq)
      replace X5 := Lib.hid (X5.out.kept qq)
      replace QQ := Lib.hid (Qw.trans QQ.out qq)
      clear qq
      have c4_0 := X4.out.p0
      have c4_1 := X4.out.p1
      have c5_0 := X5.out.p0
      have c5_1 := X5.out.p1
      go_wp2_with (go_at_call 101; ((with_reducible refine (C.out _).mono ?_); rintro e w5 ⟨rfl, qq⟩; replace X3 := Lib.hid (X3.out.kept qq); replace X4 := Lib.hid (X4.out.kept qq); replace X5 := Lib.hid (X5.out.kept qq); replace QQ := Lib.hid (Qw.trans QQ.out qq); clear qq))
      go_ret
      first | exact ⟨rfl, QQ.out⟩ | exact ⟨ret_bl (by simp [*]), QQ.out⟩ | exact ⟨ret_bl (by simp; omega), QQ.out⟩
  · have z : (X == Y) = false := beq_eq_false_iff_ne.2 k2
    have e : (decide (X < Y) || (decide (X = Y) && decide (0 ≤ Z))) = false := by simp [k1, k2]
    rw [e]
    clear e k2
    have QQ : Hid (Qw w w) := Lib.hid (Qw.refl w)
    go_enter Try.func75, Try.ntmps75
    go_upto_region 1 with (first | (refine box_dir 0 rfl ?_; intro w1 B3 hb xx qq; have h3 : w.heap.size ≤ B3 := Nat.le_trans QQ.out.size hb; replace QQ := Lib.hid (Qw.trans QQ.out qq); have X3 := Lib.hid xx; clear xx qq hb) | (refine box_dir 1 rfl ?_; intro w2 B4 hb xx qq; have n4_3 : B4 ≠ B3 := (by have := X3.out.lt; omega); have m4_3 : B3 ≠ B4 := (by have := X3.out.lt; omega); have h4 : w.heap.size ≤ B4 := Nat.le_trans QQ.out.size hb; replace X3 := Lib.hid (X3.out.kept qq); replace QQ := Lib.hid (Qw.trans QQ.out qq); have X4 := Lib.hid xx; clear xx qq hb) | (refine box_dir 2 rfl ?_; intro w3 B5 hb xx qq; have n5_3 : B5 ≠ B3 := (by have := X3.out.lt; omega); have n5_4 : B5 ≠ B4 := (by have := X4.out.lt; omega); have m5_3 : B3 ≠ B5 := (by have := X3.out.lt; omega); have m5_4 : B4 ≠ B5 := (by have := X4.out.lt; omega); have h5 : w.heap.size ≤ B5 := Nat.le_trans QQ.out.size hb; replace X3 := Lib.hid (X3.out.kept qq); replace X4 := Lib.hid (X4.out.kept qq); replace QQ := Lib.hid (Qw.trans QQ.out qq); have X5 := Lib.hid xx; clear xx qq hb))
    have c3_0 := X3.out.kp0
    have c3_1 := X3.out.kp1
    have c4_0 := X4.out.kp0
    have c4_1 := X4.out.kp1
    have c5_0 := X5.out.kp0
    have c5_1 := X5.out.kp1
    refine region_kept (by kernel_rfl) (by kernel_rfl) ?_
    repeat (go_big_quiet_step (first | (go_at_call 99; with_reducible exact Kept.call (M1.out _)) | (go_at_call 99; with_reducible exact Kept.call (M2.out _))))
    refine wpQuiet_nil ?_
    intro w4 qq
    clear c3_0 c3_1 c4_0 c4_1 c5_0 c5_1
    replace X3 := Lib.hid (X3.out.kept qq)
    replace X4 := Lib.hid (X4.out.kept qq)
    replace X5 := Lib.hid (X5.out.kept qq)
    replace QQ := Lib.hid (Qw.trans QQ.out qq)
    clear qq
    have c4_0 := X4.out.p0
    have c4_1 := X4.out.p1
    have c5_0 := X5.out.p0
    have c5_1 := X5.out.p1
    go_wp2_with fail
    go_ret
    first | exact ⟨rfl, QQ.out⟩ | exact ⟨ret_bl (by simp [*]), QQ.out⟩ | exact ⟨ret_bl (by simp; omega), QQ.out⟩
set_option maxRecDepth 100000 in
set_option maxHeartbeats 2000000 in
theorem apFit (n m : Int) (n1 : 0 ≤ n) (n2 : n ≤ 70368744177664) (m1 : 0 ≤ m) (m2 : m ≤ 70368744177664) (w : World) :
    Calls Try.prog 72 #[.int .i64 n, .int .i64 m] w fun e w' => e = .returned (.bool (Ac.fit n m)) ∧ Qw w w' := by
  have r1 := run_min2 n m
  have r2 := run_max2 n m
  have b : 0 ≤ Ac.lo2 n m ∧ Ac.lo2 n m ≤ 70368744177664 ∧ 0 ≤ Ac.hi2 n m ∧ Ac.hi2 n m ≤ 70368744177664 := by unfold Ac.lo2 Ac.hi2; (repeat' split) <;> omega
  unfold Ac.fit
  generalize Ac.lo2 n m = l at *
  generalize Ac.hi2 n m = h at *
  obtain ⟨b1, b2, b3, b4⟩ := b
  have c := fun w => cmpW (h - l - 16) (h - l - 16) 64 l (by omega) (by omega) (by omega) (by omega) (by omega) (by omega) (by omega) (by omega) w
  generalize cmpI ((h - l - 16) * (h - l - 16)) (64 * l) = R at *
  have C := Lib.hid c
  clear c
  by_cases k1 : 64 ≤ l
  · by_cases k2 : h - l - 16 ≤ 0
    · have e : (decide (64 ≤ l) && (decide (h - l - 16 ≤ 0) || decide (R ≤ 0))) = true := by simp [k1, k2]
      rw [e]
      clear e
      have QQ : Hid (Qw w w) := Lib.hid (Qw.refl w)
      go_enter Try.func72, Try.ntmps72
      go_wp2_with fail
      go_ret
      first | exact ⟨rfl, QQ.out⟩ | exact ⟨ret_bl (by simp [*]), QQ.out⟩ | exact ⟨ret_bl (by simp; omega), QQ.out⟩
    · by_cases k3 : R ≤ 0
      · have e : (decide (64 ≤ l) && (decide (h - l - 16 ≤ 0) || decide (R ≤ 0))) = true := by simp [k1, k3]
        rw [e]
        clear e
        have QQ : Hid (Qw w w) := Lib.hid (Qw.refl w)
        go_enter Try.func72, Try.ntmps72
        go_wp2_with (go_at_call 98; ((with_reducible refine (C.out _).mono ?_); rintro e w1 ⟨rfl, qq⟩; replace QQ := Lib.hid (Qw.trans QQ.out qq); clear qq))
        go_ret
        first | exact ⟨rfl, QQ.out⟩ | exact ⟨ret_bl (by simp [*]), QQ.out⟩ | exact ⟨ret_bl (by simp; omega), QQ.out⟩
      · have e : (decide (64 ≤ l) && (decide (h - l - 16 ≤ 0) || decide (R ≤ 0))) = false := by simp [k2, k3]
        rw [e]
        clear e
        have QQ : Hid (Qw w w) := Lib.hid (Qw.refl w)
        go_enter Try.func72, Try.ntmps72
        go_wp2_with (go_at_call 98; ((with_reducible refine (C.out _).mono ?_); rintro e w1 ⟨rfl, qq⟩; replace QQ := Lib.hid (Qw.trans QQ.out qq); clear qq))
        go_ret
        first | exact ⟨rfl, QQ.out⟩ | exact ⟨ret_bl (by simp [*]), QQ.out⟩ | exact ⟨ret_bl (by simp; omega), QQ.out⟩
  · have e : (decide (64 ≤ l) && (decide (h - l - 16 ≤ 0) || decide (R ≤ 0))) = false := by simp [k1]
    rw [e]
    clear e
    have QQ : Hid (Qw w w) := Lib.hid (Qw.refl w)
    go_enter Try.func72, Try.ntmps72
    go_wp2_with fail
    go_ret
    first | exact ⟨rfl, QQ.out⟩ | exact ⟨ret_bl (by simp [*]), QQ.out⟩ | exact ⟨ret_bl (by simp; omega), QQ.out⟩
/-- Which spokes agree, as the program asks it. -/
def agrP (u : Bool) (a b c d : Int) : Bool := if u = true then (decide (a = c) && decide (b = d)) else !decide (Ac.mts (Ac.cr a b c d) (Ac.inn a b c d) = 0)
set_option maxRecDepth 100000 in
set_option maxHeartbeats 2000000 in
theorem apAgree (u : Bool) (a b c d : Int) (a1 : -4194304 ≤ a) (a2 : a ≤ 4194304) (b1 : -4194304 ≤ b) (b2 : b ≤ 4194304) (c1 : -4194304 ≤ c) (c2 : c ≤ 4194304) (d1 : -4194304 ≤ d) (d2 : d ≤ 4194304) (w : World) :
    Calls Try.prog 73 #[.bool u, .agg #[.int .i64 a, .int .i64 b], .agg #[.int .i64 c, .int .i64 d]] w fun e w' => e = .returned (.bool (agrP u a b c d)) ∧ Qw w w' := by
  have m := fun w => apMeets a b c d a1 a2 b1 b2 c1 c2 d1 d2 w
  unfold agrP
  generalize Ac.mts (Ac.cr a b c d) (Ac.inn a b c d) = X at *
  have M := Lib.hid m
  clear m
  cases u
  · simp only [Bool.false_eq_true, if_false]
    by_cases k1 : X = 0
    · have e : (!decide (X = 0)) = false := by simp [k1]
      have z : (X == 0) = true := by simpa using k1
      rw [e]
      clear e
      have QQ : Hid (Qw w w) := Lib.hid (Qw.refl w)
      go_enter Try.func73, Try.ntmps73
      go_upto_region 1 with (first | (refine box_pt 1 rfl ?_; intro w1 B4 hb xx qq; have h4 : w.heap.size ≤ B4 := Nat.le_trans QQ.out.size hb; replace QQ := Lib.hid (Qw.trans QQ.out qq); have X4 := Lib.hid xx; clear xx qq hb) | (refine box_pt 2 rfl ?_; intro w2 B5 hb xx qq; have n5_4 : B5 ≠ B4 := (by have := X4.out.lt; omega); have m5_4 : B4 ≠ B5 := (by have := X4.out.lt; omega); have h5 : w.heap.size ≤ B5 := Nat.le_trans QQ.out.size hb; replace X4 := Lib.hid (X4.out.kept qq); replace QQ := Lib.hid (Qw.trans QQ.out qq); have X5 := Lib.hid xx; clear xx qq hb))
      go_upto_region 3 with fail
      go_wp2_with (first | (refine ld_pt 4 rfl X4.out ?_) | (refine ld_pt 5 rfl X5.out ?_) | (go_at_call 99; ((with_reducible refine (M.out _).mono ?_); rintro e w3 ⟨rfl, qq⟩; replace X4 := Lib.hid (X4.out.kept qq); replace X5 := Lib.hid (X5.out.kept qq); replace QQ := Lib.hid (Qw.trans QQ.out qq); clear qq)))
      go_ret
      first | exact ⟨rfl, QQ.out⟩ | exact ⟨ret_bl (by simp [*]), QQ.out⟩ | exact ⟨ret_bl (by simp; omega), QQ.out⟩
    · have e : (!decide (X = 0)) = true := by simp [k1]
      have z : (X == 0) = false := beq_eq_false_iff_ne.2 k1
      rw [e]
      clear e
      have QQ : Hid (Qw w w) := Lib.hid (Qw.refl w)
      go_enter Try.func73, Try.ntmps73
      go_upto_region 1 with (first | (refine box_pt 1 rfl ?_; intro w1 B4 hb xx qq; have h4 : w.heap.size ≤ B4 := Nat.le_trans QQ.out.size hb; replace QQ := Lib.hid (Qw.trans QQ.out qq); have X4 := Lib.hid xx; clear xx qq hb) | (refine box_pt 2 rfl ?_; intro w2 B5 hb xx qq; have n5_4 : B5 ≠ B4 := (by have := X4.out.lt; omega); have m5_4 : B4 ≠ B5 := (by have := X4.out.lt; omega); have h5 : w.heap.size ≤ B5 := Nat.le_trans QQ.out.size hb; replace X4 := Lib.hid (X4.out.kept qq); replace QQ := Lib.hid (Qw.trans QQ.out qq); have X5 := Lib.hid xx; clear xx qq hb))
      go_upto_region 3 with fail
      go_wp2_with (first | (refine ld_pt 4 rfl X4.out ?_) | (refine ld_pt 5 rfl X5.out ?_) | (go_at_call 99; ((with_reducible refine (M.out _).mono ?_); rintro e w3 ⟨rfl, qq⟩; replace X4 := Lib.hid (X4.out.kept qq); replace X5 := Lib.hid (X5.out.kept qq); replace QQ := Lib.hid (Qw.trans QQ.out qq); clear qq)))
      go_ret
      first | exact ⟨rfl, QQ.out⟩ | exact ⟨ret_bl (by simp [*]), QQ.out⟩ | exact ⟨ret_bl (by simp; omega), QQ.out⟩
  · simp only [if_true]
    by_cases k1 : a = c
    · have z : (a == c) = true := by simpa using k1
      by_cases k2 : b = d
      · have z2 : (b == d) = true := by simpa using k2
        have e : (decide (a = c) && decide (b = d)) = true := by simp [k1, k2]
        rw [e]
        clear e
        have QQ : Hid (Qw w w) := Lib.hid (Qw.refl w)
        go_enter Try.func73, Try.ntmps73
        go_upto_region 1 with (first | (refine box_pt 1 rfl ?_; intro w1 B4 hb xx qq; have h4 : w.heap.size ≤ B4 := Nat.le_trans QQ.out.size hb; replace QQ := Lib.hid (Qw.trans QQ.out qq); have X4 := Lib.hid xx; clear xx qq hb) | (refine box_pt 2 rfl ?_; intro w2 B5 hb xx qq; have n5_4 : B5 ≠ B4 := (by have := X4.out.lt; omega); have m5_4 : B4 ≠ B5 := (by have := X4.out.lt; omega); have h5 : w.heap.size ≤ B5 := Nat.le_trans QQ.out.size hb; replace X4 := Lib.hid (X4.out.kept qq); replace QQ := Lib.hid (Qw.trans QQ.out qq); have X5 := Lib.hid xx; clear xx qq hb))
        go_upto_region 2 with fail
        go_wp2_with (first | (refine ld_pt 4 rfl X4.out ?_) | (refine ld_pt 5 rfl X5.out ?_))
        go_ret
        first | exact ⟨rfl, QQ.out⟩ | exact ⟨ret_bl (by simp [*]), QQ.out⟩ | exact ⟨ret_bl (by simp; omega), QQ.out⟩
      · have z2 : (b == d) = false := beq_eq_false_iff_ne.2 k2
        have e : (decide (a = c) && decide (b = d)) = false := by simp [k1, k2]
        rw [e]
        clear e
        have QQ : Hid (Qw w w) := Lib.hid (Qw.refl w)
        go_enter Try.func73, Try.ntmps73
        go_upto_region 1 with (first | (refine box_pt 1 rfl ?_; intro w1 B4 hb xx qq; have h4 : w.heap.size ≤ B4 := Nat.le_trans QQ.out.size hb; replace QQ := Lib.hid (Qw.trans QQ.out qq); have X4 := Lib.hid xx; clear xx qq hb) | (refine box_pt 2 rfl ?_; intro w2 B5 hb xx qq; have n5_4 : B5 ≠ B4 := (by have := X4.out.lt; omega); have m5_4 : B4 ≠ B5 := (by have := X4.out.lt; omega); have h5 : w.heap.size ≤ B5 := Nat.le_trans QQ.out.size hb; replace X4 := Lib.hid (X4.out.kept qq); replace QQ := Lib.hid (Qw.trans QQ.out qq); have X5 := Lib.hid xx; clear xx qq hb))
        go_upto_region 2 with fail
        go_wp2_with (first | (refine ld_pt 4 rfl X4.out ?_) | (refine ld_pt 5 rfl X5.out ?_))
        go_ret
        first | exact ⟨rfl, QQ.out⟩ | exact ⟨ret_bl (by simp [*]), QQ.out⟩ | exact ⟨ret_bl (by simp; omega), QQ.out⟩
    · have z : (a == c) = false := beq_eq_false_iff_ne.2 k1
      have e : (decide (a = c) && decide (b = d)) = false := by simp [k1]
      rw [e]
      clear e
      have QQ : Hid (Qw w w) := Lib.hid (Qw.refl w)
      go_enter Try.func73, Try.ntmps73
      go_upto_region 1 with (first | (refine box_pt 1 rfl ?_; intro w1 B4 hb xx qq; have h4 : w.heap.size ≤ B4 := Nat.le_trans QQ.out.size hb; replace QQ := Lib.hid (Qw.trans QQ.out qq); have X4 := Lib.hid xx; clear xx qq hb) | (refine box_pt 2 rfl ?_; intro w2 B5 hb xx qq; have n5_4 : B5 ≠ B4 := (by have := X4.out.lt; omega); have m5_4 : B4 ≠ B5 := (by have := X4.out.lt; omega); have h5 : w.heap.size ≤ B5 := Nat.le_trans QQ.out.size hb; replace X4 := Lib.hid (X4.out.kept qq); replace QQ := Lib.hid (Qw.trans QQ.out qq); have X5 := Lib.hid xx; clear xx qq hb))
      go_upto_region 2 with fail
      go_wp2_with (first | (refine ld_pt 4 rfl X4.out ?_) | (refine ld_pt 5 rfl X5.out ?_))
      go_ret
      first | exact ⟨rfl, QQ.out⟩ | exact ⟨ret_bl (by simp [*]), QQ.out⟩ | exact ⟨ret_bl (by simp; omega), QQ.out⟩
end Go.Proofs.Ytihmifdadikhaaa

/- The walks of package arc: Spokes, Inside, Tangent. -/
set_option linter.unusedVariables false
set_option linter.unusedSimpArgs false
namespace Go.Proofs.Ytihmifdadikhaaa
open Go.RowKit

namespace Ac
/-- Coordinates that are not great, and a plane of 64 bits. -/
structure Near (i : I) : Prop where
  p : w64 i.p
  fx : -1048576 ≤ i.fx ∧ i.fx ≤ 1048576
  fy : -1048576 ≤ i.fy ∧ i.fy ≤ 1048576
  fz : -1048576 ≤ i.fz ∧ i.fz ≤ 1048576
  tx : -1048576 ≤ i.tx ∧ i.tx ≤ 1048576
  ty : -1048576 ≤ i.ty ∧ i.ty ≤ 1048576
  tz : -1048576 ≤ i.tz ∧ i.tz ≤ 1048576
  cx : -1048576 ≤ i.cx ∧ i.cx ≤ 1048576
  cy : -1048576 ≤ i.cy ∧ i.cy ≤ 1048576
  cz : -1048576 ≤ i.cz ∧ i.cz ≤ 1048576
theorem Near.bd {i : I} (h : Near i) : (-2097152 ≤ au i ∧ au i ≤ 2097152) ∧ (-2097152 ≤ aw i ∧ aw i ≤ 2097152) ∧ (-2097152 ≤ bu i ∧ bu i ≤ 2097152) ∧ (-2097152 ≤ bw i ∧ bw i ≤ 2097152) := by
  have a := flat_le (p := i.p) (L := 1048576) (by decide) h.fx h.fy h.fz
  have b := flat_le (p := i.p) (L := 1048576) (by decide) h.tx h.ty h.tz
  have c := flat_le (p := i.p) (L := 1048576) (by decide) h.cx h.cy h.cz
  unfold au aw bu bw
  omega
theorem Gd.near {i : I} (h : Gd i) : Near i :=
  ⟨by have := h.p1; have := h.p2; unfold w64; omega, by have := h.fx; omega, by have := h.fy; omega, by have := h.fz; omega, by have := h.tx; omega, by have := h.ty; omega, by have := h.tz; omega, by have := h.cx; omega, by have := h.cy; omega, by have := h.cz; omega⟩
/-- The direction of travel. -/
def tgu (i : I) (e : Bool) : Int := if i.k = 3 then -i.d * (if e = true then bw i else aw i) else fu i.p i.tx i.ty i.tz - fu i.p i.fx i.fy i.fz
def tgw (i : I) (e : Bool) : Int := if i.k = 3 then i.d * (if e = true then bu i else au i) else fw i.p i.tx i.ty i.tz - fw i.p i.fx i.fy i.fz
end Ac
set_option maxRecDepth 100000 in
set_option maxHeartbeats 2000000 in
theorem apSpokes (i : Ac.I) (h : Ac.Near i) (w : World) :
    Calls Try.prog 28 #[.agg (itc i)] w fun e w' => e = .returned (.tuple #[.agg #[.int .i64 (Ac.au i), .int .i64 (Ac.aw i)], .agg #[.int .i64 (Ac.bu i), .int .i64 (Ac.bw i)]]) ∧ Qw w w' := by
  obtain ⟨⟨a1, a2⟩, ⟨a3, a4⟩, ⟨a5, a6⟩, ⟨a7, a8⟩, ⟨a9, a10⟩, ⟨a11, a12⟩, ⟨a13, a14⟩, ⟨a15, a16⟩, ⟨a17, a18⟩⟩ := And.intro h.fx (And.intro h.fy (And.intro h.fz (And.intro h.tx (And.intro h.ty (And.intro h.tz (And.intro h.cx (And.intro h.cy h.cz)))))))
  have d1 := fun w' => apDiff i.p i.fx i.fy i.fz i.cx i.cy i.cz h.p.1 h.p.2 (by omega) (by omega) (by omega) (by omega) (by omega) (by omega) (by omega) (by omega) (by omega) (by omega) (by omega) (by omega) w'
  have d2 := fun w' => apDiff i.p i.tx i.ty i.tz i.cx i.cy i.cz h.p.1 h.p.2 (by omega) (by omega) (by omega) (by omega) (by omega) (by omega) (by omega) (by omega) (by omega) (by omega) (by omega) (by omega) w'
  change ∀ w', Calls Try.prog 57 _ w' fun e w'' => e = .returned (.agg #[.int .i64 (Ac.au i), .int .i64 (Ac.aw i)]) ∧ Qw w' w'' at d1
  change ∀ w', Calls Try.prog 57 _ w' fun e w'' => e = .returned (.agg #[.int .i64 (Ac.bu i), .int .i64 (Ac.bw i)]) ∧ Qw w' w'' at d2
  generalize Ac.au i = A0 at *
  generalize Ac.aw i = A1 at *
  generalize Ac.bu i = A2 at *
  generalize Ac.bw i = A3 at *
  have D1 := Lib.hid d1
  have D2 := Lib.hid d2
  clear d1 d2
  have QQ : Hid (Qw w w) := Lib.hid (Qw.refl w)
  go_enter Try.func28, Try.ntmps28
  go_upto_region 1 with (go_big_may; (first | ((with_reducible refine box_it (f := ?_) 0 ?_ ?_); rotate_left 1; (rfl); intro w1 B1 hb xx qq; have h1 := Lib.hid (Nat.le_trans QQ.out.size hb); replace QQ := Lib.hid (Qw.trans QQ.out qq); have X1 := Lib.hid xx; clear xx qq hb) | ((with_reducible refine al_pt (dst := some 2) ?_); intro w2 B2 hb xx qq; have n2_1 := Lib.hid (Nat.ne_of_gt (Nat.lt_of_lt_of_le X1.out.lt hb)); have m2_1 := Lib.hid (Nat.ne_of_lt (Nat.lt_of_lt_of_le X1.out.lt hb)); have h2 := Lib.hid (Nat.le_trans QQ.out.size hb); replace X1 := Lib.hid (X1.out.kept qq); replace QQ := Lib.hid (Qw.trans QQ.out qq); have X2 := Lib.hid xx; clear xx qq hb) | ((with_reducible refine al_pt (dst := some 3) ?_); intro w3 B3 hb xx qq; have n3_1 := Lib.hid (Nat.ne_of_gt (Nat.lt_of_lt_of_le X1.out.lt hb)); have n3_2 := Lib.hid (Nat.ne_of_gt (Nat.lt_of_lt_of_le X2.out.lt hb)); have m3_1 := Lib.hid (Nat.ne_of_lt (Nat.lt_of_lt_of_le X1.out.lt hb)); have m3_2 := Lib.hid (Nat.ne_of_lt (Nat.lt_of_lt_of_le X2.out.lt hb)); have h3 := Lib.hid (Nat.le_trans QQ.out.size hb); replace X1 := Lib.hid (X1.out.kept qq); replace X2 := Lib.hid (X2.out.kept qq); replace QQ := Lib.hid (Qw.trans QQ.out qq); have X3 := Lib.hid xx; clear xx qq hb)))
  have c1_2 := X1.out.ki2
  have c1_3 := X1.out.ki3
  have c1_4 := X1.out.ki4
  have c1_5 := X1.out.ki5
  have c1_6 := X1.out.ki6
  have c1_7 := X1.out.ki7
  have c1_8 := X1.out.ki8
  have c1_9 := X1.out.ki9
  have c1_10 := X1.out.ki10
  have c1_11 := X1.out.ki11
  try simp only [List.getElem_toArray, List.getElem_cons_succ, List.getElem_cons_zero, Act.put, List.setIfInBounds_toArray, List.set_cons_zero, List.set_cons_succ]
  refine region_kept_tail 14 (by kernel_rfl) (by kernel_rfl) ?_
  simp only [List.take_succ_cons, List.take_zero, List.drop_succ_cons, List.drop_zero]
  repeat (go_big_quiet_step (first | (go_at_call 57; with_reducible exact Kept.call (D1.out _)) | (go_at_call 57; with_reducible exact Kept.call (D2.out _))))
  refine wpQuiet_nil ?_
  intro w4 qq
  clear c1_2 c1_3 c1_4 c1_5 c1_6 c1_7 c1_8 c1_9 c1_10 c1_11
  replace X1 := Lib.hid (X1.out.kept qq)
  replace X2 := Lib.hid (X2.out.kept qq)
  replace X3 := Lib.hid (X3.out.kept qq)
  replace QQ := Lib.hid (Qw.trans QQ.out qq)
  clear qq
  go_wp2_with (first | ((with_reducible refine st_pt (x := ?_) (y := ?_) 2 10 ?_ ?_ X2.out ?_); rotate_left 2; (rfl); (rfl); intro w5 xx qf ot; replace X1 := Lib.hid (ot _ _ _ m2_1.out X1.out); replace X3 := Lib.hid (ot _ _ _ n3_2.out X3.out); replace QQ := Lib.hid (qf _ QQ.out h2.out); replace X2 := Lib.hid xx; clear xx qf ot) | ((with_reducible refine st_pt (x := ?_) (y := ?_) 3 17 ?_ ?_ X3.out ?_); rotate_left 2; (rfl); (rfl); intro w6 xx qf ot; replace X1 := Lib.hid (ot _ _ _ m3_1.out X1.out); replace X2 := Lib.hid (ot _ _ _ m3_2.out X2.out); replace QQ := Lib.hid (qf _ QQ.out h3.out); replace X3 := Lib.hid xx; clear xx qf ot))
  have c2_0 := X2.out.p0
  have c2_1 := X2.out.p1
  have c3_0 := X3.out.p0
  have c3_1 := X3.out.p1
  exact bodyPost_ret (v := .tuple #[.agg #[.int .i64 A0, .int .i64 A1], .agg #[.int .i64 A2, .int .i64 A3]]) (by simp [results, Try.results28, go_sem, c2_0, c2_1, c3_0, c3_1]) rfl ⟨rfl, QQ.out⟩
end Go.Proofs.Ytihmifdadikhaaa

/- The walks of package arc: Inside, Tangent. -/
set_option linter.unusedVariables false
set_option linter.unusedSimpArgs false
namespace Go.Proofs.Ytihmifdadikhaaa
open Go.RowKit

set_option maxRecDepth 100000 in
set_option maxHeartbeats 2000000 in
theorem apInside (i : Ac.I) (g : Ac.Gd i) (x y : Int) (x1 : -4194304 ≤ x) (x2 : x ≤ 4194304) (y1 : -4194304 ≤ y) (y2 : y ≤ 4194304) (hp : ¬ (x = 0 ∧ y = 0)) (w : World) :
    Calls Try.prog 30 #[.agg (itc i), .agg #[.int .i64 x, .int .i64 y]] w fun e w' => e = .returned (.bool (Ac.ins i x y)) ∧ Qw w w' := by
  have sp := fun w' => apSpokes i g.near w'
  obtain ⟨b1, b2, b3, b4⟩ := g.bd
  have ps1 := fun w' => apPasses (Ac.au i) (Ac.aw i) x y (Ac.bu i) (Ac.bw i) (by omega) (by omega) (by omega) (by omega) x1 x2 y1 y2 (by omega) (by omega) (by omega) (by omega) w'
  have ps2 := fun w' => apPasses (Ac.bu i) (Ac.bw i) x y (Ac.au i) (Ac.aw i) (by omega) (by omega) (by omega) (by omega) x1 x2 y1 y2 (by omega) (by omega) (by omega) (by omega) w'
  rw [g.ins hp]
  generalize Ac.pas (Ac.au i) (Ac.aw i) x y (Ac.bu i) (Ac.bw i) = R1 at *
  generalize Ac.pas (Ac.bu i) (Ac.bw i) x y (Ac.au i) (Ac.aw i) = R2 at *
  generalize Ac.au i = A0 at *
  generalize Ac.aw i = A1 at *
  generalize Ac.bu i = A2 at *
  generalize Ac.bw i = A3 at *
  have SP := Lib.hid sp
  clear sp b1 b2 b3 b4 g hp
  cases hu : i.u
  · simp only [Bool.false_eq_true, if_false]
    by_cases hd : i.d < 0
    · rw [if_pos hd]
      have PS := Lib.hid ps2
      clear ps1 ps2
      have QQ : Hid (Qw w w) := Lib.hid (Qw.refl w)
      go_enter Try.func30, Try.ntmps30
      go_upto_region 1 with (go_big_may; (first | ((with_reducible refine box_it (f := ?_) 0 ?_ ?_); rotate_left 1; (rfl); intro w1 B2 hb xx qq; have h2 := Lib.hid (Nat.le_trans QQ.out.size hb); replace QQ := Lib.hid (Qw.trans QQ.out qq); have X2 := Lib.hid xx; clear xx qq hb) | ((with_reducible refine box_pt (x := ?_) (y := ?_) 1 ?_ ?_); rotate_left 2; (rfl); intro w2 B3 hb xx qq; have n3_2 := Lib.hid (Nat.ne_of_gt (Nat.lt_of_lt_of_le X2.out.lt hb)); have m3_2 := Lib.hid (Nat.ne_of_lt (Nat.lt_of_lt_of_le X2.out.lt hb)); have h3 := Lib.hid (Nat.le_trans QQ.out.size hb); replace X2 := Lib.hid (X2.out.kept qq); replace QQ := Lib.hid (Qw.trans QQ.out qq); have X3 := Lib.hid xx; clear xx qq hb)))
      have c2_13 := X2.out.i13
      rw [hu] at c2_13
      go_upto_region 3 with fail
      clear c2_13
      go_upto_region 4 with (go_big_may; (first | ((with_reducible refine ld_it 2 ?_ X2.out ?_); (rfl)) | (go_at_call 28; ((with_reducible refine (SP.out _).mono ?_); rintro e w3 ⟨rfl, qq⟩; replace X2 := Lib.hid (X2.out.kept qq); replace X3 := Lib.hid (X3.out.kept qq); replace QQ := Lib.hid (Qw.trans QQ.out qq); clear qq)) | ((with_reducible refine al_pt (dst := some 5) ?_); intro w4 B5 hb xx qq; have n5_2 := Lib.hid (Nat.ne_of_gt (Nat.lt_of_lt_of_le X2.out.lt hb)); have n5_3 := Lib.hid (Nat.ne_of_gt (Nat.lt_of_lt_of_le X3.out.lt hb)); have m5_2 := Lib.hid (Nat.ne_of_lt (Nat.lt_of_lt_of_le X2.out.lt hb)); have m5_3 := Lib.hid (Nat.ne_of_lt (Nat.lt_of_lt_of_le X3.out.lt hb)); have h5 := Lib.hid (Nat.le_trans QQ.out.size hb); replace X2 := Lib.hid (X2.out.kept qq); replace X3 := Lib.hid (X3.out.kept qq); replace QQ := Lib.hid (Qw.trans QQ.out qq); have X5 := Lib.hid xx; clear xx qq hb) | ((with_reducible refine al_pt (dst := some 6) ?_); intro w5 B6 hb xx qq; have n6_2 := Lib.hid (Nat.ne_of_gt (Nat.lt_of_lt_of_le X2.out.lt hb)); have n6_3 := Lib.hid (Nat.ne_of_gt (Nat.lt_of_lt_of_le X3.out.lt hb)); have n6_5 := Lib.hid (Nat.ne_of_gt (Nat.lt_of_lt_of_le X5.out.lt hb)); have m6_2 := Lib.hid (Nat.ne_of_lt (Nat.lt_of_lt_of_le X2.out.lt hb)); have m6_3 := Lib.hid (Nat.ne_of_lt (Nat.lt_of_lt_of_le X3.out.lt hb)); have m6_5 := Lib.hid (Nat.ne_of_lt (Nat.lt_of_lt_of_le X5.out.lt hb)); have h6 := Lib.hid (Nat.le_trans QQ.out.size hb); replace X2 := Lib.hid (X2.out.kept qq); replace X3 := Lib.hid (X3.out.kept qq); replace X5 := Lib.hid (X5.out.kept qq); replace QQ := Lib.hid (Qw.trans QQ.out qq); have X6 := Lib.hid xx; clear xx qq hb) | ((with_reducible refine st_pt (x := ?_) (y := ?_) 5 12 ?_ ?_ X5.out ?_); rotate_left 2; (rfl); (rfl); intro w6 xx qf ot; replace X2 := Lib.hid (ot _ _ _ m5_2.out X2.out); replace X3 := Lib.hid (ot _ _ _ m5_3.out X3.out); replace X6 := Lib.hid (ot _ _ _ n6_5.out X6.out); replace QQ := Lib.hid (qf _ QQ.out h5.out); replace X5 := Lib.hid xx; clear xx qf ot) | ((with_reducible refine st_pt (x := ?_) (y := ?_) 6 13 ?_ ?_ X6.out ?_); rotate_left 2; (rfl); (rfl); intro w7 xx qf ot; replace X2 := Lib.hid (ot _ _ _ m6_2.out X2.out); replace X3 := Lib.hid (ot _ _ _ m6_3.out X3.out); replace X5 := Lib.hid (ot _ _ _ m6_5.out X5.out); replace QQ := Lib.hid (qf _ QQ.out h6.out); replace X6 := Lib.hid xx; clear xx qf ot)))
      have c2_12 := X2.out.i12
      go_upto_region 5 with fail
      clear c2_12
      go_upto_region 6 with (go_big_may; (first | ((with_reducible refine ld_pt 6 ?_ X6.out ?_); (rfl)) | ((with_reducible refine ld_pt 5 ?_ X5.out ?_); (rfl)) | ((with_reducible refine st_pt (x := ?_) (y := ?_) 5 17 ?_ ?_ X5.out ?_); rotate_left 2; (rfl); (rfl); intro w8 xx qf ot; replace X2 := Lib.hid (ot _ _ _ m5_2.out X2.out); replace X3 := Lib.hid (ot _ _ _ m5_3.out X3.out); replace X6 := Lib.hid (ot _ _ _ n6_5.out X6.out); replace QQ := Lib.hid (qf _ QQ.out h5.out); replace X5 := Lib.hid xx; clear xx qf ot) | ((with_reducible refine st_pt (x := ?_) (y := ?_) 6 18 ?_ ?_ X6.out ?_); rotate_left 2; (rfl); (rfl); intro w9 xx qf ot; replace X2 := Lib.hid (ot _ _ _ m6_2.out X2.out); replace X3 := Lib.hid (ot _ _ _ m6_3.out X3.out); replace X5 := Lib.hid (ot _ _ _ m6_5.out X5.out); replace QQ := Lib.hid (qf _ QQ.out h6.out); replace X6 := Lib.hid xx; clear xx qf ot)))
      go_wp2_with (first | ((with_reducible refine ld_pt 5 ?_ X5.out ?_); (rfl)) | ((with_reducible refine ld_pt 3 ?_ X3.out ?_); (rfl)) | ((with_reducible refine ld_pt 6 ?_ X6.out ?_); (rfl)) | (go_at_call 75; ((with_reducible refine (PS.out _).mono ?_); rintro e w10 ⟨rfl, qq⟩; replace X2 := Lib.hid (X2.out.kept qq); replace X3 := Lib.hid (X3.out.kept qq); replace X5 := Lib.hid (X5.out.kept qq); replace X6 := Lib.hid (X6.out.kept qq); replace QQ := Lib.hid (Qw.trans QQ.out qq); clear qq)))
      go_ret
      exact ⟨rfl, QQ.out⟩
    · rw [if_neg hd]
      have PS := Lib.hid ps1
      clear ps1 ps2
      have QQ : Hid (Qw w w) := Lib.hid (Qw.refl w)
      go_enter Try.func30, Try.ntmps30
      go_upto_region 1 with (go_big_may; (first | ((with_reducible refine box_it (f := ?_) 0 ?_ ?_); rotate_left 1; (rfl); intro w1 B2 hb xx qq; have h2 := Lib.hid (Nat.le_trans QQ.out.size hb); replace QQ := Lib.hid (Qw.trans QQ.out qq); have X2 := Lib.hid xx; clear xx qq hb) | ((with_reducible refine box_pt (x := ?_) (y := ?_) 1 ?_ ?_); rotate_left 2; (rfl); intro w2 B3 hb xx qq; have n3_2 := Lib.hid (Nat.ne_of_gt (Nat.lt_of_lt_of_le X2.out.lt hb)); have m3_2 := Lib.hid (Nat.ne_of_lt (Nat.lt_of_lt_of_le X2.out.lt hb)); have h3 := Lib.hid (Nat.le_trans QQ.out.size hb); replace X2 := Lib.hid (X2.out.kept qq); replace QQ := Lib.hid (Qw.trans QQ.out qq); have X3 := Lib.hid xx; clear xx qq hb)))
      have c2_13 := X2.out.i13
      rw [hu] at c2_13
      go_upto_region 3 with fail
      clear c2_13
      go_upto_region 4 with (go_big_may; (first | ((with_reducible refine ld_it 2 ?_ X2.out ?_); (rfl)) | (go_at_call 28; ((with_reducible refine (SP.out _).mono ?_); rintro e w3 ⟨rfl, qq⟩; replace X2 := Lib.hid (X2.out.kept qq); replace X3 := Lib.hid (X3.out.kept qq); replace QQ := Lib.hid (Qw.trans QQ.out qq); clear qq)) | ((with_reducible refine al_pt (dst := some 5) ?_); intro w4 B5 hb xx qq; have n5_2 := Lib.hid (Nat.ne_of_gt (Nat.lt_of_lt_of_le X2.out.lt hb)); have n5_3 := Lib.hid (Nat.ne_of_gt (Nat.lt_of_lt_of_le X3.out.lt hb)); have m5_2 := Lib.hid (Nat.ne_of_lt (Nat.lt_of_lt_of_le X2.out.lt hb)); have m5_3 := Lib.hid (Nat.ne_of_lt (Nat.lt_of_lt_of_le X3.out.lt hb)); have h5 := Lib.hid (Nat.le_trans QQ.out.size hb); replace X2 := Lib.hid (X2.out.kept qq); replace X3 := Lib.hid (X3.out.kept qq); replace QQ := Lib.hid (Qw.trans QQ.out qq); have X5 := Lib.hid xx; clear xx qq hb) | ((with_reducible refine al_pt (dst := some 6) ?_); intro w5 B6 hb xx qq; have n6_2 := Lib.hid (Nat.ne_of_gt (Nat.lt_of_lt_of_le X2.out.lt hb)); have n6_3 := Lib.hid (Nat.ne_of_gt (Nat.lt_of_lt_of_le X3.out.lt hb)); have n6_5 := Lib.hid (Nat.ne_of_gt (Nat.lt_of_lt_of_le X5.out.lt hb)); have m6_2 := Lib.hid (Nat.ne_of_lt (Nat.lt_of_lt_of_le X2.out.lt hb)); have m6_3 := Lib.hid (Nat.ne_of_lt (Nat.lt_of_lt_of_le X3.out.lt hb)); have m6_5 := Lib.hid (Nat.ne_of_lt (Nat.lt_of_lt_of_le X5.out.lt hb)); have h6 := Lib.hid (Nat.le_trans QQ.out.size hb); replace X2 := Lib.hid (X2.out.kept qq); replace X3 := Lib.hid (X3.out.kept qq); replace X5 := Lib.hid (X5.out.kept qq); replace QQ := Lib.hid (Qw.trans QQ.out qq); have X6 := Lib.hid xx; clear xx qq hb) | ((with_reducible refine st_pt (x := ?_) (y := ?_) 5 12 ?_ ?_ X5.out ?_); rotate_left 2; (rfl); (rfl); intro w6 xx qf ot; replace X2 := Lib.hid (ot _ _ _ m5_2.out X2.out); replace X3 := Lib.hid (ot _ _ _ m5_3.out X3.out); replace X6 := Lib.hid (ot _ _ _ n6_5.out X6.out); replace QQ := Lib.hid (qf _ QQ.out h5.out); replace X5 := Lib.hid xx; clear xx qf ot) | ((with_reducible refine st_pt (x := ?_) (y := ?_) 6 13 ?_ ?_ X6.out ?_); rotate_left 2; (rfl); (rfl); intro w7 xx qf ot; replace X2 := Lib.hid (ot _ _ _ m6_2.out X2.out); replace X3 := Lib.hid (ot _ _ _ m6_3.out X3.out); replace X5 := Lib.hid (ot _ _ _ m6_5.out X5.out); replace QQ := Lib.hid (qf _ QQ.out h6.out); replace X6 := Lib.hid xx; clear xx qf ot)))
      have c2_12 := X2.out.i12
      go_upto_region 6 with fail
      clear c2_12
      go_wp2_with (first | ((with_reducible refine ld_pt 5 ?_ X5.out ?_); (rfl)) | ((with_reducible refine ld_pt 3 ?_ X3.out ?_); (rfl)) | ((with_reducible refine ld_pt 6 ?_ X6.out ?_); (rfl)) | (go_at_call 75; ((with_reducible refine (PS.out _).mono ?_); rintro e w8 ⟨rfl, qq⟩; replace X2 := Lib.hid (X2.out.kept qq); replace X3 := Lib.hid (X3.out.kept qq); replace X5 := Lib.hid (X5.out.kept qq); replace X6 := Lib.hid (X6.out.kept qq); replace QQ := Lib.hid (Qw.trans QQ.out qq); clear qq)))
      go_ret
      exact ⟨rfl, QQ.out⟩
  · simp only [if_true]
    clear ps1 ps2
    have QQ : Hid (Qw w w) := Lib.hid (Qw.refl w)
    go_enter Try.func30, Try.ntmps30
    go_upto_region 1 with (go_big_may; (first | ((with_reducible refine box_it (f := ?_) 0 ?_ ?_); rotate_left 1; (rfl); intro w1 B2 hb xx qq; have h2 := Lib.hid (Nat.le_trans QQ.out.size hb); replace QQ := Lib.hid (Qw.trans QQ.out qq); have X2 := Lib.hid xx; clear xx qq hb) | ((with_reducible refine box_pt (x := ?_) (y := ?_) 1 ?_ ?_); rotate_left 2; (rfl); intro w2 B3 hb xx qq; have n3_2 := Lib.hid (Nat.ne_of_gt (Nat.lt_of_lt_of_le X2.out.lt hb)); have m3_2 := Lib.hid (Nat.ne_of_lt (Nat.lt_of_lt_of_le X2.out.lt hb)); have h3 := Lib.hid (Nat.le_trans QQ.out.size hb); replace X2 := Lib.hid (X2.out.kept qq); replace QQ := Lib.hid (Qw.trans QQ.out qq); have X3 := Lib.hid xx; clear xx qq hb)))
    have c2_13 := X2.out.i13
    rw [hu] at c2_13
    go_upto_region 2 with fail
    clear c2_13
    go_wp2_with fail
    go_ret
    exact ⟨rfl, QQ.out⟩
set_option maxRecDepth 100000 in
set_option maxHeartbeats 2000000 in
theorem apTangent (i : Ac.I) (h : Ac.Near i) (hk : Ac.w64 i.k) (hd : i.d = 1 ∨ i.d = -1 ∨ i.k ≠ 3) (t : Bool) (w : World) :
    Calls Try.prog 36 #[.agg (itc i), .bool t] w fun e w' => e = .returned (.agg #[.int .i64 (Ac.tgu i t), .int .i64 (Ac.tgw i t)]) ∧ Qw w w' := by
  have sp := fun w' => apSpokes i h w'
  have bd := h.bd
  obtain ⟨⟨a1, a2⟩, ⟨a3, a4⟩, ⟨a5, a6⟩, ⟨a7, a8⟩, ⟨a9, a10⟩, ⟨a11, a12⟩, ⟨a13, a14⟩, ⟨a15, a16⟩, ⟨a17, a18⟩⟩ := And.intro h.fx (And.intro h.fy (And.intro h.fz (And.intro h.tx (And.intro h.ty (And.intro h.tz (And.intro h.cx (And.intro h.cy h.cz)))))))
  have dd := fun w' => apDiff i.p i.tx i.ty i.tz i.fx i.fy i.fz h.p.1 h.p.2 (by omega) (by omega) (by omega) (by omega) (by omega) (by omega) (by omega) (by omega) (by omega) (by omega) (by omega) (by omega) w'
  unfold Ac.tgu Ac.tgw
  by_cases hk3 : i.k = 3
  · rw [if_pos hk3, if_pos hk3]
    have y0 : (i.k == 3) = true := by simpa using hk3
    have y1 : (i.k != 3) = false := by simp [hk3]
    have hd2 : i.d = 1 ∨ i.d = -1 := by omega
    clear hd
    generalize Ac.au i = A0 at *
    generalize Ac.aw i = A1 at *
    generalize Ac.bu i = A2 at *
    generalize Ac.bw i = A3 at *
    have md : ∀ n : Int, -2097152 ≤ n → n ≤ 2097152 → (-2097152 ≤ -i.d * n ∧ -i.d * n ≤ 2097152) ∧ (-2097152 ≤ i.d * n ∧ i.d * n ≤ 2097152) := fun n h1 h2 => by rcases hd2 with e | e <;> rw [e] <;> omega
    obtain ⟨⟨b1, b2⟩, ⟨b3, b4⟩, ⟨b5, b6⟩, ⟨b7, b8⟩⟩ := bd
    obtain ⟨⟨m1, m2⟩, _⟩ := md A1 b3 b4
    obtain ⟨_, ⟨m3, m4⟩⟩ := md A0 b1 b2
    obtain ⟨⟨m5, m6⟩, _⟩ := md A3 b7 b8
    obtain ⟨_, ⟨m7, m8⟩⟩ := md A2 b5 b6
    have d1 : -1 ≤ i.d ∧ i.d ≤ 1 := by omega
    obtain ⟨d2, d3⟩ := d1
    have SP := Lib.hid sp
    clear sp dd md hd2
    cases t
    · simp only [Bool.false_eq_true, if_false]
      have QQ : Hid (Qw w w) := Lib.hid (Qw.refl w)
      go_enter Try.func36, Try.ntmps36
      go_upto_region 1 with (go_big_may; (first | ((with_reducible refine box_it (f := ?_) 0 ?_ ?_); rotate_left 1; (rfl); intro w1 B2 hb xx qq; have h2 := Lib.hid (Nat.le_trans QQ.out.size hb); replace QQ := Lib.hid (Qw.trans QQ.out qq); have X2 := Lib.hid xx; clear xx qq hb) | ((with_reducible refine al_pt (dst := some 4) ?_); intro w2 B4 hb xx qq; have n4_2 := Lib.hid (Nat.ne_of_gt (Nat.lt_of_lt_of_le X2.out.lt hb)); have m4_2 := Lib.hid (Nat.ne_of_lt (Nat.lt_of_lt_of_le X2.out.lt hb)); have h4 := Lib.hid (Nat.le_trans QQ.out.size hb); replace X2 := Lib.hid (X2.out.kept qq); replace QQ := Lib.hid (Qw.trans QQ.out qq); have X4 := Lib.hid xx; clear xx qq hb)))
      have c2_0 := X2.out.i0
      go_upto_region 3 with fail
      clear c2_0
      go_upto_region 4 with (go_big_may; (first | ((with_reducible refine ld_it 2 ?_ X2.out ?_); (rfl)) | (go_at_call 28; ((with_reducible refine (SP.out _).mono ?_); rintro e w3 ⟨rfl, qq⟩; replace X2 := Lib.hid (X2.out.kept qq); replace X4 := Lib.hid (X4.out.kept qq); replace QQ := Lib.hid (Qw.trans QQ.out qq); clear qq)) | ((with_reducible refine al_pt (dst := some 5) ?_); intro w4 B5 hb xx qq; have n5_2 := Lib.hid (Nat.ne_of_gt (Nat.lt_of_lt_of_le X2.out.lt hb)); have n5_4 := Lib.hid (Nat.ne_of_gt (Nat.lt_of_lt_of_le X4.out.lt hb)); have m5_2 := Lib.hid (Nat.ne_of_lt (Nat.lt_of_lt_of_le X2.out.lt hb)); have m5_4 := Lib.hid (Nat.ne_of_lt (Nat.lt_of_lt_of_le X4.out.lt hb)); have h5 := Lib.hid (Nat.le_trans QQ.out.size hb); replace X2 := Lib.hid (X2.out.kept qq); replace X4 := Lib.hid (X4.out.kept qq); replace QQ := Lib.hid (Qw.trans QQ.out qq); have X5 := Lib.hid xx; clear xx qq hb) | ((with_reducible refine al_pt (dst := some 6) ?_); intro w5 B6 hb xx qq; have n6_2 := Lib.hid (Nat.ne_of_gt (Nat.lt_of_lt_of_le X2.out.lt hb)); have n6_4 := Lib.hid (Nat.ne_of_gt (Nat.lt_of_lt_of_le X4.out.lt hb)); have n6_5 := Lib.hid (Nat.ne_of_gt (Nat.lt_of_lt_of_le X5.out.lt hb)); have m6_2 := Lib.hid (Nat.ne_of_lt (Nat.lt_of_lt_of_le X2.out.lt hb)); have m6_4 := Lib.hid (Nat.ne_of_lt (Nat.lt_of_lt_of_le X4.out.lt hb)); have m6_5 := Lib.hid (Nat.ne_of_lt (Nat.lt_of_lt_of_le X5.out.lt hb)); have h6 := Lib.hid (Nat.le_trans QQ.out.size hb); replace X2 := Lib.hid (X2.out.kept qq); replace X4 := Lib.hid (X4.out.kept qq); replace X5 := Lib.hid (X5.out.kept qq); replace QQ := Lib.hid (Qw.trans QQ.out qq); have X6 := Lib.hid xx; clear xx qq hb) | ((with_reducible refine st_pt (x := ?_) (y := ?_) 5 20 ?_ ?_ X5.out ?_); rotate_left 2; (rfl); (rfl); intro w6 xx qf ot; replace X2 := Lib.hid (ot _ _ _ m5_2.out X2.out); replace X4 := Lib.hid (ot _ _ _ m5_4.out X4.out); replace X6 := Lib.hid (ot _ _ _ n6_5.out X6.out); replace QQ := Lib.hid (qf _ QQ.out h5.out); replace X5 := Lib.hid xx; clear xx qf ot) | ((with_reducible refine st_pt (x := ?_) (y := ?_) 6 21 ?_ ?_ X6.out ?_); rotate_left 2; (rfl); (rfl); intro w7 xx qf ot; replace X2 := Lib.hid (ot _ _ _ m6_2.out X2.out); replace X4 := Lib.hid (ot _ _ _ m6_4.out X4.out); replace X5 := Lib.hid (ot _ _ _ m6_5.out X5.out); replace QQ := Lib.hid (qf _ QQ.out h6.out); replace X6 := Lib.hid xx; clear xx qf ot)))
      go_upto_region 6 with fail
      have c2_12 := X2.out.i12
      have c5_0 := X5.out.p0
      have c5_1 := X5.out.p1
      go_wp2_with ((with_reducible refine st_pt (x := ?_) (y := ?_) 4 35 ?_ ?_ X4.out ?_); rotate_left 2; (rfl); (rfl); intro w8 xx qf ot; replace X2 := Lib.hid (ot _ _ _ m4_2.out X2.out); replace X5 := Lib.hid (ot _ _ _ n5_4.out X5.out); replace X6 := Lib.hid (ot _ _ _ n6_4.out X6.out); replace QQ := Lib.hid (qf _ QQ.out h4.out); replace X4 := Lib.hid xx; clear xx qf ot)
      have c4_0 := X4.out.p0
      have c4_1 := X4.out.p1
      exact bodyPost_ret (v := .agg #[.int .i64 (-i.d * A1), .int .i64 (i.d * A0)]) (by simp [results, Try.results36, go_sem, c4_0, c4_1]) rfl ⟨rfl, QQ.out⟩
    · simp only [if_true]
      have QQ : Hid (Qw w w) := Lib.hid (Qw.refl w)
      go_enter Try.func36, Try.ntmps36
      go_upto_region 1 with (go_big_may; (first | ((with_reducible refine box_it (f := ?_) 0 ?_ ?_); rotate_left 1; (rfl); intro w1 B2 hb xx qq; have h2 := Lib.hid (Nat.le_trans QQ.out.size hb); replace QQ := Lib.hid (Qw.trans QQ.out qq); have X2 := Lib.hid xx; clear xx qq hb) | ((with_reducible refine al_pt (dst := some 4) ?_); intro w2 B4 hb xx qq; have n4_2 := Lib.hid (Nat.ne_of_gt (Nat.lt_of_lt_of_le X2.out.lt hb)); have m4_2 := Lib.hid (Nat.ne_of_lt (Nat.lt_of_lt_of_le X2.out.lt hb)); have h4 := Lib.hid (Nat.le_trans QQ.out.size hb); replace X2 := Lib.hid (X2.out.kept qq); replace QQ := Lib.hid (Qw.trans QQ.out qq); have X4 := Lib.hid xx; clear xx qq hb)))
      have c2_0 := X2.out.i0
      go_upto_region 3 with fail
      clear c2_0
      go_upto_region 4 with (go_big_may; (first | ((with_reducible refine ld_it 2 ?_ X2.out ?_); (rfl)) | (go_at_call 28; ((with_reducible refine (SP.out _).mono ?_); rintro e w3 ⟨rfl, qq⟩; replace X2 := Lib.hid (X2.out.kept qq); replace X4 := Lib.hid (X4.out.kept qq); replace QQ := Lib.hid (Qw.trans QQ.out qq); clear qq)) | ((with_reducible refine al_pt (dst := some 5) ?_); intro w4 B5 hb xx qq; have n5_2 := Lib.hid (Nat.ne_of_gt (Nat.lt_of_lt_of_le X2.out.lt hb)); have n5_4 := Lib.hid (Nat.ne_of_gt (Nat.lt_of_lt_of_le X4.out.lt hb)); have m5_2 := Lib.hid (Nat.ne_of_lt (Nat.lt_of_lt_of_le X2.out.lt hb)); have m5_4 := Lib.hid (Nat.ne_of_lt (Nat.lt_of_lt_of_le X4.out.lt hb)); have h5 := Lib.hid (Nat.le_trans QQ.out.size hb); replace X2 := Lib.hid (X2.out.kept qq); replace X4 := Lib.hid (X4.out.kept qq); replace QQ := Lib.hid (Qw.trans QQ.out qq); have X5 := Lib.hid xx; clear xx qq hb) | ((with_reducible refine al_pt (dst := some 6) ?_); intro w5 B6 hb xx qq; have n6_2 := Lib.hid (Nat.ne_of_gt (Nat.lt_of_lt_of_le X2.out.lt hb)); have n6_4 := Lib.hid (Nat.ne_of_gt (Nat.lt_of_lt_of_le X4.out.lt hb)); have n6_5 := Lib.hid (Nat.ne_of_gt (Nat.lt_of_lt_of_le X5.out.lt hb)); have m6_2 := Lib.hid (Nat.ne_of_lt (Nat.lt_of_lt_of_le X2.out.lt hb)); have m6_4 := Lib.hid (Nat.ne_of_lt (Nat.lt_of_lt_of_le X4.out.lt hb)); have m6_5 := Lib.hid (Nat.ne_of_lt (Nat.lt_of_lt_of_le X5.out.lt hb)); have h6 := Lib.hid (Nat.le_trans QQ.out.size hb); replace X2 := Lib.hid (X2.out.kept qq); replace X4 := Lib.hid (X4.out.kept qq); replace X5 := Lib.hid (X5.out.kept qq); replace QQ := Lib.hid (Qw.trans QQ.out qq); have X6 := Lib.hid xx; clear xx qq hb) | ((with_reducible refine st_pt (x := ?_) (y := ?_) 5 20 ?_ ?_ X5.out ?_); rotate_left 2; (rfl); (rfl); intro w6 xx qf ot; replace X2 := Lib.hid (ot _ _ _ m5_2.out X2.out); replace X4 := Lib.hid (ot _ _ _ m5_4.out X4.out); replace X6 := Lib.hid (ot _ _ _ n6_5.out X6.out); replace QQ := Lib.hid (qf _ QQ.out h5.out); replace X5 := Lib.hid xx; clear xx qf ot) | ((with_reducible refine st_pt (x := ?_) (y := ?_) 6 21 ?_ ?_ X6.out ?_); rotate_left 2; (rfl); (rfl); intro w7 xx qf ot; replace X2 := Lib.hid (ot _ _ _ m6_2.out X2.out); replace X4 := Lib.hid (ot _ _ _ m6_4.out X4.out); replace X5 := Lib.hid (ot _ _ _ m6_5.out X5.out); replace QQ := Lib.hid (qf _ QQ.out h6.out); replace X6 := Lib.hid xx; clear xx qf ot)))
      go_upto_region 5 with fail
      go_upto_region 6 with (go_big_may; (first | ((with_reducible refine ld_pt 6 ?_ X6.out ?_); (rfl)) | ((with_reducible refine st_pt (x := ?_) (y := ?_) 5 23 ?_ ?_ X5.out ?_); rotate_left 2; (rfl); (rfl); intro w8 xx qf ot; replace X2 := Lib.hid (ot _ _ _ m5_2.out X2.out); replace X4 := Lib.hid (ot _ _ _ m5_4.out X4.out); replace X6 := Lib.hid (ot _ _ _ n6_5.out X6.out); replace QQ := Lib.hid (qf _ QQ.out h5.out); replace X5 := Lib.hid xx; clear xx qf ot)))
      have c2_12 := X2.out.i12
      have c5_0 := X5.out.p0
      have c5_1 := X5.out.p1
      go_wp2_with ((with_reducible refine st_pt (x := ?_) (y := ?_) 4 35 ?_ ?_ X4.out ?_); rotate_left 2; (rfl); (rfl); intro w9 xx qf ot; replace X2 := Lib.hid (ot _ _ _ m4_2.out X2.out); replace X5 := Lib.hid (ot _ _ _ n5_4.out X5.out); replace X6 := Lib.hid (ot _ _ _ n6_4.out X6.out); replace QQ := Lib.hid (qf _ QQ.out h4.out); replace X4 := Lib.hid xx; clear xx qf ot)
      have c4_0 := X4.out.p0
      have c4_1 := X4.out.p1
      exact bodyPost_ret (v := .agg #[.int .i64 (-i.d * A3), .int .i64 (i.d * A2)]) (by simp [results, Try.results36, go_sem, c4_0, c4_1]) rfl ⟨rfl, QQ.out⟩
  · rw [if_neg hk3, if_neg hk3]
    have y0 : (i.k == 3) = false := beq_eq_false_iff_ne.2 hk3
    have y1 : (i.k != 3) = true := by simp [hk3]
    generalize fu i.p i.tx i.ty i.tz - fu i.p i.fx i.fy i.fz = E0 at *
    generalize fw i.p i.tx i.ty i.tz - fw i.p i.fx i.fy i.fz = E1 at *
    have D := Lib.hid dd
    clear sp dd bd hd
    have QQ : Hid (Qw w w) := Lib.hid (Qw.refl w)
    go_enter Try.func36, Try.ntmps36
    go_upto_region 1 with (go_big_may; (first | ((with_reducible refine box_it (f := ?_) 0 ?_ ?_); rotate_left 1; (rfl); intro w1 B2 hb xx qq; have h2 := Lib.hid (Nat.le_trans QQ.out.size hb); replace QQ := Lib.hid (Qw.trans QQ.out qq); have X2 := Lib.hid xx; clear xx qq hb) | ((with_reducible refine al_pt (dst := some 4) ?_); intro w2 B4 hb xx qq; have n4_2 := Lib.hid (Nat.ne_of_gt (Nat.lt_of_lt_of_le X2.out.lt hb)); have m4_2 := Lib.hid (Nat.ne_of_lt (Nat.lt_of_lt_of_le X2.out.lt hb)); have h4 := Lib.hid (Nat.le_trans QQ.out.size hb); replace X2 := Lib.hid (X2.out.kept qq); replace QQ := Lib.hid (Qw.trans QQ.out qq); have X4 := Lib.hid xx; clear xx qq hb)))
    have c2_0 := X2.out.i0
    go_upto_region 2 with fail
    clear c2_0
    have c2_2 := X2.out.i2
    have c2_3 := X2.out.i3
    have c2_4 := X2.out.i4
    have c2_5 := X2.out.i5
    have c2_6 := X2.out.i6
    have c2_7 := X2.out.i7
    have c2_8 := X2.out.i8
    go_wp2_with (first | (go_at_call 57; ((with_reducible refine (D.out _).mono ?_); rintro e w3 ⟨rfl, qq⟩; replace X2 := Lib.hid (X2.out.kept qq); replace X4 := Lib.hid (X4.out.kept qq); replace QQ := Lib.hid (Qw.trans QQ.out qq); clear qq)) | ((with_reducible refine st_pt (x := ?_) (y := ?_) 4 16 ?_ ?_ X4.out ?_); rotate_left 2; (rfl); (rfl); intro w4 xx qf ot; replace X2 := Lib.hid (ot _ _ _ m4_2.out X2.out); replace QQ := Lib.hid (qf _ QQ.out h4.out); replace X4 := Lib.hid xx; clear xx qf ot))
    have c4_0 := X4.out.p0
    have c4_1 := X4.out.p1
    exact bodyPost_ret (v := .agg #[.int .i64 E0, .int .i64 E1]) (by simp [results, Try.results36, go_sem, c4_0, c4_1]) rfl ⟨rfl, QQ.out⟩
end Go.Proofs.Ytihmifdadikhaaa

/- The walk of package arc: Check. -/
set_option linter.unusedVariables false
set_option linter.unusedSimpArgs false
namespace Go.Proofs.Ytihmifdadikhaaa
open Go.RowKit

namespace Ac
theorem agrP_eq {u : Bool} {a b c d : Int} (h : fit (inn a b a b) (inn c d c d) = true) : agrP u a b c d = agr u a b c d := by
  have f := fit_pos h
  unfold agrP
  cases u
  · rw [agr_mts (by have : inn a b a b = a * a + b * b := rfl; omega) (by have : inn c d c d = c * c + d * d := rfl; omega)]; rfl
  · rfl
end Ac
namespace Ac
theorem inn_sq {a b : Int} (h1 : -2097152 ≤ a ∧ a ≤ 2097152) (h2 : -2097152 ≤ b ∧ b ≤ 2097152) : 0 ≤ inn a b a b ∧ inn a b a b ≤ 70368744177664 := by
  have := sq0 a; have := sq0 b
  have := (vsq_bd (a := a) (b := a) (by omega) (by omega) (by omega) (by omega)).2
  have := (vsq_bd (a := b) (b := b) (by omega) (by omega) (by omega) (by omega)).2
  unfold inn; omega
end Ac
set_option maxRecDepth 100000 in
set_option maxHeartbeats 2000000 in
theorem apCheck (i : Ac.I) (h : Ac.Wf i) (w : World) :
    Calls Try.prog 26 #[.agg (itc i)] w fun e w' => e = .returned (.int .i64 (Ac.chk i)) ∧ Qw w w' := by
  have pl := fun w' => apPlane i.p h.p.1 h.p.2 w'
  have di := fun w' => apDir i.d h.d.1 h.d.2 w'
  have w1 := fun w' => vc_within i.fx i.fy i.fz h.fx.1 h.fx.2 h.fy.1 h.fy.2 h.fz.1 h.fz.2 w'
  have w2 := fun w' => vc_within i.tx i.ty i.tz h.tx.1 h.tx.2 h.ty.1 h.ty.2 h.tz.1 h.tz.2 w'
  have w3 := fun w' => vc_within i.cx i.cy i.cz h.cx.1 h.cx.2 h.cy.1 h.cy.2 h.cz.1 h.cz.2 w'
  have h1 := fun w' => apHeight i.p i.cx i.cy i.cz h.p.1 h.p.2 w'
  have h2 := fun w' => apHeight i.p i.fx i.fy i.fz h.p.1 h.p.2 w'
  have pb := h.p
  have dd : dirB i.d = (decide (i.d = 1) || decide (i.d = -1)) := rfl
  unfold Ac.chk Ac.argB
  rw [← dd]
  clear dd
  by_cases k0 : i.k = 3
  case neg =>
    have y0 : (i.k == 3) = false := beq_eq_false_iff_ne.2 k0
    have y1 : (i.k != 3) = true := by simp [k0]
    simp only [k0, decide_false, Bool.false_and, Bool.false_eq_true, if_false]
    clear pl di w1 w2 w3 h1 h2 h pb
    have QQ : Hid (Qw w w) := Lib.hid (Qw.refl w)
    go_enter Try.func26, Try.ntmps26
    go_upto_region 1 with (go_big_may; ((with_reducible refine box_it (f := ?_) 0 ?_ ?_); rotate_left 1; (rfl); intro w1 B1 hb xx qq; have h1 := Lib.hid (Nat.le_trans QQ.out.size hb); replace QQ := Lib.hid (Qw.trans QQ.out qq); have X1 := Lib.hid xx; clear xx qq hb))
    have c1_0 := X1.out.i0
    have c1_8 := X1.out.i8
    go_upto_region 2 with fail
    clear c1_0 c1_8
    go_wp2_with fail
    go_ret
    exact ⟨rfl, QQ.out⟩
  have y0 : (i.k == 3) = true := by simpa using k0
  have y1 : (i.k != 3) = false := by simp [k0]
  simp only [k0, decide_true, Bool.true_and]
  cases k1 : pin i.p
  · rw [k1] at pl
    have PL := Lib.hid pl
    simp only [Bool.false_and, Bool.false_eq_true, if_false]
    clear pl di w1 w2 w3 h1 h2 h pb
    have QQ : Hid (Qw w w) := Lib.hid (Qw.refl w)
    go_enter Try.func26, Try.ntmps26
    go_upto_region 1 with (go_big_may; ((with_reducible refine box_it (f := ?_) 0 ?_ ?_); rotate_left 1; (rfl); intro w1 B1 hb xx qq; have h1 := Lib.hid (Nat.le_trans QQ.out.size hb); replace QQ := Lib.hid (Qw.trans QQ.out qq); have X1 := Lib.hid xx; clear xx qq hb))
    have c1_0 := X1.out.i0
    have c1_8 := X1.out.i8
    go_upto_region 2 with (go_big_may; (go_at_call 54; ((with_reducible refine (PL.out _).mono ?_); rintro e w2 ⟨rfl, qq⟩; replace X1 := Lib.hid (X1.out.kept qq); replace QQ := Lib.hid (Qw.trans QQ.out qq); clear qq; have c1_12 := X1.out.i12)))
    clear c1_0 c1_12 c1_8
    go_wp2_with fail
    go_ret
    exact ⟨rfl, QQ.out⟩
  rw [k1] at pl
  have PL := Lib.hid pl
  cases k2 : dirB i.d
  · rw [k2] at di
    have DI := Lib.hid di
    simp only [Bool.true_and, Bool.false_and, Bool.false_eq_true, if_false]
    clear pl di w1 w2 w3 h1 h2 h pb
    have QQ : Hid (Qw w w) := Lib.hid (Qw.refl w)
    go_enter Try.func26, Try.ntmps26
    go_upto_region 1 with (go_big_may; ((with_reducible refine box_it (f := ?_) 0 ?_ ?_); rotate_left 1; (rfl); intro w1 B1 hb xx qq; have h1 := Lib.hid (Nat.le_trans QQ.out.size hb); replace QQ := Lib.hid (Qw.trans QQ.out qq); have X1 := Lib.hid xx; clear xx qq hb))
    have c1_0 := X1.out.i0
    have c1_8 := X1.out.i8
    go_upto_region 2 with (go_big_may; (first | (go_at_call 54; ((with_reducible refine (PL.out _).mono ?_); rintro e w2 ⟨rfl, qq⟩; replace X1 := Lib.hid (X1.out.kept qq); replace QQ := Lib.hid (Qw.trans QQ.out qq); clear qq; have c1_12 := X1.out.i12)) | (go_at_call 55; ((with_reducible refine (DI.out _).mono ?_); rintro e w3 ⟨rfl, qq⟩; replace X1 := Lib.hid (X1.out.kept qq); replace QQ := Lib.hid (Qw.trans QQ.out qq); clear qq))))
    clear c1_0 c1_12 c1_8
    go_wp2_with fail
    go_ret
    exact ⟨rfl, QQ.out⟩
  rw [k2] at di
  have DI := Lib.hid di
  clear pl di
  simp only [Bool.true_and]
  cases k3 : wth i.fx i.fy i.fz
  · rw [k3] at w1
    have W1 := Lib.hid w1
    simp only [Bool.false_and, Bool.false_eq_true, if_false]
    clear w1 w2 w3 h1 h2 h pb
    have QQ : Hid (Qw w w) := Lib.hid (Qw.refl w)
    go_enter Try.func26, Try.ntmps26
    go_upto_region 1 with (go_big_may; ((with_reducible refine box_it (f := ?_) 0 ?_ ?_); rotate_left 1; (rfl); intro w1 B1 hb xx qq; have h1 := Lib.hid (Nat.le_trans QQ.out.size hb); replace QQ := Lib.hid (Qw.trans QQ.out qq); have X1 := Lib.hid xx; clear xx qq hb))
    have c1_0 := X1.out.i0
    have c1_8 := X1.out.i8
    go_upto_region 3 with (go_big_may; (first | (go_at_call 54; ((with_reducible refine (PL.out _).mono ?_); rintro e w2 ⟨rfl, qq⟩; replace X1 := Lib.hid (X1.out.kept qq); replace QQ := Lib.hid (Qw.trans QQ.out qq); clear qq; have c1_12 := X1.out.i12)) | (go_at_call 55; ((with_reducible refine (DI.out _).mono ?_); rintro e w3 ⟨rfl, qq⟩; replace X1 := Lib.hid (X1.out.kept qq); replace QQ := Lib.hid (Qw.trans QQ.out qq); clear qq))))
    clear c1_0 c1_12 c1_8
    have c1_2 := X1.out.ki2
    have c1_3 := X1.out.ki3
    have c1_4 := X1.out.ki4
    have c1_5 := X1.out.ki5
    have c1_6 := X1.out.ki6
    have c1_7 := X1.out.ki7
    have c1_8 := X1.out.ki8
    have c1_9 := X1.out.ki9
    have c1_10 := X1.out.ki10
    have c1_11 := X1.out.ki11
    try simp only [List.getElem_toArray, List.getElem_cons_succ, List.getElem_cons_zero, Act.put, List.setIfInBounds_toArray, List.set_cons_zero, List.set_cons_succ]
    refine region_kept (by kernel_rfl) (by kernel_rfl) ?_
    repeat (go_big_quiet_step (first | (go_at_call 44; with_reducible exact Kept.call (W1.out _))))
    refine wpQuiet_nil ?_
    intro w4 qq
    clear c1_2 c1_3 c1_4 c1_5 c1_6 c1_7 c1_8 c1_9 c1_10 c1_11
    replace X1 := Lib.hid (X1.out.kept qq)
    replace QQ := Lib.hid (Qw.trans QQ.out qq)
    clear qq
    go_wp2
    go_ret
    exact ⟨rfl, QQ.out⟩
  rw [k3] at w1
  have W1 := Lib.hid w1
  cases k4 : wth i.tx i.ty i.tz
  · rw [k4] at w2
    have W2 := Lib.hid w2
    simp only [Bool.true_and, Bool.false_and, Bool.false_eq_true, if_false]
    clear w1 w2 w3 h1 h2 h pb
    have QQ : Hid (Qw w w) := Lib.hid (Qw.refl w)
    go_enter Try.func26, Try.ntmps26
    go_upto_region 1 with (go_big_may; ((with_reducible refine box_it (f := ?_) 0 ?_ ?_); rotate_left 1; (rfl); intro w1 B1 hb xx qq; have h1 := Lib.hid (Nat.le_trans QQ.out.size hb); replace QQ := Lib.hid (Qw.trans QQ.out qq); have X1 := Lib.hid xx; clear xx qq hb))
    have c1_0 := X1.out.i0
    have c1_8 := X1.out.i8
    go_upto_region 3 with (go_big_may; (first | (go_at_call 54; ((with_reducible refine (PL.out _).mono ?_); rintro e w2 ⟨rfl, qq⟩; replace X1 := Lib.hid (X1.out.kept qq); replace QQ := Lib.hid (Qw.trans QQ.out qq); clear qq; have c1_12 := X1.out.i12)) | (go_at_call 55; ((with_reducible refine (DI.out _).mono ?_); rintro e w3 ⟨rfl, qq⟩; replace X1 := Lib.hid (X1.out.kept qq); replace QQ := Lib.hid (Qw.trans QQ.out qq); clear qq))))
    clear c1_0 c1_12 c1_8
    have c1_2 := X1.out.ki2
    have c1_3 := X1.out.ki3
    have c1_4 := X1.out.ki4
    have c1_5 := X1.out.ki5
    have c1_6 := X1.out.ki6
    have c1_7 := X1.out.ki7
    have c1_8 := X1.out.ki8
    have c1_9 := X1.out.ki9
    have c1_10 := X1.out.ki10
    have c1_11 := X1.out.ki11
    try simp only [List.getElem_toArray, List.getElem_cons_succ, List.getElem_cons_zero, Act.put, List.setIfInBounds_toArray, List.set_cons_zero, List.set_cons_succ]
    refine region_kept (by kernel_rfl) (by kernel_rfl) ?_
    repeat (go_big_quiet_step (first | (go_at_call 44; with_reducible exact Kept.call (W1.out _)) | (go_at_call 44; with_reducible exact Kept.call (W2.out _))))
    refine wpQuiet_nil ?_
    intro w4 qq
    clear c1_2 c1_3 c1_4 c1_5 c1_6 c1_7 c1_8 c1_9 c1_10 c1_11
    replace X1 := Lib.hid (X1.out.kept qq)
    replace QQ := Lib.hid (Qw.trans QQ.out qq)
    clear qq
    go_wp2
    go_ret
    exact ⟨rfl, QQ.out⟩
  rw [k4] at w2
  have W2 := Lib.hid w2
  cases k5 : wth i.cx i.cy i.cz
  · rw [k5] at w3
    have W3 := Lib.hid w3
    simp only [Bool.true_and, Bool.false_and, Bool.false_eq_true, if_false]
    clear w1 w2 w3 h1 h2 h pb
    have QQ : Hid (Qw w w) := Lib.hid (Qw.refl w)
    go_enter Try.func26, Try.ntmps26
    go_upto_region 1 with (go_big_may; ((with_reducible refine box_it (f := ?_) 0 ?_ ?_); rotate_left 1; (rfl); intro w1 B1 hb xx qq; have h1 := Lib.hid (Nat.le_trans QQ.out.size hb); replace QQ := Lib.hid (Qw.trans QQ.out qq); have X1 := Lib.hid xx; clear xx qq hb))
    have c1_0 := X1.out.i0
    have c1_8 := X1.out.i8
    go_upto_region 3 with (go_big_may; (first | (go_at_call 54; ((with_reducible refine (PL.out _).mono ?_); rintro e w2 ⟨rfl, qq⟩; replace X1 := Lib.hid (X1.out.kept qq); replace QQ := Lib.hid (Qw.trans QQ.out qq); clear qq; have c1_12 := X1.out.i12)) | (go_at_call 55; ((with_reducible refine (DI.out _).mono ?_); rintro e w3 ⟨rfl, qq⟩; replace X1 := Lib.hid (X1.out.kept qq); replace QQ := Lib.hid (Qw.trans QQ.out qq); clear qq))))
    clear c1_0 c1_12 c1_8
    have c1_2 := X1.out.ki2
    have c1_3 := X1.out.ki3
    have c1_4 := X1.out.ki4
    have c1_5 := X1.out.ki5
    have c1_6 := X1.out.ki6
    have c1_7 := X1.out.ki7
    have c1_8 := X1.out.ki8
    have c1_9 := X1.out.ki9
    have c1_10 := X1.out.ki10
    have c1_11 := X1.out.ki11
    try simp only [List.getElem_toArray, List.getElem_cons_succ, List.getElem_cons_zero, Act.put, List.setIfInBounds_toArray, List.set_cons_zero, List.set_cons_succ]
    refine region_kept (by kernel_rfl) (by kernel_rfl) ?_
    repeat (go_big_quiet_step (first | (go_at_call 44; with_reducible exact Kept.call (W1.out _)) | (go_at_call 44; with_reducible exact Kept.call (W2.out _)) | (go_at_call 44; with_reducible exact Kept.call (W3.out _))))
    refine wpQuiet_nil ?_
    intro w4 qq
    clear c1_2 c1_3 c1_4 c1_5 c1_6 c1_7 c1_8 c1_9 c1_10 c1_11
    replace X1 := Lib.hid (X1.out.kept qq)
    replace QQ := Lib.hid (Qw.trans QQ.out qq)
    clear qq
    go_wp2
    go_ret
    exact ⟨rfl, QQ.out⟩
  rw [k5] at w3
  have W3 := Lib.hid w3
  clear w1 w2 w3
  have H1 := Lib.hid h1
  have H2 := Lib.hid h2
  clear h1 h2
  obtain ⟨n1, n2, n3⟩ := (Ac.wth_iff _ _ _).1 k3
  obtain ⟨n4, n5, n6⟩ := (Ac.wth_iff _ _ _).1 k4
  obtain ⟨n7, n8, n9⟩ := (Ac.wth_iff _ _ _).1 k5
  have nr : Ac.Near i := ⟨pb, n1, n2, n3, n4, n5, n6, n7, n8, n9⟩
  clear k1 k2 k3 k4 k5 n1 n2 n3 n4 n5 n6 n7 n8 n9 pb h
  have sp := fun w' => apSpokes i nr w'
  obtain ⟨b1, b2, b3, b4⟩ := nr.bd
  clear nr
  generalize fh i.p i.cx i.cy i.cz = HC at *
  generalize fh i.p i.fx i.fy i.fz = HF at *
  have SP := Lib.hid sp
  clear sp
  by_cases k6 : HC = HF
  case neg =>
    have z0 : (HC == HF) = false := beq_eq_false_iff_ne.2 k6
    have z1 : (HC != HF) = true := by simp [k6]
    simp only [Bool.true_and, k6, decide_false, Bool.false_eq_true, if_false]
    clear b1 b2 b3 b4 SP
    have QQ : Hid (Qw w w) := Lib.hid (Qw.refl w)
    go_enter Try.func26, Try.ntmps26
    go_upto_region 1 with (go_big_may; ((with_reducible refine box_it (f := ?_) 0 ?_ ?_); rotate_left 1; (rfl); intro w1 B1 hb xx qq; have h1 := Lib.hid (Nat.le_trans QQ.out.size hb); replace QQ := Lib.hid (Qw.trans QQ.out qq); have X1 := Lib.hid xx; clear xx qq hb))
    have c1_0 := X1.out.i0
    have c1_8 := X1.out.i8
    go_upto_region 3 with (go_big_may; (first | (go_at_call 54; ((with_reducible refine (PL.out _).mono ?_); rintro e w2 ⟨rfl, qq⟩; replace X1 := Lib.hid (X1.out.kept qq); replace QQ := Lib.hid (Qw.trans QQ.out qq); clear qq; have c1_12 := X1.out.i12)) | (go_at_call 55; ((with_reducible refine (DI.out _).mono ?_); rintro e w3 ⟨rfl, qq⟩; replace X1 := Lib.hid (X1.out.kept qq); replace QQ := Lib.hid (Qw.trans QQ.out qq); clear qq))))
    clear c1_0 c1_12 c1_8
    have c1_2 := X1.out.ki2
    have c1_3 := X1.out.ki3
    have c1_4 := X1.out.ki4
    have c1_5 := X1.out.ki5
    have c1_6 := X1.out.ki6
    have c1_7 := X1.out.ki7
    have c1_8 := X1.out.ki8
    have c1_9 := X1.out.ki9
    have c1_10 := X1.out.ki10
    have c1_11 := X1.out.ki11
    try simp only [List.getElem_toArray, List.getElem_cons_succ, List.getElem_cons_zero, Act.put, List.setIfInBounds_toArray, List.set_cons_zero, List.set_cons_succ]
    refine region_kept (by kernel_rfl) (by kernel_rfl) ?_
    repeat (go_big_quiet_step (first | (go_at_call 44; with_reducible exact Kept.call (W1.out _)) | (go_at_call 44; with_reducible exact Kept.call (W2.out _)) | (go_at_call 44; with_reducible exact Kept.call (W3.out _)) | (go_at_call 71; with_reducible exact Kept.call (H1.out _)) | (go_at_call 71; with_reducible exact Kept.call (H2.out _))))
    refine wpQuiet_nil ?_
    intro w4 qq
    clear c1_2 c1_3 c1_4 c1_5 c1_6 c1_7 c1_8 c1_9 c1_10 c1_11
    replace X1 := Lib.hid (X1.out.kept qq)
    replace QQ := Lib.hid (Qw.trans QQ.out qq)
    clear qq
    go_wp2
    go_ret
    exact ⟨rfl, QQ.out⟩
  have z0 : (HC == HF) = true := by simpa using k6
  have z1 : (HC != HF) = false := by simp [k6]
  simp only [Bool.true_and, k6, decide_true, if_true]
  have i1 := fun w' => vc_inner (Ac.au i) (Ac.aw i) (Ac.au i) (Ac.aw i) (by omega) (by omega) (by omega) (by omega) (by omega) (by omega) (by omega) (by omega) w'
  have i2 := fun w' => vc_inner (Ac.bu i) (Ac.bw i) (Ac.bu i) (Ac.bw i) (by omega) (by omega) (by omega) (by omega) (by omega) (by omega) (by omega) (by omega) w'
  change ∀ w', Calls Try.prog 58 _ w' fun e w'' => e = .returned (.int .i64 (Ac.inn (Ac.au i) (Ac.aw i) (Ac.au i) (Ac.aw i))) ∧ Qw w' w'' at i1
  change ∀ w', Calls Try.prog 58 _ w' fun e w'' => e = .returned (.int .i64 (Ac.inn (Ac.bu i) (Ac.bw i) (Ac.bu i) (Ac.bw i))) ∧ Qw w' w'' at i2
  have ag := fun w' => apAgree i.u (Ac.au i) (Ac.aw i) (Ac.bu i) (Ac.bw i) (by omega) (by omega) (by omega) (by omega) (by omega) (by omega) (by omega) (by omega) w'
  have l1 : 0 ≤ Ac.inn (Ac.au i) (Ac.aw i) (Ac.au i) (Ac.aw i) ∧ Ac.inn (Ac.au i) (Ac.aw i) (Ac.au i) (Ac.aw i) ≤ 70368744177664 := Ac.inn_sq b1 b2
  have l2 : 0 ≤ Ac.inn (Ac.bu i) (Ac.bw i) (Ac.bu i) (Ac.bw i) ∧ Ac.inn (Ac.bu i) (Ac.bw i) (Ac.bu i) (Ac.bw i) ≤ 70368744177664 := Ac.inn_sq b3 b4
  have ft := fun w' => apFit _ _ l1.1 l1.2 l2.1 l2.2 w'
  have eq := fun hh => Ac.agrP_eq (u := i.u) (a := Ac.au i) (b := Ac.aw i) (c := Ac.bu i) (d := Ac.bw i) hh
  generalize Ac.inn (Ac.au i) (Ac.aw i) (Ac.au i) (Ac.aw i) = L1 at *
  generalize Ac.inn (Ac.bu i) (Ac.bw i) (Ac.bu i) (Ac.bw i) = L2 at *
  have I1 := Lib.hid i1
  have I2 := Lib.hid i2
  clear i1 i2 l1 l2 b1 b2 b3 b4
  cases k7 : Ac.fit L1 L2
  · rw [k7] at ft
    have FT := Lib.hid ft
    simp only [Bool.false_and, Bool.false_eq_true, if_false]
    clear ft ag eq
    have QQ : Hid (Qw w w) := Lib.hid (Qw.refl w)
    go_enter Try.func26, Try.ntmps26
    go_upto_region 1 with (go_big_may; ((with_reducible refine box_it (f := ?_) 0 ?_ ?_); rotate_left 1; (rfl); intro w1 B1 hb xx qq; have h1 := Lib.hid (Nat.le_trans QQ.out.size hb); replace QQ := Lib.hid (Qw.trans QQ.out qq); have X1 := Lib.hid xx; clear xx qq hb))
    have c1_0 := X1.out.i0
    have c1_8 := X1.out.i8
    go_upto_region 3 with (go_big_may; (first | (go_at_call 54; ((with_reducible refine (PL.out _).mono ?_); rintro e w2 ⟨rfl, qq⟩; replace X1 := Lib.hid (X1.out.kept qq); replace QQ := Lib.hid (Qw.trans QQ.out qq); clear qq; have c1_12 := X1.out.i12)) | (go_at_call 55; ((with_reducible refine (DI.out _).mono ?_); rintro e w3 ⟨rfl, qq⟩; replace X1 := Lib.hid (X1.out.kept qq); replace QQ := Lib.hid (Qw.trans QQ.out qq); clear qq))))
    clear c1_0 c1_12 c1_8
    have c1_2 := X1.out.ki2
    have c1_3 := X1.out.ki3
    have c1_4 := X1.out.ki4
    have c1_5 := X1.out.ki5
    have c1_6 := X1.out.ki6
    have c1_7 := X1.out.ki7
    have c1_8 := X1.out.ki8
    have c1_9 := X1.out.ki9
    have c1_10 := X1.out.ki10
    have c1_11 := X1.out.ki11
    try simp only [List.getElem_toArray, List.getElem_cons_succ, List.getElem_cons_zero, Act.put, List.setIfInBounds_toArray, List.set_cons_zero, List.set_cons_succ]
    refine region_kept (by kernel_rfl) (by kernel_rfl) ?_
    repeat (go_big_quiet_step (first | (go_at_call 44; with_reducible exact Kept.call (W1.out _)) | (go_at_call 44; with_reducible exact Kept.call (W2.out _)) | (go_at_call 44; with_reducible exact Kept.call (W3.out _)) | (go_at_call 71; with_reducible exact Kept.call (H1.out _)) | (go_at_call 71; with_reducible exact Kept.call (H2.out _))))
    refine wpQuiet_nil ?_
    intro w4 qq
    clear c1_2 c1_3 c1_4 c1_5 c1_6 c1_7 c1_8 c1_9 c1_10 c1_11
    replace X1 := Lib.hid (X1.out.kept qq)
    replace QQ := Lib.hid (Qw.trans QQ.out qq)
    clear qq
    go_upto_region 6 with (go_big_may; (first | ((with_reducible refine ld_it 1 ?_ X1.out ?_); (rfl)) | (go_at_call 28; ((with_reducible refine (SP.out _).mono ?_); rintro e w5 ⟨rfl, qq⟩; replace X1 := Lib.hid (X1.out.kept qq); replace QQ := Lib.hid (Qw.trans QQ.out qq); clear qq)) | ((with_reducible refine al_pt (dst := some 3) ?_); intro w6 B3 hb xx qq; have n3_1 := Lib.hid (Nat.ne_of_gt (Nat.lt_of_lt_of_le X1.out.lt hb)); have m3_1 := Lib.hid (Nat.ne_of_lt (Nat.lt_of_lt_of_le X1.out.lt hb)); have h3 := Lib.hid (Nat.le_trans QQ.out.size hb); replace X1 := Lib.hid (X1.out.kept qq); replace QQ := Lib.hid (Qw.trans QQ.out qq); have X3 := Lib.hid xx; clear xx qq hb) | ((with_reducible refine al_pt (dst := some 4) ?_); intro w7 B4 hb xx qq; have n4_1 := Lib.hid (Nat.ne_of_gt (Nat.lt_of_lt_of_le X1.out.lt hb)); have n4_3 := Lib.hid (Nat.ne_of_gt (Nat.lt_of_lt_of_le X3.out.lt hb)); have m4_1 := Lib.hid (Nat.ne_of_lt (Nat.lt_of_lt_of_le X1.out.lt hb)); have m4_3 := Lib.hid (Nat.ne_of_lt (Nat.lt_of_lt_of_le X3.out.lt hb)); have h4 := Lib.hid (Nat.le_trans QQ.out.size hb); replace X1 := Lib.hid (X1.out.kept qq); replace X3 := Lib.hid (X3.out.kept qq); replace QQ := Lib.hid (Qw.trans QQ.out qq); have X4 := Lib.hid xx; clear xx qq hb) | ((with_reducible refine st_pt (x := ?_) (y := ?_) 3 52 ?_ ?_ X3.out ?_); rotate_left 2; (rfl); (rfl); intro w8 xx qf ot; replace X1 := Lib.hid (ot _ _ _ m3_1.out X1.out); replace X4 := Lib.hid (ot _ _ _ n4_3.out X4.out); replace QQ := Lib.hid (qf _ QQ.out h3.out); replace X3 := Lib.hid xx; clear xx qf ot) | ((with_reducible refine st_pt (x := ?_) (y := ?_) 4 53 ?_ ?_ X4.out ?_); rotate_left 2; (rfl); (rfl); intro w9 xx qf ot; replace X1 := Lib.hid (ot _ _ _ m4_1.out X1.out); replace X3 := Lib.hid (ot _ _ _ m4_3.out X3.out); replace QQ := Lib.hid (qf _ QQ.out h4.out); replace X4 := Lib.hid xx; clear xx qf ot)))
    have c3_0 := X3.out.kp0
    have c3_1 := X3.out.kp1
    have c4_0 := X4.out.kp0
    have c4_1 := X4.out.kp1
    have c1_13 := X1.out.ki13
    try simp only [List.getElem_toArray, List.getElem_cons_succ, List.getElem_cons_zero, Act.put, List.setIfInBounds_toArray, List.set_cons_zero, List.set_cons_succ]
    refine region_kept (by kernel_rfl) (by kernel_rfl) ?_
    repeat (go_big_quiet_step (first | (go_at_call 58; with_reducible exact Kept.call (I1.out _)) | (go_at_call 58; with_reducible exact Kept.call (I2.out _)) | (go_at_call 72; with_reducible exact Kept.call (FT.out _))))
    refine wpQuiet_nil ?_
    intro w10 qq
    clear c3_0 c3_1 c4_0 c4_1 c1_13
    replace X1 := Lib.hid (X1.out.kept qq)
    replace X3 := Lib.hid (X3.out.kept qq)
    replace X4 := Lib.hid (X4.out.kept qq)
    replace QQ := Lib.hid (Qw.trans QQ.out qq)
    clear qq
    go_wp2
    go_ret
    exact ⟨rfl, QQ.out⟩
  rw [k7] at ft
  have FT := Lib.hid ft
  rw [eq k7] at ag
  clear ft eq
  cases k8 : Ac.agr i.u (Ac.au i) (Ac.aw i) (Ac.bu i) (Ac.bw i)
  · rw [k8] at ag
    have AG := Lib.hid ag
    simp only [Bool.true_and, Bool.false_eq_true, if_false]
    clear ag
    have QQ : Hid (Qw w w) := Lib.hid (Qw.refl w)
    go_enter Try.func26, Try.ntmps26
    go_upto_region 1 with (go_big_may; ((with_reducible refine box_it (f := ?_) 0 ?_ ?_); rotate_left 1; (rfl); intro w1 B1 hb xx qq; have h1 := Lib.hid (Nat.le_trans QQ.out.size hb); replace QQ := Lib.hid (Qw.trans QQ.out qq); have X1 := Lib.hid xx; clear xx qq hb))
    have c1_0 := X1.out.i0
    have c1_8 := X1.out.i8
    go_upto_region 3 with (go_big_may; (first | (go_at_call 54; ((with_reducible refine (PL.out _).mono ?_); rintro e w2 ⟨rfl, qq⟩; replace X1 := Lib.hid (X1.out.kept qq); replace QQ := Lib.hid (Qw.trans QQ.out qq); clear qq; have c1_12 := X1.out.i12)) | (go_at_call 55; ((with_reducible refine (DI.out _).mono ?_); rintro e w3 ⟨rfl, qq⟩; replace X1 := Lib.hid (X1.out.kept qq); replace QQ := Lib.hid (Qw.trans QQ.out qq); clear qq))))
    clear c1_0 c1_12 c1_8
    have c1_2 := X1.out.ki2
    have c1_3 := X1.out.ki3
    have c1_4 := X1.out.ki4
    have c1_5 := X1.out.ki5
    have c1_6 := X1.out.ki6
    have c1_7 := X1.out.ki7
    have c1_8 := X1.out.ki8
    have c1_9 := X1.out.ki9
    have c1_10 := X1.out.ki10
    have c1_11 := X1.out.ki11
    try simp only [List.getElem_toArray, List.getElem_cons_succ, List.getElem_cons_zero, Act.put, List.setIfInBounds_toArray, List.set_cons_zero, List.set_cons_succ]
    refine region_kept (by kernel_rfl) (by kernel_rfl) ?_
    repeat (go_big_quiet_step (first | (go_at_call 44; with_reducible exact Kept.call (W1.out _)) | (go_at_call 44; with_reducible exact Kept.call (W2.out _)) | (go_at_call 44; with_reducible exact Kept.call (W3.out _)) | (go_at_call 71; with_reducible exact Kept.call (H1.out _)) | (go_at_call 71; with_reducible exact Kept.call (H2.out _))))
    refine wpQuiet_nil ?_
    intro w4 qq
    clear c1_2 c1_3 c1_4 c1_5 c1_6 c1_7 c1_8 c1_9 c1_10 c1_11
    replace X1 := Lib.hid (X1.out.kept qq)
    replace QQ := Lib.hid (Qw.trans QQ.out qq)
    clear qq
    go_upto_region 6 with (go_big_may; (first | ((with_reducible refine ld_it 1 ?_ X1.out ?_); (rfl)) | (go_at_call 28; ((with_reducible refine (SP.out _).mono ?_); rintro e w5 ⟨rfl, qq⟩; replace X1 := Lib.hid (X1.out.kept qq); replace QQ := Lib.hid (Qw.trans QQ.out qq); clear qq)) | ((with_reducible refine al_pt (dst := some 3) ?_); intro w6 B3 hb xx qq; have n3_1 := Lib.hid (Nat.ne_of_gt (Nat.lt_of_lt_of_le X1.out.lt hb)); have m3_1 := Lib.hid (Nat.ne_of_lt (Nat.lt_of_lt_of_le X1.out.lt hb)); have h3 := Lib.hid (Nat.le_trans QQ.out.size hb); replace X1 := Lib.hid (X1.out.kept qq); replace QQ := Lib.hid (Qw.trans QQ.out qq); have X3 := Lib.hid xx; clear xx qq hb) | ((with_reducible refine al_pt (dst := some 4) ?_); intro w7 B4 hb xx qq; have n4_1 := Lib.hid (Nat.ne_of_gt (Nat.lt_of_lt_of_le X1.out.lt hb)); have n4_3 := Lib.hid (Nat.ne_of_gt (Nat.lt_of_lt_of_le X3.out.lt hb)); have m4_1 := Lib.hid (Nat.ne_of_lt (Nat.lt_of_lt_of_le X1.out.lt hb)); have m4_3 := Lib.hid (Nat.ne_of_lt (Nat.lt_of_lt_of_le X3.out.lt hb)); have h4 := Lib.hid (Nat.le_trans QQ.out.size hb); replace X1 := Lib.hid (X1.out.kept qq); replace X3 := Lib.hid (X3.out.kept qq); replace QQ := Lib.hid (Qw.trans QQ.out qq); have X4 := Lib.hid xx; clear xx qq hb) | ((with_reducible refine st_pt (x := ?_) (y := ?_) 3 52 ?_ ?_ X3.out ?_); rotate_left 2; (rfl); (rfl); intro w8 xx qf ot; replace X1 := Lib.hid (ot _ _ _ m3_1.out X1.out); replace X4 := Lib.hid (ot _ _ _ n4_3.out X4.out); replace QQ := Lib.hid (qf _ QQ.out h3.out); replace X3 := Lib.hid xx; clear xx qf ot) | ((with_reducible refine st_pt (x := ?_) (y := ?_) 4 53 ?_ ?_ X4.out ?_); rotate_left 2; (rfl); (rfl); intro w9 xx qf ot; replace X1 := Lib.hid (ot _ _ _ m4_1.out X1.out); replace X3 := Lib.hid (ot _ _ _ m4_3.out X3.out); replace QQ := Lib.hid (qf _ QQ.out h4.out); replace X4 := Lib.hid xx; clear xx qf ot)))
    have c3_0 := X3.out.kp0
    have c3_1 := X3.out.kp1
    have c4_0 := X4.out.kp0
    have c4_1 := X4.out.kp1
    have c1_13 := X1.out.ki13
    try simp only [List.getElem_toArray, List.getElem_cons_succ, List.getElem_cons_zero, Act.put, List.setIfInBounds_toArray, List.set_cons_zero, List.set_cons_succ]
    refine region_kept (by kernel_rfl) (by kernel_rfl) ?_
    repeat (go_big_quiet_step (first | (go_at_call 58; with_reducible exact Kept.call (I1.out _)) | (go_at_call 58; with_reducible exact Kept.call (I2.out _)) | (go_at_call 72; with_reducible exact Kept.call (FT.out _)) | (go_at_call 73; with_reducible exact Kept.call (AG.out _))))
    refine wpQuiet_nil ?_
    intro w10 qq
    clear c3_0 c3_1 c4_0 c4_1 c1_13
    replace X1 := Lib.hid (X1.out.kept qq)
    replace X3 := Lib.hid (X3.out.kept qq)
    replace X4 := Lib.hid (X4.out.kept qq)
    replace QQ := Lib.hid (Qw.trans QQ.out qq)
    clear qq
    go_wp2
    go_ret
    exact ⟨rfl, QQ.out⟩
  · rw [k8] at ag
    have AG := Lib.hid ag
    simp only [Bool.true_and, if_true]
    clear ag
    have QQ : Hid (Qw w w) := Lib.hid (Qw.refl w)
    go_enter Try.func26, Try.ntmps26
    go_upto_region 1 with (go_big_may; ((with_reducible refine box_it (f := ?_) 0 ?_ ?_); rotate_left 1; (rfl); intro w1 B1 hb xx qq; have h1 := Lib.hid (Nat.le_trans QQ.out.size hb); replace QQ := Lib.hid (Qw.trans QQ.out qq); have X1 := Lib.hid xx; clear xx qq hb))
    have c1_0 := X1.out.i0
    have c1_8 := X1.out.i8
    go_upto_region 3 with (go_big_may; (first | (go_at_call 54; ((with_reducible refine (PL.out _).mono ?_); rintro e w2 ⟨rfl, qq⟩; replace X1 := Lib.hid (X1.out.kept qq); replace QQ := Lib.hid (Qw.trans QQ.out qq); clear qq; have c1_12 := X1.out.i12)) | (go_at_call 55; ((with_reducible refine (DI.out _).mono ?_); rintro e w3 ⟨rfl, qq⟩; replace X1 := Lib.hid (X1.out.kept qq); replace QQ := Lib.hid (Qw.trans QQ.out qq); clear qq))))
    clear c1_0 c1_12 c1_8
    have c1_2 := X1.out.ki2
    have c1_3 := X1.out.ki3
    have c1_4 := X1.out.ki4
    have c1_5 := X1.out.ki5
    have c1_6 := X1.out.ki6
    have c1_7 := X1.out.ki7
    have c1_8 := X1.out.ki8
    have c1_9 := X1.out.ki9
    have c1_10 := X1.out.ki10
    have c1_11 := X1.out.ki11
    try simp only [List.getElem_toArray, List.getElem_cons_succ, List.getElem_cons_zero, Act.put, List.setIfInBounds_toArray, List.set_cons_zero, List.set_cons_succ]
    refine region_kept (by kernel_rfl) (by kernel_rfl) ?_
    repeat (go_big_quiet_step (first | (go_at_call 44; with_reducible exact Kept.call (W1.out _)) | (go_at_call 44; with_reducible exact Kept.call (W2.out _)) | (go_at_call 44; with_reducible exact Kept.call (W3.out _)) | (go_at_call 71; with_reducible exact Kept.call (H1.out _)) | (go_at_call 71; with_reducible exact Kept.call (H2.out _))))
    refine wpQuiet_nil ?_
    intro w4 qq
    clear c1_2 c1_3 c1_4 c1_5 c1_6 c1_7 c1_8 c1_9 c1_10 c1_11
    replace X1 := Lib.hid (X1.out.kept qq)
    replace QQ := Lib.hid (Qw.trans QQ.out qq)
    clear qq
    go_upto_region 6 with (go_big_may; (first | ((with_reducible refine ld_it 1 ?_ X1.out ?_); (rfl)) | (go_at_call 28; ((with_reducible refine (SP.out _).mono ?_); rintro e w5 ⟨rfl, qq⟩; replace X1 := Lib.hid (X1.out.kept qq); replace QQ := Lib.hid (Qw.trans QQ.out qq); clear qq)) | ((with_reducible refine al_pt (dst := some 3) ?_); intro w6 B3 hb xx qq; have n3_1 := Lib.hid (Nat.ne_of_gt (Nat.lt_of_lt_of_le X1.out.lt hb)); have m3_1 := Lib.hid (Nat.ne_of_lt (Nat.lt_of_lt_of_le X1.out.lt hb)); have h3 := Lib.hid (Nat.le_trans QQ.out.size hb); replace X1 := Lib.hid (X1.out.kept qq); replace QQ := Lib.hid (Qw.trans QQ.out qq); have X3 := Lib.hid xx; clear xx qq hb) | ((with_reducible refine al_pt (dst := some 4) ?_); intro w7 B4 hb xx qq; have n4_1 := Lib.hid (Nat.ne_of_gt (Nat.lt_of_lt_of_le X1.out.lt hb)); have n4_3 := Lib.hid (Nat.ne_of_gt (Nat.lt_of_lt_of_le X3.out.lt hb)); have m4_1 := Lib.hid (Nat.ne_of_lt (Nat.lt_of_lt_of_le X1.out.lt hb)); have m4_3 := Lib.hid (Nat.ne_of_lt (Nat.lt_of_lt_of_le X3.out.lt hb)); have h4 := Lib.hid (Nat.le_trans QQ.out.size hb); replace X1 := Lib.hid (X1.out.kept qq); replace X3 := Lib.hid (X3.out.kept qq); replace QQ := Lib.hid (Qw.trans QQ.out qq); have X4 := Lib.hid xx; clear xx qq hb) | ((with_reducible refine st_pt (x := ?_) (y := ?_) 3 52 ?_ ?_ X3.out ?_); rotate_left 2; (rfl); (rfl); intro w8 xx qf ot; replace X1 := Lib.hid (ot _ _ _ m3_1.out X1.out); replace X4 := Lib.hid (ot _ _ _ n4_3.out X4.out); replace QQ := Lib.hid (qf _ QQ.out h3.out); replace X3 := Lib.hid xx; clear xx qf ot) | ((with_reducible refine st_pt (x := ?_) (y := ?_) 4 53 ?_ ?_ X4.out ?_); rotate_left 2; (rfl); (rfl); intro w9 xx qf ot; replace X1 := Lib.hid (ot _ _ _ m4_1.out X1.out); replace X3 := Lib.hid (ot _ _ _ m4_3.out X3.out); replace QQ := Lib.hid (qf _ QQ.out h4.out); replace X4 := Lib.hid xx; clear xx qf ot)))
    have c3_0 := X3.out.kp0
    have c3_1 := X3.out.kp1
    have c4_0 := X4.out.kp0
    have c4_1 := X4.out.kp1
    have c1_13 := X1.out.ki13
    try simp only [List.getElem_toArray, List.getElem_cons_succ, List.getElem_cons_zero, Act.put, List.setIfInBounds_toArray, List.set_cons_zero, List.set_cons_succ]
    refine region_kept (by kernel_rfl) (by kernel_rfl) ?_
    repeat (go_big_quiet_step (first | (go_at_call 58; with_reducible exact Kept.call (I1.out _)) | (go_at_call 58; with_reducible exact Kept.call (I2.out _)) | (go_at_call 72; with_reducible exact Kept.call (FT.out _)) | (go_at_call 73; with_reducible exact Kept.call (AG.out _))))
    refine wpQuiet_nil ?_
    intro w10 qq
    clear c3_0 c3_1 c4_0 c4_1 c1_13
    replace X1 := Lib.hid (X1.out.kept qq)
    replace X3 := Lib.hid (X3.out.kept qq)
    replace X4 := Lib.hid (X4.out.kept qq)
    replace QQ := Lib.hid (Qw.trans QQ.out qq)
    clear qq
    go_wp2
    go_ret
    exact ⟨rfl, QQ.out⟩
end Go.Proofs.Ytihmifdadikhaaa

/- Plain words of layer 13: centers from radii, and how far they can lie. -/
set_option linter.unusedVariables false
set_option linter.unusedSimpArgs false
namespace Go.Proofs.Ytihmifdadikhaaa
open Go.RowKit
namespace Ac
/-- The arguments of Radius are right. -/
def rarg (p x y z a b c d r : Int) : Bool := pin p && wth x y z && wth a b c && dirB d && radB r
def rabs (r : Int) : Int := if r < 0 then -r else r
def rsid (d r : Int) : Int := if r < 0 then -d else d
/-- The offset of the center from the middle of the chord. -/
def rad (du dw D rr : Int) : Int := ovv dw (rtv (hi2 (4 * rr * rr - D) 0) 1 2) (4 * D) 2
def raw (du dw D rr : Int) : Int := ovv du (rtv (hi2 (4 * rr * rr - D) 0) 1 2) (4 * D) 2
/-- The three coordinates of the center, and the error, from the positions in the plane. -/
def rvc (p fu0 fw0 fh0 tu0 tw0 rr ss : Int) (n : Nat) : Int :=
  if inn (tu0 - fu0) (tw0 - fw0) (tu0 - fu0) (tw0 - fw0) = 0 ∨ (2 * rr + 2) * (2 * rr + 2) < inn (tu0 - fu0) (tw0 - fw0) (tu0 - fu0) (tw0 - fw0) then 0
  else cdv (sx p ((fu0 + tu0) / 2 - ss * rad (tu0 - fu0) (tw0 - fw0) (inn (tu0 - fu0) (tw0 - fw0) (tu0 - fu0) (tw0 - fw0)) rr) ((fw0 + tw0) / 2 + ss * raw (tu0 - fu0) (tw0 - fw0) (inn (tu0 - fu0) (tw0 - fw0) (tu0 - fu0) (tw0 - fw0)) rr) fh0)
    (sy p ((fu0 + tu0) / 2 - ss * rad (tu0 - fu0) (tw0 - fw0) (inn (tu0 - fu0) (tw0 - fw0) (tu0 - fu0) (tw0 - fw0)) rr) ((fw0 + tw0) / 2 + ss * raw (tu0 - fu0) (tw0 - fw0) (inn (tu0 - fu0) (tw0 - fw0) (tu0 - fu0) (tw0 - fw0)) rr) fh0)
    (sz p ((fu0 + tu0) / 2 - ss * rad (tu0 - fu0) (tw0 - fw0) (inn (tu0 - fu0) (tw0 - fw0) (tu0 - fu0) (tw0 - fw0)) rr) ((fw0 + tw0) / 2 + ss * raw (tu0 - fu0) (tw0 - fw0) (inn (tu0 - fu0) (tw0 - fw0) (tu0 - fu0) (tw0 - fw0)) rr) fh0)
    (if n = 0 then sx p ((fu0 + tu0) / 2 - ss * rad (tu0 - fu0) (tw0 - fw0) (inn (tu0 - fu0) (tw0 - fw0) (tu0 - fu0) (tw0 - fw0)) rr) ((fw0 + tw0) / 2 + ss * raw (tu0 - fu0) (tw0 - fw0) (inn (tu0 - fu0) (tw0 - fw0) (tu0 - fu0) (tw0 - fw0)) rr) fh0
     else if n = 1 then sy p ((fu0 + tu0) / 2 - ss * rad (tu0 - fu0) (tw0 - fw0) (inn (tu0 - fu0) (tw0 - fw0) (tu0 - fu0) (tw0 - fw0)) rr) ((fw0 + tw0) / 2 + ss * raw (tu0 - fu0) (tw0 - fw0) (inn (tu0 - fu0) (tw0 - fw0) (tu0 - fu0) (tw0 - fw0)) rr) fh0
     else sz p ((fu0 + tu0) / 2 - ss * rad (tu0 - fu0) (tw0 - fw0) (inn (tu0 - fu0) (tw0 - fw0) (tu0 - fu0) (tw0 - fw0)) rr) ((fw0 + tw0) / 2 + ss * raw (tu0 - fu0) (tw0 - fw0) (inn (tu0 - fu0) (tw0 - fw0) (tu0 - fu0) (tw0 - fw0)) rr) fh0)
def rec (p fu0 fw0 fh0 tu0 tw0 rr ss : Int) : Int :=
  if inn (tu0 - fu0) (tw0 - fw0) (tu0 - fu0) (tw0 - fw0) = 0 ∨ (2 * rr + 2) * (2 * rr + 2) < inn (tu0 - fu0) (tw0 - fw0) (tu0 - fu0) (tw0 - fw0) then 12
  else cde (sx p ((fu0 + tu0) / 2 - ss * rad (tu0 - fu0) (tw0 - fw0) (inn (tu0 - fu0) (tw0 - fw0) (tu0 - fu0) (tw0 - fw0)) rr) ((fw0 + tw0) / 2 + ss * raw (tu0 - fu0) (tw0 - fw0) (inn (tu0 - fu0) (tw0 - fw0) (tu0 - fu0) (tw0 - fw0)) rr) fh0)
    (sy p ((fu0 + tu0) / 2 - ss * rad (tu0 - fu0) (tw0 - fw0) (inn (tu0 - fu0) (tw0 - fw0) (tu0 - fu0) (tw0 - fw0)) rr) ((fw0 + tw0) / 2 + ss * raw (tu0 - fu0) (tw0 - fw0) (inn (tu0 - fu0) (tw0 - fw0) (tu0 - fu0) (tw0 - fw0)) rr) fh0)
    (sz p ((fu0 + tu0) / 2 - ss * rad (tu0 - fu0) (tw0 - fw0) (inn (tu0 - fu0) (tw0 - fw0) (tu0 - fu0) (tw0 - fw0)) rr) ((fw0 + tw0) / 2 + ss * raw (tu0 - fu0) (tw0 - fw0) (inn (tu0 - fu0) (tw0 - fw0) (tu0 - fu0) (tw0 - fw0)) rr) fh0)
/-- What Radius returns. -/
def rv (p x y z a b c d r : Int) (n : Nat) : Int := if rarg p x y z a b c d r = true then rvc p (fu p x y z) (fw p x y z) (fh p x y z) (fu p a b c) (fw p a b c) (rabs r) (rsid d r) n else 0
def re (p x y z a b c d r : Int) : Int := if rarg p x y z a b c d r = true then rec p (fu p x y z) (fw p x y z) (fh p x y z) (fu p a b c) (fw p a b c) (rabs r) (rsid d r) else 1
section
variable {p x y z a b c d r : Int}
theorem rv_no (h : ¬ rarg p x y z a b c d r = true) {n : Nat} : rv p x y z a b c d r n = 0 := if_neg h
theorem re_no (h : ¬ rarg p x y z a b c d r = true) : re p x y z a b c d r = 1 := if_neg h
theorem rv_yes (h : rarg p x y z a b c d r = true) (n : Nat) : rv p x y z a b c d r n = rvc p (fu p x y z) (fw p x y z) (fh p x y z) (fu p a b c) (fw p a b c) (rabs r) (rsid d r) n := if_pos h
theorem re_yes (h : rarg p x y z a b c d r = true) : re p x y z a b c d r = rec p (fu p x y z) (fw p x y z) (fh p x y z) (fu p a b c) (fw p a b c) (rabs r) (rsid d r) := if_pos h
end
theorem inn_sqs {a b : Int} (h1 : -2097152 ≤ a ∧ a ≤ 2097152) (h2 : -2097152 ≤ b ∧ b ≤ 2097152) : 0 ≤ inn a b a b ∧ inn a b a b ≤ 70368744177664 := by
  have := sq0 a; have := sq0 b
  have := (vsq_bd (a := a) (b := a) (by omega) (by omega) (by omega) (by omega)).2
  have := (vsq_bd (a := b) (b := b) (by omega) (by omega) (by omega) (by omega)).2
  unfold inn; omega
theorem most_bd {r : Int} (h1 : 8 ≤ r) (h2 : r ≤ 1048576) : 0 ≤ (2 * r + 2) * (2 * r + 2) ∧ (2 * r + 2) * (2 * r + 2) ≤ 17592186044416 :=
  ⟨Int.mul_nonneg (by omega) (by omega), Int.mul_le_mul (c := 4194304) (d := 4194304) (by omega) (by omega) (by omega) (by decide)⟩
theorem four_bd {r : Int} (h1 : 8 ≤ r) (h2 : r ≤ 1048576) : 0 ≤ 4 * r * r ∧ 4 * r * r ≤ 4398046511104 :=
  ⟨Int.mul_nonneg (by omega) (by omega), Int.mul_le_mul (c := 4194304) (d := 1048576) (by omega) (by omega) (by omega) (by decide)⟩
theorem g_bd {n : Int} (h0 : 0 ≤ n) (h1 : n ≤ 4398046511104) : 0 ≤ rtv n 1 2 ∧ rtv n 1 2 ≤ 2097153 := by
  obtain ⟨_, v⟩ := sqrt_plain n 2 h0 (by omega) (by decide) (by decide)
  have s := Mth.rt_spec n h0
  have s0 := Mth.rt_nonneg n
  have q : Mth.rt n ≤ 2097152 := Mth.isq_le_of s0 (by decide) (by omega)
  rw [v]
  unfold Mth.rnd
  simp only [Bool.false_eq_true, if_false]
  split <;> omega
theorem mag_sq (a : Int) : Mth.mag a * Mth.mag a = a * a := by
  unfold Mth.mag
  split
  · rw [Int.neg_mul_neg]
  · rfl
theorem ov_rq {a g D : Int} (g1 : 0 ≤ g) (hD : 1 ≤ D) (hs : a * a ≤ D) : 0 ≤ rq (psq a g) (4 * D) ∧ rq (psq a g) (4 * D) ≤ g := by
  have p0 : 0 ≤ psq a g := Int.mul_nonneg (Int.mul_nonneg (Mth.mag_nonneg a) (Mth.mag_nonneg g)) (Int.mul_nonneg (Mth.mag_nonneg a) (Mth.mag_nonneg g))
  have e : psq a g = a * a * (g * g) := by
    unfold psq
    rw [← mag_sq a, ← mag_sq g]
    simp only [Int.mul_assoc, Int.mul_left_comm]
  have g2 : 0 ≤ g * g := sq0 g
  have u : psq a g ≤ g * g * (4 * D) := by
    rw [e]
    have m1 := Int.mul_le_mul_of_nonneg_right hs g2
    have m2 := Int.mul_nonneg g2 (show 0 ≤ D by omega)
    rw [Int.mul_comm D (g * g)] at m1
    rw [show g * g * (4 * D) = 4 * (g * g * D) by rw [← Int.mul_assoc, Int.mul_comm (g * g) 4, Int.mul_assoc]]
    omega
  have q : psq a g / (4 * D) ≤ g * g := Int.ediv_le_of_le_mul (by omega) u
  have q0 : 0 ≤ psq a g / (4 * D) := Int.ediv_nonneg p0 (by omega)
  have s := Mth.rt_spec _ q0
  have s0 := Mth.rt_nonneg (psq a g / (4 * D))
  unfold rq
  refine ⟨s0, Mth.isq_le_of s0 g1 ?_⟩
  have : (g + 1) * (g + 1) = g * g + g + g + 1 := by rw [Int.mul_add, Int.add_mul]; omega
  omega
theorem ov_bd {a g D : Int} (h1 : -2097152 ≤ a ∧ a ≤ 2097152) (g1 : 0 ≤ g) (g2 : g ≤ 2097153) (hD : 1 ≤ D) (hs : a * a ≤ D) (hD2 : D ≤ 70368744177664) : -2097154 ≤ ovv a g (4 * D) 2 ∧ ovv a g (4 * D) 2 ≤ 2097154 := by
  obtain ⟨_, v⟩ := ov_ok a g (4 * D) 2 (by omega) (by omega) (by omega) (by omega) (by omega) (by omega) (by decide) (by decide)
  obtain ⟨q0, q1⟩ := ov_rq (a := a) g1 hD hs
  have b := rnd_bound 2 (sg a g) (rq (psq a g) (4 * D)) (rr (psq a g) (4 * D)) q0
  rw [v]
  omega
theorem solid_bd {p u v h L : Int} (l0 : 0 ≤ L) (h1 : -L ≤ u ∧ u ≤ L) (h2 : -L ≤ v ∧ v ≤ L) (h3 : -L ≤ h ∧ h ≤ L) : (-L ≤ sx p u v h ∧ sx p u v h ≤ L) ∧ (-L ≤ sy p u v h ∧ sy p u v h ≤ L) ∧ (-L ≤ sz p u v h ∧ sz p u v h ≤ L) := by
  unfold sx sy sz
  by_cases k1 : p = 17
  · simp only [k1, if_true]; exact ⟨h1, h2, h3⟩
  · by_cases k2 : p = 18
    · simp only [k2, if_true, if_false]; exact ⟨h2, h3, h1⟩
    · by_cases k3 : p = 19
      · simp only [k3, if_true, if_false]; exact ⟨h3, h1, h2⟩
      · simp only [k1, k2, k3, if_false]; omega
end Ac
end Go.Proofs.Ytihmifdadikhaaa
