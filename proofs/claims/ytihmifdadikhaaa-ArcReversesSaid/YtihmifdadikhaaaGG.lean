import Derived.Test.YtihmifdadikhaaaGE

/- The walks of the specification of layer 13: points, spokes, halves, sweeps. -/
set_option linter.unusedVariables false
set_option linter.unusedSimpArgs false
namespace Go.Proofs.Ytihmifdadikhaaa
open Go.RowKit

set_option maxRecDepth 100000 in
set_option maxHeartbeats 2000000 in
theorem arPt (p x y z : Int) (p1 : -9223372036854775808 ≤ p) (p2 : p ≤ 9223372036854775807) (w : World) :
    Calls Try.prog 19 #[.int .i64 p, .agg #[.int .i64 x, .int .i64 y, .int .i64 z]] w fun e w' => e = .returned (.agg #[.int .i64 (fu p x y z), .int .i64 (fw p x y z)]) ∧ Qw w w' := by
  have f1 := fun w => vr_flat p x y z p1 p2 w
  generalize fu p x y z = u1 at *
  generalize fw p x y z = v1 at *
  generalize fh p x y z = h1 at *
  have F1 := Lib.hid f1
  clear f1
  have QQ : Hid (Qw w w) := Lib.hid (Qw.refl w)
  go_enter Try.func19, Try.ntmps19
  go_upto_region 1 with (go_big_may; (first | ((with_reducible refine box_vec (x := ?_) (y := ?_) (z := ?_) 1 ?_ ?_); rotate_left 3; (rfl); intro w1 B3 hb xx qq; have h3 := Lib.hid (Nat.le_trans QQ.out.size hb); replace QQ := Lib.hid (Qw.trans QQ.out qq); have X3 := Lib.hid xx; clear xx qq hb) | ((with_reducible refine al_pt (dst := some 4) ?_); intro w2 B4 hb xx qq; have n4_3 := Lib.hid (Nat.ne_of_gt (Nat.lt_of_lt_of_le X3.out.lt hb)); have m4_3 := Lib.hid (Nat.ne_of_lt (Nat.lt_of_lt_of_le X3.out.lt hb)); have h4 := Lib.hid (Nat.le_trans QQ.out.size hb); replace X3 := Lib.hid (X3.out.kept qq); replace QQ := Lib.hid (Qw.trans QQ.out qq); have X4 := Lib.hid xx; clear xx qq hb)))
  go_upto_region 2 with (go_big_may; (first | ((with_reducible refine ld_vec 3 ?_ X3.out ?_); (rfl)) | (go_at_call 52; ((with_reducible refine (F1.out _).mono ?_); rintro e w3 ⟨rfl, qq⟩; replace X3 := Lib.hid (X3.out.kept qq); replace X4 := Lib.hid (X4.out.kept qq); replace QQ := Lib.hid (Qw.trans QQ.out qq); clear qq)) | ((with_reducible refine al_pt (dst := some 5) ?_); intro w4 B5 hb xx qq; have n5_3 := Lib.hid (Nat.ne_of_gt (Nat.lt_of_lt_of_le X3.out.lt hb)); have n5_4 := Lib.hid (Nat.ne_of_gt (Nat.lt_of_lt_of_le X4.out.lt hb)); have m5_3 := Lib.hid (Nat.ne_of_lt (Nat.lt_of_lt_of_le X3.out.lt hb)); have m5_4 := Lib.hid (Nat.ne_of_lt (Nat.lt_of_lt_of_le X4.out.lt hb)); have h5 := Lib.hid (Nat.le_trans QQ.out.size hb); replace X3 := Lib.hid (X3.out.kept qq); replace X4 := Lib.hid (X4.out.kept qq); replace QQ := Lib.hid (Qw.trans QQ.out qq); have X5 := Lib.hid xx; clear xx qq hb) | ((with_reducible refine st_pt (x := ?_) (y := ?_) 5 12 ?_ ?_ X5.out ?_); rotate_left 2; (rfl); (rfl); intro w5 xx qf ot; replace X3 := Lib.hid (ot _ _ _ m5_3.out X3.out); replace X4 := Lib.hid (ot _ _ _ m5_4.out X4.out); replace QQ := Lib.hid (qf _ QQ.out h5.out); replace X5 := Lib.hid xx; clear xx qf ot)))
  go_wp2_with (first | ((with_reducible refine ld_pt 5 ?_ X5.out ?_); (rfl)) | ((with_reducible refine st_pt (x := ?_) (y := ?_) 4 15 ?_ ?_ X4.out ?_); rotate_left 2; (rfl); (rfl); intro w6 xx qf ot; replace X3 := Lib.hid (ot _ _ _ m4_3.out X3.out); replace X5 := Lib.hid (ot _ _ _ n5_4.out X5.out); replace QQ := Lib.hid (qf _ QQ.out h4.out); replace X4 := Lib.hid xx; clear xx qf ot))
  have c4_0 := X4.out.p0
  have c4_1 := X4.out.p1
  exact bodyPost_ret (v := .agg #[.int .i64 u1, .int .i64 v1]) (by simp [results, Try.results19, go_sem, c4_0, c4_1]) rfl ⟨rfl, QQ.out⟩
set_option maxRecDepth 100000 in
set_option maxHeartbeats 2000000 in
theorem arHeight (p x y z : Int) (p1 : -9223372036854775808 ≤ p) (p2 : p ≤ 9223372036854775807) (w : World) :
    Calls Try.prog 41 #[.int .i64 p, .agg #[.int .i64 x, .int .i64 y, .int .i64 z]] w fun e w' => e = .returned (.int .i64 (fh p x y z)) ∧ Qw w w' := by
  have f1 := fun w => vr_flat p x y z p1 p2 w
  generalize fu p x y z = u1 at *
  generalize fw p x y z = v1 at *
  generalize fh p x y z = h1 at *
  have F1 := Lib.hid f1
  clear f1
  have QQ : Hid (Qw w w) := Lib.hid (Qw.refl w)
  go_enter Try.func41, Try.ntmps41
  go_upto_region 1 with (go_big_may; ((with_reducible refine box_vec (x := ?_) (y := ?_) (z := ?_) 1 ?_ ?_); rotate_left 3; (rfl); intro w1 B3 hb xx qq; have h3 := Lib.hid (Nat.le_trans QQ.out.size hb); replace QQ := Lib.hid (Qw.trans QQ.out qq); have X3 := Lib.hid xx; clear xx qq hb))
  go_upto_region 2 with (go_big_may; (first | ((with_reducible refine ld_vec 3 ?_ X3.out ?_); (rfl)) | (go_at_call 52; ((with_reducible refine (F1.out _).mono ?_); rintro e w2 ⟨rfl, qq⟩; replace X3 := Lib.hid (X3.out.kept qq); replace QQ := Lib.hid (Qw.trans QQ.out qq); clear qq)) | ((with_reducible refine al_pt (dst := some 5) ?_); intro w3 B5 hb xx qq; have n5_3 := Lib.hid (Nat.ne_of_gt (Nat.lt_of_lt_of_le X3.out.lt hb)); have m5_3 := Lib.hid (Nat.ne_of_lt (Nat.lt_of_lt_of_le X3.out.lt hb)); have h5 := Lib.hid (Nat.le_trans QQ.out.size hb); replace X3 := Lib.hid (X3.out.kept qq); replace QQ := Lib.hid (Qw.trans QQ.out qq); have X5 := Lib.hid xx; clear xx qq hb) | ((with_reducible refine st_pt (x := ?_) (y := ?_) 5 12 ?_ ?_ X5.out ?_); rotate_left 2; (rfl); (rfl); intro w4 xx qf ot; replace X3 := Lib.hid (ot _ _ _ m5_3.out X3.out); replace QQ := Lib.hid (qf _ QQ.out h5.out); replace X5 := Lib.hid xx; clear xx qf ot)))
  go_wp2
  go_ret
  exact ⟨rfl, QQ.out⟩
set_option maxRecDepth 100000 in
set_option maxHeartbeats 2000000 in
theorem arAt (p u v h : Int) (p1 : -9223372036854775808 ≤ p) (p2 : p ≤ 9223372036854775807) (w : World) :
    Calls Try.prog 18 #[.int .i64 p, .agg #[.int .i64 u, .int .i64 v], .int .i64 h] w fun e w' => e = .returned (.agg #[.int .i64 (sx p u v h), .int .i64 (sy p u v h), .int .i64 (sz p u v h)]) ∧ Qw w w' := by
  have f1 := fun w => vr_solid p u v h p1 p2 w
  generalize sx p u v h = u1 at *
  generalize sy p u v h = v1 at *
  generalize sz p u v h = h1 at *
  have F1 := Lib.hid f1
  clear f1
  have QQ : Hid (Qw w w) := Lib.hid (Qw.refl w)
  go_enter Try.func18, Try.ntmps18
  go_upto_region 1 with (go_big_may; (first | ((with_reducible refine box_pt (x := ?_) (y := ?_) 1 ?_ ?_); rotate_left 2; (rfl); intro w1 B4 hb xx qq; have h4 := Lib.hid (Nat.le_trans QQ.out.size hb); replace QQ := Lib.hid (Qw.trans QQ.out qq); have X4 := Lib.hid xx; clear xx qq hb) | ((with_reducible refine al_vec (dst := some 6) ?_); intro w2 B6 hb xx qq; have n6_4 := Lib.hid (Nat.ne_of_gt (Nat.lt_of_lt_of_le X4.out.lt hb)); have m6_4 := Lib.hid (Nat.ne_of_lt (Nat.lt_of_lt_of_le X4.out.lt hb)); have h6 := Lib.hid (Nat.le_trans QQ.out.size hb); replace X4 := Lib.hid (X4.out.kept qq); replace QQ := Lib.hid (Qw.trans QQ.out qq); have X6 := Lib.hid xx; clear xx qq hb)))
  go_upto_region 2 with (go_big_may; (first | ((with_reducible refine ld_pt 4 ?_ X4.out ?_); (rfl)) | (go_at_call 51; ((with_reducible refine (F1.out _).mono ?_); rintro e w3 ⟨rfl, qq⟩; replace X4 := Lib.hid (X4.out.kept qq); replace X6 := Lib.hid (X6.out.kept qq); replace QQ := Lib.hid (Qw.trans QQ.out qq); clear qq)) | ((with_reducible refine al_vec (dst := some 7) ?_); intro w4 B7 hb xx qq; have n7_4 := Lib.hid (Nat.ne_of_gt (Nat.lt_of_lt_of_le X4.out.lt hb)); have n7_6 := Lib.hid (Nat.ne_of_gt (Nat.lt_of_lt_of_le X6.out.lt hb)); have m7_4 := Lib.hid (Nat.ne_of_lt (Nat.lt_of_lt_of_le X4.out.lt hb)); have m7_6 := Lib.hid (Nat.ne_of_lt (Nat.lt_of_lt_of_le X6.out.lt hb)); have h7 := Lib.hid (Nat.le_trans QQ.out.size hb); replace X4 := Lib.hid (X4.out.kept qq); replace X6 := Lib.hid (X6.out.kept qq); replace QQ := Lib.hid (Qw.trans QQ.out qq); have X7 := Lib.hid xx; clear xx qq hb) | ((with_reducible refine st_vec (x := ?_) (y := ?_) (z := ?_) 7 14 ?_ ?_ X7.out ?_); rotate_left 3; (rfl); (rfl); intro w5 xx qf ot; replace X4 := Lib.hid (ot _ _ _ m7_4.out X4.out); replace X6 := Lib.hid (ot _ _ _ m7_6.out X6.out); replace QQ := Lib.hid (qf _ QQ.out h7.out); replace X7 := Lib.hid xx; clear xx qf ot)))
  go_wp2_with (first | ((with_reducible refine ld_vec 7 ?_ X7.out ?_); (rfl)) | ((with_reducible refine st_vec (x := ?_) (y := ?_) (z := ?_) 6 16 ?_ ?_ X6.out ?_); rotate_left 3; (rfl); (rfl); intro w6 xx qf ot; replace X4 := Lib.hid (ot _ _ _ m6_4.out X4.out); replace X7 := Lib.hid (ot _ _ _ n7_6.out X7.out); replace QQ := Lib.hid (qf _ QQ.out h6.out); replace X6 := Lib.hid xx; clear xx qf ot))
  have c6_0 := X6.out.v0
  have c6_1 := X6.out.v1
  have c6_2 := X6.out.v2
  exact bodyPost_ret (v := .agg #[.int .i64 u1, .int .i64 v1, .int .i64 h1]) (by simp [results, Try.results18, go_sem, c6_0, c6_1, c6_2]) rfl ⟨rfl, QQ.out⟩
set_option maxRecDepth 100000 in
set_option maxHeartbeats 2000000 in
theorem arSub (u v a b : Int) (u1 : -4194304 ≤ u) (u2 : u ≤ 4194304) (v1 : -4194304 ≤ v) (v2 : v ≤ 4194304) (a1 : -4194304 ≤ a) (a2 : a ≤ 4194304) (b1 : -4194304 ≤ b) (b2 : b ≤ 4194304) (w : World) :
    Calls Try.prog 38 #[.agg #[.int .i64 u, .int .i64 v], .agg #[.int .i64 a, .int .i64 b]] w fun e w' => e = .returned (.agg #[.int .i64 (u - a), .int .i64 (v - b)]) ∧ Qw w w' := by

  have QQ : Hid (Qw w w) := Lib.hid (Qw.refl w)
  go_enter Try.func38, Try.ntmps38
  go_upto_region 1 with (go_big_may; (first | ((with_reducible refine box_pt (x := ?_) (y := ?_) 0 ?_ ?_); rotate_left 2; (rfl); intro w1 B2 hb xx qq; have h2 := Lib.hid (Nat.le_trans QQ.out.size hb); replace QQ := Lib.hid (Qw.trans QQ.out qq); have X2 := Lib.hid xx; clear xx qq hb) | ((with_reducible refine box_pt (x := ?_) (y := ?_) 1 ?_ ?_); rotate_left 2; (rfl); intro w2 B3 hb xx qq; have n3_2 := Lib.hid (Nat.ne_of_gt (Nat.lt_of_lt_of_le X2.out.lt hb)); have m3_2 := Lib.hid (Nat.ne_of_lt (Nat.lt_of_lt_of_le X2.out.lt hb)); have h3 := Lib.hid (Nat.le_trans QQ.out.size hb); replace X2 := Lib.hid (X2.out.kept qq); replace QQ := Lib.hid (Qw.trans QQ.out qq); have X3 := Lib.hid xx; clear xx qq hb) | ((with_reducible refine al_pt (dst := some 4) ?_); intro w3 B4 hb xx qq; have n4_2 := Lib.hid (Nat.ne_of_gt (Nat.lt_of_lt_of_le X2.out.lt hb)); have n4_3 := Lib.hid (Nat.ne_of_gt (Nat.lt_of_lt_of_le X3.out.lt hb)); have m4_2 := Lib.hid (Nat.ne_of_lt (Nat.lt_of_lt_of_le X2.out.lt hb)); have m4_3 := Lib.hid (Nat.ne_of_lt (Nat.lt_of_lt_of_le X3.out.lt hb)); have h4 := Lib.hid (Nat.le_trans QQ.out.size hb); replace X2 := Lib.hid (X2.out.kept qq); replace X3 := Lib.hid (X3.out.kept qq); replace QQ := Lib.hid (Qw.trans QQ.out qq); have X4 := Lib.hid xx; clear xx qq hb)))
  have c2_0 := X2.out.p0
  have c2_1 := X2.out.p1
  have c3_0 := X3.out.p0
  have c3_1 := X3.out.p1
  go_wp2_with ((with_reducible refine st_pt (x := ?_) (y := ?_) 4 15 ?_ ?_ X4.out ?_); rotate_left 2; (rfl); (rfl); intro w4 xx qf ot; replace X2 := Lib.hid (ot _ _ _ m4_2.out X2.out); replace X3 := Lib.hid (ot _ _ _ m4_3.out X3.out); replace QQ := Lib.hid (qf _ QQ.out h4.out); replace X4 := Lib.hid xx; clear xx qf ot)
  have c4_0 := X4.out.p0
  have c4_1 := X4.out.p1
  exact bodyPost_ret (v := .agg #[.int .i64 (u - a), .int .i64 (v - b)]) (by simp [results, Try.results38, go_sem, c4_0, c4_1]) rfl ⟨rfl, QQ.out⟩
set_option maxRecDepth 100000 in
set_option maxHeartbeats 2000000 in
theorem arAddPt (u v a b : Int) (u1 : -4194304 ≤ u) (u2 : u ≤ 4194304) (v1 : -4194304 ≤ v) (v2 : v ≤ 4194304) (a1 : -4194304 ≤ a) (a2 : a ≤ 4194304) (b1 : -4194304 ≤ b) (b2 : b ≤ 4194304) (w : World) :
    Calls Try.prog 70 #[.agg #[.int .i64 u, .int .i64 v], .agg #[.int .i64 a, .int .i64 b]] w fun e w' => e = .returned (.agg #[.int .i64 (u + a), .int .i64 (v + b)]) ∧ Qw w w' := by

  have QQ : Hid (Qw w w) := Lib.hid (Qw.refl w)
  go_enter Try.func70, Try.ntmps70
  go_upto_region 1 with (go_big_may; (first | ((with_reducible refine box_pt (x := ?_) (y := ?_) 0 ?_ ?_); rotate_left 2; (rfl); intro w1 B2 hb xx qq; have h2 := Lib.hid (Nat.le_trans QQ.out.size hb); replace QQ := Lib.hid (Qw.trans QQ.out qq); have X2 := Lib.hid xx; clear xx qq hb) | ((with_reducible refine box_pt (x := ?_) (y := ?_) 1 ?_ ?_); rotate_left 2; (rfl); intro w2 B3 hb xx qq; have n3_2 := Lib.hid (Nat.ne_of_gt (Nat.lt_of_lt_of_le X2.out.lt hb)); have m3_2 := Lib.hid (Nat.ne_of_lt (Nat.lt_of_lt_of_le X2.out.lt hb)); have h3 := Lib.hid (Nat.le_trans QQ.out.size hb); replace X2 := Lib.hid (X2.out.kept qq); replace QQ := Lib.hid (Qw.trans QQ.out qq); have X3 := Lib.hid xx; clear xx qq hb) | ((with_reducible refine al_pt (dst := some 4) ?_); intro w3 B4 hb xx qq; have n4_2 := Lib.hid (Nat.ne_of_gt (Nat.lt_of_lt_of_le X2.out.lt hb)); have n4_3 := Lib.hid (Nat.ne_of_gt (Nat.lt_of_lt_of_le X3.out.lt hb)); have m4_2 := Lib.hid (Nat.ne_of_lt (Nat.lt_of_lt_of_le X2.out.lt hb)); have m4_3 := Lib.hid (Nat.ne_of_lt (Nat.lt_of_lt_of_le X3.out.lt hb)); have h4 := Lib.hid (Nat.le_trans QQ.out.size hb); replace X2 := Lib.hid (X2.out.kept qq); replace X3 := Lib.hid (X3.out.kept qq); replace QQ := Lib.hid (Qw.trans QQ.out qq); have X4 := Lib.hid xx; clear xx qq hb)))
  have c2_0 := X2.out.p0
  have c2_1 := X2.out.p1
  have c3_0 := X3.out.p0
  have c3_1 := X3.out.p1
  go_wp2_with ((with_reducible refine st_pt (x := ?_) (y := ?_) 4 15 ?_ ?_ X4.out ?_); rotate_left 2; (rfl); (rfl); intro w4 xx qf ot; replace X2 := Lib.hid (ot _ _ _ m4_2.out X2.out); replace X3 := Lib.hid (ot _ _ _ m4_3.out X3.out); replace QQ := Lib.hid (qf _ QQ.out h4.out); replace X4 := Lib.hid xx; clear xx qf ot)
  have c4_0 := X4.out.p0
  have c4_1 := X4.out.p1
  exact bodyPost_ret (v := .agg #[.int .i64 (u + a), .int .i64 (v + b)]) (by simp [results, Try.results70, go_sem, c4_0, c4_1]) rfl ⟨rfl, QQ.out⟩
set_option maxRecDepth 100000 in
set_option maxHeartbeats 2000000 in
theorem arPlane (p : Int) (w : World) : Calls Try.prog 47 #[.int .i64 p] w fun e w' => e = .returned (.bool (pin p)) ∧ Qw w w' := by
  by_cases k1 : p = 17
  · subst k1
    go_enter Try.func47, Try.ntmps47
    go_wp2
    go_ret
    exact ⟨rfl, Qw.refl _⟩
  by_cases k2 : p = 18
  · subst k2
    go_enter Try.func47, Try.ntmps47
    go_wp2
    go_ret
    exact ⟨rfl, Qw.refl _⟩
  by_cases k3 : p = 19
  · subst k3
    go_enter Try.func47, Try.ntmps47
    go_wp2
    go_ret
    exact ⟨rfl, Qw.refl _⟩
  · have e : pin p = false := by simp [pin, k1, k2, k3]
    have y1 : (p == 17) = false := beq_eq_false_iff_ne.2 k1
    have y2 : (p == 18) = false := beq_eq_false_iff_ne.2 k2
    have y3 : (p == 19) = false := beq_eq_false_iff_ne.2 k3
    rw [e]
    clear e k1 k2 k3
    go_enter Try.func47, Try.ntmps47
    go_wp2
    go_ret
    exact ⟨rfl, Qw.refl _⟩
set_option maxRecDepth 100000 in
set_option maxHeartbeats 2000000 in
theorem arSpokes (i : Ac.I) (h : Ac.Near i) (w : World) :
    Calls Try.prog 29 #[.agg (itc i)] w fun e w' => e = .returned (.tuple #[.agg #[.int .i64 (Ac.au i), .int .i64 (Ac.aw i)], .agg #[.int .i64 (Ac.bu i), .int .i64 (Ac.bw i)]]) ∧ Qw w w' := by
  have pc := fun w' => arPt i.p i.cx i.cy i.cz h.p.1 h.p.2 w'
  have pf := fun w' => arPt i.p i.fx i.fy i.fz h.p.1 h.p.2 w'
  have pg := fun w' => arPt i.p i.tx i.ty i.tz h.p.1 h.p.2 w'
  have c1 := Ac.flat_le (p := i.p) (L := 1048576) (by decide) h.fx h.fy h.fz
  have c2 := Ac.flat_le (p := i.p) (L := 1048576) (by decide) h.tx h.ty h.tz
  have c3 := Ac.flat_le (p := i.p) (L := 1048576) (by decide) h.cx h.cy h.cz
  unfold Ac.au Ac.aw Ac.bu Ac.bw
  generalize fu i.p i.cx i.cy i.cz = C0 at *
  generalize fw i.p i.cx i.cy i.cz = C1 at *
  generalize fu i.p i.fx i.fy i.fz = F0 at *
  generalize fw i.p i.fx i.fy i.fz = F1 at *
  generalize fu i.p i.tx i.ty i.tz = G0 at *
  generalize fw i.p i.tx i.ty i.tz = G1 at *
  have s1 := fun w' => arSub F0 F1 C0 C1 (by omega) (by omega) (by omega) (by omega) (by omega) (by omega) (by omega) (by omega) w'
  have s2 := fun w' => arSub G0 G1 C0 C1 (by omega) (by omega) (by omega) (by omega) (by omega) (by omega) (by omega) (by omega) w'
  have PC := Lib.hid pc
  have PF := Lib.hid pf
  have PG := Lib.hid pg
  have S1 := Lib.hid s1
  have S2 := Lib.hid s2
  clear pc pf pg s1 s2 c1 c2 c3
  have QQ : Hid (Qw w w) := Lib.hid (Qw.refl w)
  go_enter Try.func29, Try.ntmps29
  go_upto_region 1 with (go_big_may; (first | ((with_reducible refine box_it (f := ?_) 0 ?_ ?_); rotate_left 1; (rfl); intro w1 B1 hb xx qq; have h1 := Lib.hid (Nat.le_trans QQ.out.size hb); replace QQ := Lib.hid (Qw.trans QQ.out qq); have X1 := Lib.hid xx; clear xx qq hb) | ((with_reducible refine al_pt (dst := some 2) ?_); intro w2 B2 hb xx qq; have n2_1 := Lib.hid (Nat.ne_of_gt (Nat.lt_of_lt_of_le X1.out.lt hb)); have m2_1 := Lib.hid (Nat.ne_of_lt (Nat.lt_of_lt_of_le X1.out.lt hb)); have h2 := Lib.hid (Nat.le_trans QQ.out.size hb); replace X1 := Lib.hid (X1.out.kept qq); replace QQ := Lib.hid (Qw.trans QQ.out qq); have X2 := Lib.hid xx; clear xx qq hb) | ((with_reducible refine al_pt (dst := some 3) ?_); intro w3 B3 hb xx qq; have n3_1 := Lib.hid (Nat.ne_of_gt (Nat.lt_of_lt_of_le X1.out.lt hb)); have n3_2 := Lib.hid (Nat.ne_of_gt (Nat.lt_of_lt_of_le X2.out.lt hb)); have m3_1 := Lib.hid (Nat.ne_of_lt (Nat.lt_of_lt_of_le X1.out.lt hb)); have m3_2 := Lib.hid (Nat.ne_of_lt (Nat.lt_of_lt_of_le X2.out.lt hb)); have h3 := Lib.hid (Nat.le_trans QQ.out.size hb); replace X1 := Lib.hid (X1.out.kept qq); replace X2 := Lib.hid (X2.out.kept qq); replace QQ := Lib.hid (Qw.trans QQ.out qq); have X3 := Lib.hid xx; clear xx qq hb)))
  have c1_8 := X1.out.i8
  have c1_9 := X1.out.i9
  have c1_10 := X1.out.i10
  have c1_11 := X1.out.i11
  go_upto_region 2 with (go_big_may; (first | (go_at_call 19; ((with_reducible refine (PC.out _).mono ?_); rintro e w4 ⟨rfl, qq⟩; replace X1 := Lib.hid (X1.out.kept qq); replace X2 := Lib.hid (X2.out.kept qq); replace X3 := Lib.hid (X3.out.kept qq); replace QQ := Lib.hid (Qw.trans QQ.out qq); clear qq)) | ((with_reducible refine al_pt (dst := some 4) ?_); intro w5 B4 hb xx qq; have n4_1 := Lib.hid (Nat.ne_of_gt (Nat.lt_of_lt_of_le X1.out.lt hb)); have n4_2 := Lib.hid (Nat.ne_of_gt (Nat.lt_of_lt_of_le X2.out.lt hb)); have n4_3 := Lib.hid (Nat.ne_of_gt (Nat.lt_of_lt_of_le X3.out.lt hb)); have m4_1 := Lib.hid (Nat.ne_of_lt (Nat.lt_of_lt_of_le X1.out.lt hb)); have m4_2 := Lib.hid (Nat.ne_of_lt (Nat.lt_of_lt_of_le X2.out.lt hb)); have m4_3 := Lib.hid (Nat.ne_of_lt (Nat.lt_of_lt_of_le X3.out.lt hb)); have h4 := Lib.hid (Nat.le_trans QQ.out.size hb); replace X1 := Lib.hid (X1.out.kept qq); replace X2 := Lib.hid (X2.out.kept qq); replace X3 := Lib.hid (X3.out.kept qq); replace QQ := Lib.hid (Qw.trans QQ.out qq); have X4 := Lib.hid xx; clear xx qq hb) | ((with_reducible refine st_pt (x := ?_) (y := ?_) 4 9 ?_ ?_ X4.out ?_); rotate_left 2; (rfl); (rfl); intro w6 xx qf ot; replace X1 := Lib.hid (ot _ _ _ m4_1.out X1.out); replace X2 := Lib.hid (ot _ _ _ m4_2.out X2.out); replace X3 := Lib.hid (ot _ _ _ m4_3.out X3.out); replace QQ := Lib.hid (qf _ QQ.out h4.out); replace X4 := Lib.hid xx; clear xx qf ot)))
  clear c1_10 c1_11 c1_8 c1_9
  have c1_2 := X1.out.ki2
  have c1_3 := X1.out.ki3
  have c1_4 := X1.out.ki4
  have c1_5 := X1.out.ki5
  have c1_6 := X1.out.ki6
  have c1_7 := X1.out.ki7
  have c1_8 := X1.out.ki8
  have c4_0 := X4.out.kp0
  have c4_1 := X4.out.kp1
  try simp only [List.getElem_toArray, List.getElem_cons_succ, List.getElem_cons_zero, Act.put, List.setIfInBounds_toArray, List.set_cons_zero, List.set_cons_succ]
  refine region_kept_tail 14 (by kernel_rfl) (by kernel_rfl) ?_
  simp only [List.take_succ_cons, List.take_zero, List.drop_succ_cons, List.drop_zero]
  repeat (go_big_quiet_step (first | (go_at_call 19; with_reducible exact Kept.call (PF.out _)) | (go_at_call 38; with_reducible exact Kept.call (S1.out _)) | (go_at_call 19; with_reducible exact Kept.call (PG.out _)) | (go_at_call 38; with_reducible exact Kept.call (S2.out _))))
  refine wpQuiet_nil ?_
  intro w7 qq
  clear c1_2 c1_3 c1_4 c1_5 c1_6 c1_7 c1_8 c4_0 c4_1
  replace X1 := Lib.hid (X1.out.kept qq)
  replace X2 := Lib.hid (X2.out.kept qq)
  replace X3 := Lib.hid (X3.out.kept qq)
  replace X4 := Lib.hid (X4.out.kept qq)
  replace QQ := Lib.hid (Qw.trans QQ.out qq)
  clear qq
  go_wp2_with (first | ((with_reducible refine st_pt (x := ?_) (y := ?_) 2 16 ?_ ?_ X2.out ?_); rotate_left 2; (rfl); (rfl); intro w8 xx qf ot; replace X1 := Lib.hid (ot _ _ _ m2_1.out X1.out); replace X3 := Lib.hid (ot _ _ _ n3_2.out X3.out); replace X4 := Lib.hid (ot _ _ _ n4_2.out X4.out); replace QQ := Lib.hid (qf _ QQ.out h2.out); replace X2 := Lib.hid xx; clear xx qf ot) | ((with_reducible refine st_pt (x := ?_) (y := ?_) 3 23 ?_ ?_ X3.out ?_); rotate_left 2; (rfl); (rfl); intro w9 xx qf ot; replace X1 := Lib.hid (ot _ _ _ m3_1.out X1.out); replace X2 := Lib.hid (ot _ _ _ m3_2.out X2.out); replace X4 := Lib.hid (ot _ _ _ n4_3.out X4.out); replace QQ := Lib.hid (qf _ QQ.out h3.out); replace X3 := Lib.hid xx; clear xx qf ot))
  have c2_0 := X2.out.p0
  have c2_1 := X2.out.p1
  have c3_0 := X3.out.p0
  have c3_1 := X3.out.p1
  exact bodyPost_ret (v := .tuple #[.agg #[.int .i64 (F0 - C0), .int .i64 (F1 - C1)], .agg #[.int .i64 (G0 - C0), .int .i64 (G1 - C1)]]) (by simp [results, Try.results29, go_sem, c2_0, c2_1, c3_0, c3_1]) rfl ⟨rfl, QQ.out⟩
namespace Ac
theorem cr_bd {u v a b : Int} (u1 : -4194304 ≤ u) (u2 : u ≤ 4194304) (v1 : -4194304 ≤ v) (v2 : v ≤ 4194304) (a1 : -4194304 ≤ a) (a2 : a ≤ 4194304) (b1 : -4194304 ≤ b) (b2 : b ≤ 4194304) : -70368744177664 ≤ cr u v a b ∧ cr u v a b ≤ 70368744177664 := by
  obtain ⟨p1, p2⟩ := vsq_bd u1 u2 b1 b2
  obtain ⟨p3, p4⟩ := vsq_bd v1 v2 a1 a2
  unfold cr
  omega
end Ac
set_option maxRecDepth 100000 in
set_option maxHeartbeats 2000000 in
theorem arHalf (u v a b d : Int) (u1 : -4194304 ≤ u) (u2 : u ≤ 4194304) (v1 : -4194304 ≤ v) (v2 : v ≤ 4194304) (a1 : -4194304 ≤ a) (a2 : a ≤ 4194304) (b1 : -4194304 ≤ b) (b2 : b ≤ 4194304) (d1 : d = 1 ∨ d = -1) (w : World) :
    Calls Try.prog 102 #[.agg #[.int .i64 u, .int .i64 v], .agg #[.int .i64 a, .int .i64 b], .int .i64 d] w fun e w' => e = .returned (.int .i64 (Ac.hlf (Ac.cr u v a b * d) (Ac.inn u v a b))) ∧ Qw w w' := by
  have c := fun w => vr_cross u v a b u1 u2 v1 v2 a1 a2 b1 b2 w
  have i := fun w => vr_inner u v a b u1 u2 v1 v2 a1 a2 b1 b2 w
  change ∀ w, Calls Try.prog 40 #[.agg #[.int .i64 u, .int .i64 v], .agg #[.int .i64 a, .int .i64 b]] w fun e w' => e = .returned (.int .i64 (Ac.cr u v a b)) ∧ Qw w w' at c
  change ∀ w, Calls Try.prog 39 #[.agg #[.int .i64 u, .int .i64 v], .agg #[.int .i64 a, .int .i64 b]] w fun e w' => e = .returned (.int .i64 (Ac.inn u v a b)) ∧ Qw w w' at i
  have bd := Ac.cr_bd u1 u2 v1 v2 a1 a2 b1 b2
  generalize Ac.cr u v a b = X at *
  generalize Ac.inn u v a b = Y at *
  have dm : (-70368744177664 ≤ X * d ∧ X * d ≤ 70368744177664) := by rcases d1 with e | e <;> rw [e] <;> omega
  obtain ⟨dm1, dm2⟩ := dm
  have C := Lib.hid c
  have I := Lib.hid i
  clear c i d1 bd
  by_cases k1 : 0 < X * d
  · have e : Ac.hlf (X * d) Y = 0 := by unfold Ac.hlf; rw [if_pos (.inl k1)]
    rw [e]
    clear e
    have QQ : Hid (Qw w w) := Lib.hid (Qw.refl w)
    go_enter Try.func102, Try.ntmps102
    go_upto_region 1 with (go_big_may; (first | ((with_reducible refine box_pt (x := ?_) (y := ?_) 0 ?_ ?_); rotate_left 2; (rfl); intro w1 B3 hb xx qq; have h3 := Lib.hid (Nat.le_trans QQ.out.size hb); replace QQ := Lib.hid (Qw.trans QQ.out qq); have X3 := Lib.hid xx; clear xx qq hb) | ((with_reducible refine box_pt (x := ?_) (y := ?_) 1 ?_ ?_); rotate_left 2; (rfl); intro w2 B4 hb xx qq; have n4_3 := Lib.hid (Nat.ne_of_gt (Nat.lt_of_lt_of_le X3.out.lt hb)); have m4_3 := Lib.hid (Nat.ne_of_lt (Nat.lt_of_lt_of_le X3.out.lt hb)); have h4 := Lib.hid (Nat.le_trans QQ.out.size hb); replace X3 := Lib.hid (X3.out.kept qq); replace QQ := Lib.hid (Qw.trans QQ.out qq); have X4 := Lib.hid xx; clear xx qq hb)))
    go_upto_region 2 with (go_big_may; (first | ((with_reducible refine ld_pt 3 ?_ X3.out ?_); (rfl)) | ((with_reducible refine ld_pt 4 ?_ X4.out ?_); (rfl)) | (go_at_call 40; ((with_reducible refine (C.out _).mono ?_); rintro e w3 ⟨rfl, qq⟩; replace X3 := Lib.hid (X3.out.kept qq); replace X4 := Lib.hid (X4.out.kept qq); replace QQ := Lib.hid (Qw.trans QQ.out qq); clear qq))))
    have c3_0 := X3.out.p0
    have c3_1 := X3.out.p1
    have c4_0 := X4.out.p0
    have c4_1 := X4.out.p1
    go_upto_region 3 with fail
    clear c3_0 c3_1 c4_0 c4_1
    go_wp2_with fail
    go_ret
    exact ⟨rfl, QQ.out⟩
  by_cases k2 : X * d = 0
  · have z : (X * d == 0) = true := by simpa using k2
    by_cases k3 : 0 < Y
    · have e : Ac.hlf (X * d) Y = 0 := by unfold Ac.hlf; rw [if_pos (.inr ⟨k2, k3⟩)]
      rw [e]
      clear e k2
      have QQ : Hid (Qw w w) := Lib.hid (Qw.refl w)
      go_enter Try.func102, Try.ntmps102
      go_upto_region 1 with (go_big_may; (first | ((with_reducible refine box_pt (x := ?_) (y := ?_) 0 ?_ ?_); rotate_left 2; (rfl); intro w1 B3 hb xx qq; have h3 := Lib.hid (Nat.le_trans QQ.out.size hb); replace QQ := Lib.hid (Qw.trans QQ.out qq); have X3 := Lib.hid xx; clear xx qq hb) | ((with_reducible refine box_pt (x := ?_) (y := ?_) 1 ?_ ?_); rotate_left 2; (rfl); intro w2 B4 hb xx qq; have n4_3 := Lib.hid (Nat.ne_of_gt (Nat.lt_of_lt_of_le X3.out.lt hb)); have m4_3 := Lib.hid (Nat.ne_of_lt (Nat.lt_of_lt_of_le X3.out.lt hb)); have h4 := Lib.hid (Nat.le_trans QQ.out.size hb); replace X3 := Lib.hid (X3.out.kept qq); replace QQ := Lib.hid (Qw.trans QQ.out qq); have X4 := Lib.hid xx; clear xx qq hb)))
      go_upto_region 2 with (go_big_may; (first | ((with_reducible refine ld_pt 3 ?_ X3.out ?_); (rfl)) | ((with_reducible refine ld_pt 4 ?_ X4.out ?_); (rfl)) | (go_at_call 40; ((with_reducible refine (C.out _).mono ?_); rintro e w3 ⟨rfl, qq⟩; replace X3 := Lib.hid (X3.out.kept qq); replace X4 := Lib.hid (X4.out.kept qq); replace QQ := Lib.hid (Qw.trans QQ.out qq); clear qq))))
      have c3_0 := X3.out.p0
      have c3_1 := X3.out.p1
      have c4_0 := X4.out.p0
      have c4_1 := X4.out.p1
      go_upto_region 3 with (go_big_may; (go_at_call 39; ((with_reducible refine (I.out _).mono ?_); rintro e w4 ⟨rfl, qq⟩; replace X3 := Lib.hid (X3.out.kept qq); replace X4 := Lib.hid (X4.out.kept qq); replace QQ := Lib.hid (Qw.trans QQ.out qq); clear qq)))
      clear c3_0 c3_1 c4_0 c4_1
      go_wp2_with fail
      go_ret
      exact ⟨rfl, QQ.out⟩
    · have e : Ac.hlf (X * d) Y = 1 := by unfold Ac.hlf; rw [if_neg (by omega)]
      rw [e]
      clear e k2
      have QQ : Hid (Qw w w) := Lib.hid (Qw.refl w)
      go_enter Try.func102, Try.ntmps102
      go_upto_region 1 with (go_big_may; (first | ((with_reducible refine box_pt (x := ?_) (y := ?_) 0 ?_ ?_); rotate_left 2; (rfl); intro w1 B3 hb xx qq; have h3 := Lib.hid (Nat.le_trans QQ.out.size hb); replace QQ := Lib.hid (Qw.trans QQ.out qq); have X3 := Lib.hid xx; clear xx qq hb) | ((with_reducible refine box_pt (x := ?_) (y := ?_) 1 ?_ ?_); rotate_left 2; (rfl); intro w2 B4 hb xx qq; have n4_3 := Lib.hid (Nat.ne_of_gt (Nat.lt_of_lt_of_le X3.out.lt hb)); have m4_3 := Lib.hid (Nat.ne_of_lt (Nat.lt_of_lt_of_le X3.out.lt hb)); have h4 := Lib.hid (Nat.le_trans QQ.out.size hb); replace X3 := Lib.hid (X3.out.kept qq); replace QQ := Lib.hid (Qw.trans QQ.out qq); have X4 := Lib.hid xx; clear xx qq hb)))
      go_upto_region 2 with (go_big_may; (first | ((with_reducible refine ld_pt 3 ?_ X3.out ?_); (rfl)) | ((with_reducible refine ld_pt 4 ?_ X4.out ?_); (rfl)) | (go_at_call 40; ((with_reducible refine (C.out _).mono ?_); rintro e w3 ⟨rfl, qq⟩; replace X3 := Lib.hid (X3.out.kept qq); replace X4 := Lib.hid (X4.out.kept qq); replace QQ := Lib.hid (Qw.trans QQ.out qq); clear qq))))
      have c3_0 := X3.out.p0
      have c3_1 := X3.out.p1
      have c4_0 := X4.out.p0
      have c4_1 := X4.out.p1
      go_upto_region 4 with (go_big_may; (go_at_call 39; ((with_reducible refine (I.out _).mono ?_); rintro e w4 ⟨rfl, qq⟩; replace X3 := Lib.hid (X3.out.kept qq); replace X4 := Lib.hid (X4.out.kept qq); replace QQ := Lib.hid (Qw.trans QQ.out qq); clear qq)))
      clear c3_0 c3_1 c4_0 c4_1
      go_wp2_with fail
      go_ret
      exact ⟨rfl, QQ.out⟩
  · have z : (X * d == 0) = false := beq_eq_false_iff_ne.2 k2
    have e : Ac.hlf (X * d) Y = 1 := by unfold Ac.hlf; rw [if_neg (by omega)]
    rw [e]
    clear e k2
    have QQ : Hid (Qw w w) := Lib.hid (Qw.refl w)
    go_enter Try.func102, Try.ntmps102
    go_upto_region 1 with (go_big_may; (first | ((with_reducible refine box_pt (x := ?_) (y := ?_) 0 ?_ ?_); rotate_left 2; (rfl); intro w1 B3 hb xx qq; have h3 := Lib.hid (Nat.le_trans QQ.out.size hb); replace QQ := Lib.hid (Qw.trans QQ.out qq); have X3 := Lib.hid xx; clear xx qq hb) | ((with_reducible refine box_pt (x := ?_) (y := ?_) 1 ?_ ?_); rotate_left 2; (rfl); intro w2 B4 hb xx qq; have n4_3 := Lib.hid (Nat.ne_of_gt (Nat.lt_of_lt_of_le X3.out.lt hb)); have m4_3 := Lib.hid (Nat.ne_of_lt (Nat.lt_of_lt_of_le X3.out.lt hb)); have h4 := Lib.hid (Nat.le_trans QQ.out.size hb); replace X3 := Lib.hid (X3.out.kept qq); replace QQ := Lib.hid (Qw.trans QQ.out qq); have X4 := Lib.hid xx; clear xx qq hb)))
    go_upto_region 2 with (go_big_may; (first | ((with_reducible refine ld_pt 3 ?_ X3.out ?_); (rfl)) | ((with_reducible refine ld_pt 4 ?_ X4.out ?_); (rfl)) | (go_at_call 40; ((with_reducible refine (C.out _).mono ?_); rintro e w3 ⟨rfl, qq⟩; replace X3 := Lib.hid (X3.out.kept qq); replace X4 := Lib.hid (X4.out.kept qq); replace QQ := Lib.hid (Qw.trans QQ.out qq); clear qq))))
    have c3_0 := X3.out.p0
    have c3_1 := X3.out.p1
    have c4_0 := X4.out.p0
    have c4_1 := X4.out.p1
    go_upto_region 4 with fail
    clear c3_0 c3_1 c4_0 c4_1
    go_wp2_with fail
    go_ret
    exact ⟨rfl, QQ.out⟩
set_option maxRecDepth 100000 in
set_option maxHeartbeats 2000000 in
theorem arSweep (u v a b x y d : Int) (f : Bool) (u1 : -4194304 ≤ u) (u2 : u ≤ 4194304) (v1 : -4194304 ≤ v) (v2 : v ≤ 4194304) (a1 : -4194304 ≤ a) (a2 : a ≤ 4194304) (b1 : -4194304 ≤ b) (b2 : b ≤ 4194304) (x1 : -4194304 ≤ x) (x2 : x ≤ 4194304) (y1 : -4194304 ≤ y) (y2 : y ≤ 4194304) (d1 : d = 1 ∨ d = -1) (w : World) :
    Calls Try.prog 76 #[.agg #[.int .i64 u, .int .i64 v], .agg #[.int .i64 a, .int .i64 b], .agg #[.int .i64 x, .int .i64 y], .int .i64 d, .bool f] w fun e w' => e = .returned (.bool (if f = true then true else Ac.swp u v a b x y d)) ∧ Qw w w' := by
  have h1 := fun w => arHalf u v x y d u1 u2 v1 v2 x1 x2 y1 y2 d1 w
  have h2 := fun w => arHalf u v a b d u1 u2 v1 v2 a1 a2 b1 b2 d1 w
  have c := fun w => vr_cross x y a b x1 x2 y1 y2 a1 a2 b1 b2 w
  change ∀ w, Calls Try.prog 40 #[.agg #[.int .i64 x, .int .i64 y], .agg #[.int .i64 a, .int .i64 b]] w fun e w' => e = .returned (.int .i64 (Ac.cr x y a b)) ∧ Qw w w' at c
  have bd := Ac.cr_bd x1 x2 y1 y2 a1 a2 b1 b2
  unfold Ac.swp
  generalize Ac.cr x y a b = Z at *
  generalize Ac.hlf (Ac.cr u v x y * d) (Ac.inn u v x y) = X at *
  generalize Ac.hlf (Ac.cr u v a b * d) (Ac.inn u v a b) = Y at *
  have dm : (-70368744177664 ≤ Z * d ∧ Z * d ≤ 70368744177664) := by rcases d1 with e | e <;> rw [e] <;> omega
  obtain ⟨dm1, dm2⟩ := dm
  have H1 := Lib.hid h1
  have H2 := Lib.hid h2
  have C := Lib.hid c
  clear h1 h2 c d1 bd
  cases f
  · simp only [Bool.false_eq_true, if_false]
    by_cases k1 : X = Y
    · have z : (X == Y) = true := by simpa using k1
      have z2 : (X != Y) = false := by simp [k1]
      rw [if_pos k1]
      clear k1
      have QQ : Hid (Qw w w) := Lib.hid (Qw.refl w)
      go_enter Try.func76, Try.ntmps76
      go_upto_region 1 with (go_big_may; (first | ((with_reducible refine box_pt (x := ?_) (y := ?_) 0 ?_ ?_); rotate_left 2; (rfl); intro w1 B5 hb xx qq; have h5 := Lib.hid (Nat.le_trans QQ.out.size hb); replace QQ := Lib.hid (Qw.trans QQ.out qq); have X5 := Lib.hid xx; clear xx qq hb) | ((with_reducible refine box_pt (x := ?_) (y := ?_) 1 ?_ ?_); rotate_left 2; (rfl); intro w2 B6 hb xx qq; have n6_5 := Lib.hid (Nat.ne_of_gt (Nat.lt_of_lt_of_le X5.out.lt hb)); have m6_5 := Lib.hid (Nat.ne_of_lt (Nat.lt_of_lt_of_le X5.out.lt hb)); have h6 := Lib.hid (Nat.le_trans QQ.out.size hb); replace X5 := Lib.hid (X5.out.kept qq); replace QQ := Lib.hid (Qw.trans QQ.out qq); have X6 := Lib.hid xx; clear xx qq hb) | ((with_reducible refine box_pt (x := ?_) (y := ?_) 2 ?_ ?_); rotate_left 2; (rfl); intro w3 B7 hb xx qq; have n7_5 := Lib.hid (Nat.ne_of_gt (Nat.lt_of_lt_of_le X5.out.lt hb)); have n7_6 := Lib.hid (Nat.ne_of_gt (Nat.lt_of_lt_of_le X6.out.lt hb)); have m7_5 := Lib.hid (Nat.ne_of_lt (Nat.lt_of_lt_of_le X5.out.lt hb)); have m7_6 := Lib.hid (Nat.ne_of_lt (Nat.lt_of_lt_of_le X6.out.lt hb)); have h7 := Lib.hid (Nat.le_trans QQ.out.size hb); replace X5 := Lib.hid (X5.out.kept qq); replace X6 := Lib.hid (X6.out.kept qq); replace QQ := Lib.hid (Qw.trans QQ.out qq); have X7 := Lib.hid xx; clear xx qq hb)))
      go_upto_region 3 with fail
      have c5_0 := X5.out.kp0
      have c5_1 := X5.out.kp1
      have c7_0 := X7.out.kp0
      have c7_1 := X7.out.kp1
      have c6_0 := X6.out.kp0
      have c6_1 := X6.out.kp1
      try simp only [List.getElem_toArray, List.getElem_cons_succ, List.getElem_cons_zero, Act.put, List.setIfInBounds_toArray, List.set_cons_zero, List.set_cons_succ]
      refine region_kept (by kernel_rfl) (by kernel_rfl) ?_
      repeat (go_big_quiet_step (first | (go_at_call 102; with_reducible exact Kept.call (H1.out _)) | (go_at_call 102; with_reducible exact Kept.call (H2.out _))))
      refine wpQuiet_nil ?_
      intro w4 qq
      clear c5_0 c5_1 c7_0 c7_1 c6_0 c6_1
      replace X5 := Lib.hid (X5.out.kept qq)
      replace X6 := Lib.hid (X6.out.kept qq)
      replace X7 := Lib.hid (X7.out.kept qq)
      replace QQ := Lib.hid (Qw.trans QQ.out qq)
      clear qq
      go_upto_region 6 with fail
      go_wp2_with (first | ((with_reducible refine ld_pt 7 ?_ X7.out ?_); (rfl)) | ((with_reducible refine ld_pt 6 ?_ X6.out ?_); (rfl)) | (go_at_call 40; ((with_reducible refine (C.out _).mono ?_); rintro e w5 ⟨rfl, qq⟩; replace X5 := Lib.hid (X5.out.kept qq); replace X6 := Lib.hid (X6.out.kept qq); replace X7 := Lib.hid (X7.out.kept qq); replace QQ := Lib.hid (Qw.trans QQ.out qq); clear qq)))
      go_ret
      exact ⟨rfl, QQ.out⟩
    · have z : (X == Y) = false := beq_eq_false_iff_ne.2 k1
      have z2 : (X != Y) = true := by simp [k1]
      rw [if_neg k1]
      clear k1
      have QQ : Hid (Qw w w) := Lib.hid (Qw.refl w)
      go_enter Try.func76, Try.ntmps76
      go_upto_region 1 with (go_big_may; (first | ((with_reducible refine box_pt (x := ?_) (y := ?_) 0 ?_ ?_); rotate_left 2; (rfl); intro w1 B5 hb xx qq; have h5 := Lib.hid (Nat.le_trans QQ.out.size hb); replace QQ := Lib.hid (Qw.trans QQ.out qq); have X5 := Lib.hid xx; clear xx qq hb) | ((with_reducible refine box_pt (x := ?_) (y := ?_) 1 ?_ ?_); rotate_left 2; (rfl); intro w2 B6 hb xx qq; have n6_5 := Lib.hid (Nat.ne_of_gt (Nat.lt_of_lt_of_le X5.out.lt hb)); have m6_5 := Lib.hid (Nat.ne_of_lt (Nat.lt_of_lt_of_le X5.out.lt hb)); have h6 := Lib.hid (Nat.le_trans QQ.out.size hb); replace X5 := Lib.hid (X5.out.kept qq); replace QQ := Lib.hid (Qw.trans QQ.out qq); have X6 := Lib.hid xx; clear xx qq hb) | ((with_reducible refine box_pt (x := ?_) (y := ?_) 2 ?_ ?_); rotate_left 2; (rfl); intro w3 B7 hb xx qq; have n7_5 := Lib.hid (Nat.ne_of_gt (Nat.lt_of_lt_of_le X5.out.lt hb)); have n7_6 := Lib.hid (Nat.ne_of_gt (Nat.lt_of_lt_of_le X6.out.lt hb)); have m7_5 := Lib.hid (Nat.ne_of_lt (Nat.lt_of_lt_of_le X5.out.lt hb)); have m7_6 := Lib.hid (Nat.ne_of_lt (Nat.lt_of_lt_of_le X6.out.lt hb)); have h7 := Lib.hid (Nat.le_trans QQ.out.size hb); replace X5 := Lib.hid (X5.out.kept qq); replace X6 := Lib.hid (X6.out.kept qq); replace QQ := Lib.hid (Qw.trans QQ.out qq); have X7 := Lib.hid xx; clear xx qq hb)))
      go_upto_region 3 with fail
      have c5_0 := X5.out.kp0
      have c5_1 := X5.out.kp1
      have c7_0 := X7.out.kp0
      have c7_1 := X7.out.kp1
      have c6_0 := X6.out.kp0
      have c6_1 := X6.out.kp1
      try simp only [List.getElem_toArray, List.getElem_cons_succ, List.getElem_cons_zero, Act.put, List.setIfInBounds_toArray, List.set_cons_zero, List.set_cons_succ]
      refine region_kept (by kernel_rfl) (by kernel_rfl) ?_
      repeat (go_big_quiet_step (first | (go_at_call 102; with_reducible exact Kept.call (H1.out _)) | (go_at_call 102; with_reducible exact Kept.call (H2.out _))))
      refine wpQuiet_nil ?_
      intro w4 qq
      clear c5_0 c5_1 c7_0 c7_1 c6_0 c6_1
      replace X5 := Lib.hid (X5.out.kept qq)
      replace X6 := Lib.hid (X6.out.kept qq)
      replace X7 := Lib.hid (X7.out.kept qq)
      replace QQ := Lib.hid (Qw.trans QQ.out qq)
      clear qq
      go_wp2
      go_ret
      exact ⟨rfl, QQ.out⟩
  · simp only [if_true]
    have QQ : Hid (Qw w w) := Lib.hid (Qw.refl w)
    go_enter Try.func76, Try.ntmps76
    go_upto_region 1 with (go_big_may; (first | ((with_reducible refine box_pt (x := ?_) (y := ?_) 0 ?_ ?_); rotate_left 2; (rfl); intro w1 B5 hb xx qq; have h5 := Lib.hid (Nat.le_trans QQ.out.size hb); replace QQ := Lib.hid (Qw.trans QQ.out qq); have X5 := Lib.hid xx; clear xx qq hb) | ((with_reducible refine box_pt (x := ?_) (y := ?_) 1 ?_ ?_); rotate_left 2; (rfl); intro w2 B6 hb xx qq; have n6_5 := Lib.hid (Nat.ne_of_gt (Nat.lt_of_lt_of_le X5.out.lt hb)); have m6_5 := Lib.hid (Nat.ne_of_lt (Nat.lt_of_lt_of_le X5.out.lt hb)); have h6 := Lib.hid (Nat.le_trans QQ.out.size hb); replace X5 := Lib.hid (X5.out.kept qq); replace QQ := Lib.hid (Qw.trans QQ.out qq); have X6 := Lib.hid xx; clear xx qq hb) | ((with_reducible refine box_pt (x := ?_) (y := ?_) 2 ?_ ?_); rotate_left 2; (rfl); intro w3 B7 hb xx qq; have n7_5 := Lib.hid (Nat.ne_of_gt (Nat.lt_of_lt_of_le X5.out.lt hb)); have n7_6 := Lib.hid (Nat.ne_of_gt (Nat.lt_of_lt_of_le X6.out.lt hb)); have m7_5 := Lib.hid (Nat.ne_of_lt (Nat.lt_of_lt_of_le X5.out.lt hb)); have m7_6 := Lib.hid (Nat.ne_of_lt (Nat.lt_of_lt_of_le X6.out.lt hb)); have h7 := Lib.hid (Nat.le_trans QQ.out.size hb); replace X5 := Lib.hid (X5.out.kept qq); replace X6 := Lib.hid (X6.out.kept qq); replace QQ := Lib.hid (Qw.trans QQ.out qq); have X7 := Lib.hid xx; clear xx qq hb)))
    go_upto_region 2 with fail
    go_wp2_with fail
    go_ret
    exact ⟨rfl, QQ.out⟩
set_option maxRecDepth 100000 in
set_option maxHeartbeats 2000000 in
theorem arInside (i : Ac.I) (h : Ac.Near i) (hd : i.d = 1 ∨ i.d = -1) (x y : Int) (x1 : -4194304 ≤ x) (x2 : x ≤ 4194304) (y1 : -4194304 ≤ y) (y2 : y ≤ 4194304) (w : World) :
    Calls Try.prog 31 #[.agg (itc i), .agg #[.int .i64 x, .int .i64 y]] w fun e w' => e = .returned (.bool (Ac.ins i x y)) ∧ Qw w w' := by
  have sp := fun w' => arSpokes i h w'
  obtain ⟨b1, b2, b3, b4⟩ := h.bd
  have sw := fun w' => arSweep (Ac.au i) (Ac.aw i) (Ac.bu i) (Ac.bw i) x y i.d i.u (by omega) (by omega) (by omega) (by omega) (by omega) (by omega) (by omega) (by omega) x1 x2 y1 y2 hd w'
  change ∀ w', Calls Try.prog 76 _ w' fun e w'' => e = .returned (.bool (Ac.ins i x y)) ∧ Qw w' w'' at sw
  generalize Ac.ins i x y = R at *
  generalize Ac.au i = A0 at *
  generalize Ac.aw i = A1 at *
  generalize Ac.bu i = A2 at *
  generalize Ac.bw i = A3 at *
  have SP := Lib.hid sp
  have SW := Lib.hid sw
  clear sp sw b1 b2 b3 b4 h hd
  have QQ : Hid (Qw w w) := Lib.hid (Qw.refl w)
  go_enter Try.func31, Try.ntmps31
  go_upto_region 1 with (go_big_may; (first | ((with_reducible refine box_it (f := ?_) 0 ?_ ?_); rotate_left 1; (rfl); intro w1 B2 hb xx qq; have h2 := Lib.hid (Nat.le_trans QQ.out.size hb); replace QQ := Lib.hid (Qw.trans QQ.out qq); have X2 := Lib.hid xx; clear xx qq hb) | ((with_reducible refine box_pt (x := ?_) (y := ?_) 1 ?_ ?_); rotate_left 2; (rfl); intro w2 B3 hb xx qq; have n3_2 := Lib.hid (Nat.ne_of_gt (Nat.lt_of_lt_of_le X2.out.lt hb)); have m3_2 := Lib.hid (Nat.ne_of_lt (Nat.lt_of_lt_of_le X2.out.lt hb)); have h3 := Lib.hid (Nat.le_trans QQ.out.size hb); replace X2 := Lib.hid (X2.out.kept qq); replace QQ := Lib.hid (Qw.trans QQ.out qq); have X3 := Lib.hid xx; clear xx qq hb)))
  go_upto_region 2 with (go_big_may; (first | ((with_reducible refine ld_it 2 ?_ X2.out ?_); (rfl)) | (go_at_call 29; ((with_reducible refine (SP.out _).mono ?_); rintro e w3 ⟨rfl, qq⟩; replace X2 := Lib.hid (X2.out.kept qq); replace X3 := Lib.hid (X3.out.kept qq); replace QQ := Lib.hid (Qw.trans QQ.out qq); clear qq)) | ((with_reducible refine al_pt (dst := some 5) ?_); intro w4 B5 hb xx qq; have n5_2 := Lib.hid (Nat.ne_of_gt (Nat.lt_of_lt_of_le X2.out.lt hb)); have n5_3 := Lib.hid (Nat.ne_of_gt (Nat.lt_of_lt_of_le X3.out.lt hb)); have m5_2 := Lib.hid (Nat.ne_of_lt (Nat.lt_of_lt_of_le X2.out.lt hb)); have m5_3 := Lib.hid (Nat.ne_of_lt (Nat.lt_of_lt_of_le X3.out.lt hb)); have h5 := Lib.hid (Nat.le_trans QQ.out.size hb); replace X2 := Lib.hid (X2.out.kept qq); replace X3 := Lib.hid (X3.out.kept qq); replace QQ := Lib.hid (Qw.trans QQ.out qq); have X5 := Lib.hid xx; clear xx qq hb) | ((with_reducible refine al_pt (dst := some 6) ?_); intro w5 B6 hb xx qq; have n6_2 := Lib.hid (Nat.ne_of_gt (Nat.lt_of_lt_of_le X2.out.lt hb)); have n6_3 := Lib.hid (Nat.ne_of_gt (Nat.lt_of_lt_of_le X3.out.lt hb)); have n6_5 := Lib.hid (Nat.ne_of_gt (Nat.lt_of_lt_of_le X5.out.lt hb)); have m6_2 := Lib.hid (Nat.ne_of_lt (Nat.lt_of_lt_of_le X2.out.lt hb)); have m6_3 := Lib.hid (Nat.ne_of_lt (Nat.lt_of_lt_of_le X3.out.lt hb)); have m6_5 := Lib.hid (Nat.ne_of_lt (Nat.lt_of_lt_of_le X5.out.lt hb)); have h6 := Lib.hid (Nat.le_trans QQ.out.size hb); replace X2 := Lib.hid (X2.out.kept qq); replace X3 := Lib.hid (X3.out.kept qq); replace X5 := Lib.hid (X5.out.kept qq); replace QQ := Lib.hid (Qw.trans QQ.out qq); have X6 := Lib.hid xx; clear xx qq hb) | ((with_reducible refine st_pt (x := ?_) (y := ?_) 5 10 ?_ ?_ X5.out ?_); rotate_left 2; (rfl); (rfl); intro w6 xx qf ot; replace X2 := Lib.hid (ot _ _ _ m5_2.out X2.out); replace X3 := Lib.hid (ot _ _ _ m5_3.out X3.out); replace X6 := Lib.hid (ot _ _ _ n6_5.out X6.out); replace QQ := Lib.hid (qf _ QQ.out h5.out); replace X5 := Lib.hid xx; clear xx qf ot) | ((with_reducible refine st_pt (x := ?_) (y := ?_) 6 11 ?_ ?_ X6.out ?_); rotate_left 2; (rfl); (rfl); intro w7 xx qf ot; replace X2 := Lib.hid (ot _ _ _ m6_2.out X2.out); replace X3 := Lib.hid (ot _ _ _ m6_3.out X3.out); replace X5 := Lib.hid (ot _ _ _ m6_5.out X5.out); replace QQ := Lib.hid (qf _ QQ.out h6.out); replace X6 := Lib.hid xx; clear xx qf ot)))
  have c2_12 := X2.out.i12
  have c2_13 := X2.out.i13
  go_wp2_with (first | ((with_reducible refine ld_pt 5 ?_ X5.out ?_); (rfl)) | ((with_reducible refine ld_pt 6 ?_ X6.out ?_); (rfl)) | ((with_reducible refine ld_pt 3 ?_ X3.out ?_); (rfl)) | (go_at_call 76; ((with_reducible refine (SW.out _).mono ?_); rintro e w8 ⟨rfl, qq⟩; replace X2 := Lib.hid (X2.out.kept qq); replace X3 := Lib.hid (X3.out.kept qq); replace X5 := Lib.hid (X5.out.kept qq); replace X6 := Lib.hid (X6.out.kept qq); replace QQ := Lib.hid (Qw.trans QQ.out qq); clear qq)))
  go_ret
  exact ⟨rfl, QQ.out⟩
end Go.Proofs.Ytihmifdadikhaaa

/- The walks of the specification of layer 13: Fit, Check, Tangent. -/
set_option linter.unusedVariables false
set_option linter.unusedSimpArgs false
namespace Go.Proofs.Ytihmifdadikhaaa
open Go.RowKit

set_option maxRecDepth 100000 in
set_option maxHeartbeats 2000000 in
theorem arFit (a b c d : Int) (f : Bool) (a1 : -2097152 ≤ a) (a2 : a ≤ 2097152) (b1 : -2097152 ≤ b) (b2 : b ≤ 2097152) (c1 : -2097152 ≤ c) (c2 : c ≤ 2097152) (d1 : -2097152 ≤ d) (d2 : d ≤ 2097152) (w : World) :
    Calls Try.prog 74 #[.agg #[.int .i64 a, .int .i64 b], .agg #[.int .i64 c, .int .i64 d], .bool f] w fun e w' => e = .returned (.bool (Ac.fit (Ac.inn a b a b) (Ac.inn c d c d) && Ac.agr f a b c d)) ∧ Qw w w' := by
  have i1 := fun w => vr_inner a b a b (by omega) (by omega) (by omega) (by omega) (by omega) (by omega) (by omega) (by omega) w
  have i2 := fun w => vr_inner c d c d (by omega) (by omega) (by omega) (by omega) (by omega) (by omega) (by omega) (by omega) w
  have cc := fun w => vr_cross a b c d (by omega) (by omega) (by omega) (by omega) (by omega) (by omega) (by omega) (by omega) w
  have ci := fun w => vr_inner a b c d (by omega) (by omega) (by omega) (by omega) (by omega) (by omega) (by omega) (by omega) w
  change ∀ w, Calls Try.prog 39 #[.agg #[.int .i64 a, .int .i64 b], .agg #[.int .i64 a, .int .i64 b]] w fun e w' => e = .returned (.int .i64 (Ac.inn a b a b)) ∧ Qw w w' at i1
  change ∀ w, Calls Try.prog 39 #[.agg #[.int .i64 c, .int .i64 d], .agg #[.int .i64 c, .int .i64 d]] w fun e w' => e = .returned (.int .i64 (Ac.inn c d c d)) ∧ Qw w w' at i2
  change ∀ w, Calls Try.prog 40 #[.agg #[.int .i64 a, .int .i64 b], .agg #[.int .i64 c, .int .i64 d]] w fun e w' => e = .returned (.int .i64 (Ac.cr a b c d)) ∧ Qw w w' at cc
  change ∀ w, Calls Try.prog 39 #[.agg #[.int .i64 a, .int .i64 b], .agg #[.int .i64 c, .int .i64 d]] w fun e w' => e = .returned (.int .i64 (Ac.inn a b c d)) ∧ Qw w w' at ci
  have l1 := Ac.inn_sq ⟨a1, a2⟩ ⟨b1, b2⟩
  have l2 := Ac.inn_sq ⟨c1, c2⟩ ⟨d1, d2⟩
  unfold Ac.agr Ac.fit
  generalize Ac.inn a b a b = n at *
  generalize Ac.inn c d c d = m at *
  generalize Ac.cr a b c d = X at *
  generalize Ac.inn a b c d = Y at *
  have I1 := Lib.hid i1
  have I2 := Lib.hid i2
  have CR := Lib.hid cc
  have IN := Lib.hid ci
  clear i1 i2 cc ci a1 a2 b1 b2 c1 c2 d1 d2
  obtain ⟨⟨l3, l4⟩, ⟨l5, l6⟩⟩ := And.intro l1 l2
  clear l1 l2
  have agrB_f : (if false = true then (decide (a = c) && decide (b = d)) else !(decide (X = 0) && decide (0 < Y))) = !(decide (X = 0) && decide (0 < Y)) := rfl
  have agrB_t : (if true = true then (decide (a = c) && decide (b = d)) else !(decide (X = 0) && decide (0 < Y))) = (decide (a = c) && decide (b = d)) := rfl
  by_cases hnm : m < n

  · have lo : Ac.lo2 n m = m := by unfold Ac.lo2; split <;> omega
    have hi : Ac.hi2 n m = n := by unfold Ac.hi2; split <;> omega
    rw [lo, hi]
    clear lo hi
    have r1 := fun w => refCmpW (n - m - 16) (n - m - 16) 64 m (by omega) (by omega) (by omega) (by omega) (by omega) (by omega) (by omega) (by omega) w
    generalize cmpI ((n - m - 16) * (n - m - 16)) (64 * m) = R at *
    have R1 := Lib.hid r1
    clear r1
    by_cases k1 : 64 ≤ m
    case neg =>
      have e : (decide (64 ≤ m) && (decide (n - m - 16 ≤ 0) || decide (R ≤ 0)) && (if f = true then (decide (a = c) && decide (b = d)) else !(decide (X = 0) && decide (0 < Y)))) = false := by simp [k1]
      rw [e]
      clear e
      have QQ : Hid (Qw w w) := Lib.hid (Qw.refl w)
      go_enter Try.func74, Try.ntmps74
      go_upto_region 1 with (go_big_may; (first | ((with_reducible refine box_pt (x := ?_) (y := ?_) 0 ?_ ?_); rotate_left 2; (rfl); intro w1 B3 hb xx qq; have h3 := Lib.hid (Nat.le_trans QQ.out.size hb); replace QQ := Lib.hid (Qw.trans QQ.out qq); have X3 := Lib.hid xx; clear xx qq hb) | ((with_reducible refine box_pt (x := ?_) (y := ?_) 1 ?_ ?_); rotate_left 2; (rfl); intro w2 B4 hb xx qq; have n4_3 := Lib.hid (Nat.ne_of_gt (Nat.lt_of_lt_of_le X3.out.lt hb)); have m4_3 := Lib.hid (Nat.ne_of_lt (Nat.lt_of_lt_of_le X3.out.lt hb)); have h4 := Lib.hid (Nat.le_trans QQ.out.size hb); replace X3 := Lib.hid (X3.out.kept qq); replace QQ := Lib.hid (Qw.trans QQ.out qq); have X4 := Lib.hid xx; clear xx qq hb)))
      have c3_0 := X3.out.kp0
      have c3_1 := X3.out.kp1
      have c4_0 := X4.out.kp0
      have c4_1 := X4.out.kp1
      try simp only [List.getElem_toArray, List.getElem_cons_succ, List.getElem_cons_zero, Act.put, List.setIfInBounds_toArray, List.set_cons_zero, List.set_cons_succ]
      refine region_kept (by kernel_rfl) (by kernel_rfl) ?_
      repeat (go_big_quiet_step (first | (go_at_call 39; with_reducible exact Kept.call (I1.out _)) | (go_at_call 39; with_reducible exact Kept.call (I2.out _))))
      refine wpQuiet_nil ?_
      intro w3 qq
      clear c3_0 c3_1 c4_0 c4_1
      replace X3 := Lib.hid (X3.out.kept qq)
      replace X4 := Lib.hid (X4.out.kept qq)
      replace QQ := Lib.hid (Qw.trans QQ.out qq)
      clear qq
      go_wp2
      go_ret
      first | exact ⟨rfl, QQ.out⟩ | exact ⟨ret_bl (by simp [*]), QQ.out⟩ | exact ⟨ret_bl (by simp; omega), QQ.out⟩
    by_cases k2 : n - m - 16 ≤ 0
    · have e : (decide (64 ≤ m) && (decide (n - m - 16 ≤ 0) || decide (R ≤ 0)) && (if f = true then (decide (a = c) && decide (b = d)) else !(decide (X = 0) && decide (0 < Y)))) = (if f = true then (decide (a = c) && decide (b = d)) else !(decide (X = 0) && decide (0 < Y))) := by simp [k1, k2]
      rw [e]
      clear e
      cases f
      · simp only [agrB_f]
        by_cases c1 : X = 0
        · have z1 : (X == 0) = true := by simpa using c1
          by_cases c2 : 0 < Y
          · have e : (!(decide (X = 0) && decide (0 < Y))) = false := by simp [c1, c2]
            rw [e]
            clear e
            have QQ : Hid (Qw w w) := Lib.hid (Qw.refl w)
            go_enter Try.func74, Try.ntmps74
            go_upto_region 1 with (go_big_may; (first | ((with_reducible refine box_pt (x := ?_) (y := ?_) 0 ?_ ?_); rotate_left 2; (rfl); intro w1 B3 hb xx qq; have h3 := Lib.hid (Nat.le_trans QQ.out.size hb); replace QQ := Lib.hid (Qw.trans QQ.out qq); have X3 := Lib.hid xx; clear xx qq hb) | ((with_reducible refine box_pt (x := ?_) (y := ?_) 1 ?_ ?_); rotate_left 2; (rfl); intro w2 B4 hb xx qq; have n4_3 := Lib.hid (Nat.ne_of_gt (Nat.lt_of_lt_of_le X3.out.lt hb)); have m4_3 := Lib.hid (Nat.ne_of_lt (Nat.lt_of_lt_of_le X3.out.lt hb)); have h4 := Lib.hid (Nat.le_trans QQ.out.size hb); replace X3 := Lib.hid (X3.out.kept qq); replace QQ := Lib.hid (Qw.trans QQ.out qq); have X4 := Lib.hid xx; clear xx qq hb)))
            have c3_0 := X3.out.kp0
            have c3_1 := X3.out.kp1
            have c4_0 := X4.out.kp0
            have c4_1 := X4.out.kp1
            try simp only [List.getElem_toArray, List.getElem_cons_succ, List.getElem_cons_zero, Act.put, List.setIfInBounds_toArray, List.set_cons_zero, List.set_cons_succ]
            refine region_kept (by kernel_rfl) (by kernel_rfl) ?_
            repeat (go_big_quiet_step (first | (go_at_call 39; with_reducible exact Kept.call (I1.out _)) | (go_at_call 39; with_reducible exact Kept.call (I2.out _))))
            refine wpQuiet_nil ?_
            intro w3 qq
            clear c3_0 c3_1 c4_0 c4_1
            replace X3 := Lib.hid (X3.out.kept qq)
            replace X4 := Lib.hid (X4.out.kept qq)
            replace QQ := Lib.hid (Qw.trans QQ.out qq)
            clear qq
            go_upto_region 7 with fail
            go_upto_region 9 with fail
            go_upto_region 11 with fail
            go_wp2_with (first | ((with_reducible refine ld_pt 3 ?_ X3.out ?_); (rfl)) | ((with_reducible refine ld_pt 4 ?_ X4.out ?_); (rfl)) | (go_at_call 40; ((with_reducible refine (CR.out _).mono ?_); rintro e w4 ⟨rfl, qq⟩; replace X3 := Lib.hid (X3.out.kept qq); replace X4 := Lib.hid (X4.out.kept qq); replace QQ := Lib.hid (Qw.trans QQ.out qq); clear qq; have c3_0 := X3.out.p0; have c3_1 := X3.out.p1; have c4_0 := X4.out.p0; have c4_1 := X4.out.p1)) | (go_at_call 39; ((with_reducible refine (IN.out _).mono ?_); rintro e w5 ⟨rfl, qq⟩; replace X3 := Lib.hid (X3.out.kept qq); replace X4 := Lib.hid (X4.out.kept qq); replace QQ := Lib.hid (Qw.trans QQ.out qq); clear qq)))
            go_ret
            first | exact ⟨rfl, QQ.out⟩ | exact ⟨ret_bl (by simp [*]), QQ.out⟩ | exact ⟨ret_bl (by simp; omega), QQ.out⟩
          · have e : (!(decide (X = 0) && decide (0 < Y))) = true := by simp [c2]
            rw [e]
            clear e
            have QQ : Hid (Qw w w) := Lib.hid (Qw.refl w)
            go_enter Try.func74, Try.ntmps74
            go_upto_region 1 with (go_big_may; (first | ((with_reducible refine box_pt (x := ?_) (y := ?_) 0 ?_ ?_); rotate_left 2; (rfl); intro w1 B3 hb xx qq; have h3 := Lib.hid (Nat.le_trans QQ.out.size hb); replace QQ := Lib.hid (Qw.trans QQ.out qq); have X3 := Lib.hid xx; clear xx qq hb) | ((with_reducible refine box_pt (x := ?_) (y := ?_) 1 ?_ ?_); rotate_left 2; (rfl); intro w2 B4 hb xx qq; have n4_3 := Lib.hid (Nat.ne_of_gt (Nat.lt_of_lt_of_le X3.out.lt hb)); have m4_3 := Lib.hid (Nat.ne_of_lt (Nat.lt_of_lt_of_le X3.out.lt hb)); have h4 := Lib.hid (Nat.le_trans QQ.out.size hb); replace X3 := Lib.hid (X3.out.kept qq); replace QQ := Lib.hid (Qw.trans QQ.out qq); have X4 := Lib.hid xx; clear xx qq hb)))
            have c3_0 := X3.out.kp0
            have c3_1 := X3.out.kp1
            have c4_0 := X4.out.kp0
            have c4_1 := X4.out.kp1
            try simp only [List.getElem_toArray, List.getElem_cons_succ, List.getElem_cons_zero, Act.put, List.setIfInBounds_toArray, List.set_cons_zero, List.set_cons_succ]
            refine region_kept (by kernel_rfl) (by kernel_rfl) ?_
            repeat (go_big_quiet_step (first | (go_at_call 39; with_reducible exact Kept.call (I1.out _)) | (go_at_call 39; with_reducible exact Kept.call (I2.out _))))
            refine wpQuiet_nil ?_
            intro w3 qq
            clear c3_0 c3_1 c4_0 c4_1
            replace X3 := Lib.hid (X3.out.kept qq)
            replace X4 := Lib.hid (X4.out.kept qq)
            replace QQ := Lib.hid (Qw.trans QQ.out qq)
            clear qq
            go_upto_region 7 with fail
            go_upto_region 9 with fail
            go_upto_region 11 with fail
            go_wp2_with (first | ((with_reducible refine ld_pt 3 ?_ X3.out ?_); (rfl)) | ((with_reducible refine ld_pt 4 ?_ X4.out ?_); (rfl)) | (go_at_call 40; ((with_reducible refine (CR.out _).mono ?_); rintro e w4 ⟨rfl, qq⟩; replace X3 := Lib.hid (X3.out.kept qq); replace X4 := Lib.hid (X4.out.kept qq); replace QQ := Lib.hid (Qw.trans QQ.out qq); clear qq; have c3_0 := X3.out.p0; have c3_1 := X3.out.p1; have c4_0 := X4.out.p0; have c4_1 := X4.out.p1)) | (go_at_call 39; ((with_reducible refine (IN.out _).mono ?_); rintro e w5 ⟨rfl, qq⟩; replace X3 := Lib.hid (X3.out.kept qq); replace X4 := Lib.hid (X4.out.kept qq); replace QQ := Lib.hid (Qw.trans QQ.out qq); clear qq)))
            go_ret
            first | exact ⟨rfl, QQ.out⟩ | exact ⟨ret_bl (by simp [*]), QQ.out⟩ | exact ⟨ret_bl (by simp; omega), QQ.out⟩
        · have z1 : (X == 0) = false := beq_eq_false_iff_ne.2 c1
          have e : (!(decide (X = 0) && decide (0 < Y))) = true := by simp [c1]
          rw [e]
          clear e
          have QQ : Hid (Qw w w) := Lib.hid (Qw.refl w)
          go_enter Try.func74, Try.ntmps74
          go_upto_region 1 with (go_big_may; (first | ((with_reducible refine box_pt (x := ?_) (y := ?_) 0 ?_ ?_); rotate_left 2; (rfl); intro w1 B3 hb xx qq; have h3 := Lib.hid (Nat.le_trans QQ.out.size hb); replace QQ := Lib.hid (Qw.trans QQ.out qq); have X3 := Lib.hid xx; clear xx qq hb) | ((with_reducible refine box_pt (x := ?_) (y := ?_) 1 ?_ ?_); rotate_left 2; (rfl); intro w2 B4 hb xx qq; have n4_3 := Lib.hid (Nat.ne_of_gt (Nat.lt_of_lt_of_le X3.out.lt hb)); have m4_3 := Lib.hid (Nat.ne_of_lt (Nat.lt_of_lt_of_le X3.out.lt hb)); have h4 := Lib.hid (Nat.le_trans QQ.out.size hb); replace X3 := Lib.hid (X3.out.kept qq); replace QQ := Lib.hid (Qw.trans QQ.out qq); have X4 := Lib.hid xx; clear xx qq hb)))
          have c3_0 := X3.out.kp0
          have c3_1 := X3.out.kp1
          have c4_0 := X4.out.kp0
          have c4_1 := X4.out.kp1
          try simp only [List.getElem_toArray, List.getElem_cons_succ, List.getElem_cons_zero, Act.put, List.setIfInBounds_toArray, List.set_cons_zero, List.set_cons_succ]
          refine region_kept (by kernel_rfl) (by kernel_rfl) ?_
          repeat (go_big_quiet_step (first | (go_at_call 39; with_reducible exact Kept.call (I1.out _)) | (go_at_call 39; with_reducible exact Kept.call (I2.out _))))
          refine wpQuiet_nil ?_
          intro w3 qq
          clear c3_0 c3_1 c4_0 c4_1
          replace X3 := Lib.hid (X3.out.kept qq)
          replace X4 := Lib.hid (X4.out.kept qq)
          replace QQ := Lib.hid (Qw.trans QQ.out qq)
          clear qq
          go_upto_region 7 with fail
          go_upto_region 9 with fail
          go_upto_region 11 with fail
          go_wp2_with (first | ((with_reducible refine ld_pt 3 ?_ X3.out ?_); (rfl)) | ((with_reducible refine ld_pt 4 ?_ X4.out ?_); (rfl)) | (go_at_call 40; ((with_reducible refine (CR.out _).mono ?_); rintro e w4 ⟨rfl, qq⟩; replace X3 := Lib.hid (X3.out.kept qq); replace X4 := Lib.hid (X4.out.kept qq); replace QQ := Lib.hid (Qw.trans QQ.out qq); clear qq; have c3_0 := X3.out.p0; have c3_1 := X3.out.p1; have c4_0 := X4.out.p0; have c4_1 := X4.out.p1)))
          go_ret
          first | exact ⟨rfl, QQ.out⟩ | exact ⟨ret_bl (by simp [*]), QQ.out⟩ | exact ⟨ret_bl (by simp; omega), QQ.out⟩
      · simp only [agrB_t]
        by_cases c1 : a = c
        · have z1 : (a == c) = true := by simpa using c1
          by_cases c2 : b = d
          · have z2 : (b == d) = true := by simpa using c2
            have e : (decide (a = c) && decide (b = d)) = true := by simp [c1, c2]
            rw [e]
            clear e c1 c2
            have QQ : Hid (Qw w w) := Lib.hid (Qw.refl w)
            go_enter Try.func74, Try.ntmps74
            go_upto_region 1 with (go_big_may; (first | ((with_reducible refine box_pt (x := ?_) (y := ?_) 0 ?_ ?_); rotate_left 2; (rfl); intro w1 B3 hb xx qq; have h3 := Lib.hid (Nat.le_trans QQ.out.size hb); replace QQ := Lib.hid (Qw.trans QQ.out qq); have X3 := Lib.hid xx; clear xx qq hb) | ((with_reducible refine box_pt (x := ?_) (y := ?_) 1 ?_ ?_); rotate_left 2; (rfl); intro w2 B4 hb xx qq; have n4_3 := Lib.hid (Nat.ne_of_gt (Nat.lt_of_lt_of_le X3.out.lt hb)); have m4_3 := Lib.hid (Nat.ne_of_lt (Nat.lt_of_lt_of_le X3.out.lt hb)); have h4 := Lib.hid (Nat.le_trans QQ.out.size hb); replace X3 := Lib.hid (X3.out.kept qq); replace QQ := Lib.hid (Qw.trans QQ.out qq); have X4 := Lib.hid xx; clear xx qq hb)))
            have c3_0 := X3.out.kp0
            have c3_1 := X3.out.kp1
            have c4_0 := X4.out.kp0
            have c4_1 := X4.out.kp1
            try simp only [List.getElem_toArray, List.getElem_cons_succ, List.getElem_cons_zero, Act.put, List.setIfInBounds_toArray, List.set_cons_zero, List.set_cons_succ]
            refine region_kept (by kernel_rfl) (by kernel_rfl) ?_
            repeat (go_big_quiet_step (first | (go_at_call 39; with_reducible exact Kept.call (I1.out _)) | (go_at_call 39; with_reducible exact Kept.call (I2.out _))))
            refine wpQuiet_nil ?_
            intro w3 qq
            clear c3_0 c3_1 c4_0 c4_1
            replace X3 := Lib.hid (X3.out.kept qq)
            replace X4 := Lib.hid (X4.out.kept qq)
            replace QQ := Lib.hid (Qw.trans QQ.out qq)
            clear qq
            go_upto_region 7 with fail
            go_upto_region 9 with fail
            go_upto_region 10 with fail
            go_wp2_with (first | ((with_reducible refine ld_pt 3 ?_ X3.out ?_); (rfl)) | ((with_reducible refine ld_pt 4 ?_ X4.out ?_); (rfl)))
            go_ret
            first | exact ⟨rfl, QQ.out⟩ | exact ⟨ret_bl (by simp [*]), QQ.out⟩ | exact ⟨ret_bl (by simp; omega), QQ.out⟩
          · have z2 : (b == d) = false := beq_eq_false_iff_ne.2 c2
            have e : (decide (a = c) && decide (b = d)) = false := by simp [c2]
            rw [e]
            clear e c1 c2
            have QQ : Hid (Qw w w) := Lib.hid (Qw.refl w)
            go_enter Try.func74, Try.ntmps74
            go_upto_region 1 with (go_big_may; (first | ((with_reducible refine box_pt (x := ?_) (y := ?_) 0 ?_ ?_); rotate_left 2; (rfl); intro w1 B3 hb xx qq; have h3 := Lib.hid (Nat.le_trans QQ.out.size hb); replace QQ := Lib.hid (Qw.trans QQ.out qq); have X3 := Lib.hid xx; clear xx qq hb) | ((with_reducible refine box_pt (x := ?_) (y := ?_) 1 ?_ ?_); rotate_left 2; (rfl); intro w2 B4 hb xx qq; have n4_3 := Lib.hid (Nat.ne_of_gt (Nat.lt_of_lt_of_le X3.out.lt hb)); have m4_3 := Lib.hid (Nat.ne_of_lt (Nat.lt_of_lt_of_le X3.out.lt hb)); have h4 := Lib.hid (Nat.le_trans QQ.out.size hb); replace X3 := Lib.hid (X3.out.kept qq); replace QQ := Lib.hid (Qw.trans QQ.out qq); have X4 := Lib.hid xx; clear xx qq hb)))
            have c3_0 := X3.out.kp0
            have c3_1 := X3.out.kp1
            have c4_0 := X4.out.kp0
            have c4_1 := X4.out.kp1
            try simp only [List.getElem_toArray, List.getElem_cons_succ, List.getElem_cons_zero, Act.put, List.setIfInBounds_toArray, List.set_cons_zero, List.set_cons_succ]
            refine region_kept (by kernel_rfl) (by kernel_rfl) ?_
            repeat (go_big_quiet_step (first | (go_at_call 39; with_reducible exact Kept.call (I1.out _)) | (go_at_call 39; with_reducible exact Kept.call (I2.out _))))
            refine wpQuiet_nil ?_
            intro w3 qq
            clear c3_0 c3_1 c4_0 c4_1
            replace X3 := Lib.hid (X3.out.kept qq)
            replace X4 := Lib.hid (X4.out.kept qq)
            replace QQ := Lib.hid (Qw.trans QQ.out qq)
            clear qq
            go_upto_region 7 with fail
            go_upto_region 9 with fail
            go_upto_region 10 with fail
            go_wp2_with (first | ((with_reducible refine ld_pt 3 ?_ X3.out ?_); (rfl)) | ((with_reducible refine ld_pt 4 ?_ X4.out ?_); (rfl)))
            go_ret
            first | exact ⟨rfl, QQ.out⟩ | exact ⟨ret_bl (by simp [*]), QQ.out⟩ | exact ⟨ret_bl (by simp; omega), QQ.out⟩
        · have z1 : (a == c) = false := beq_eq_false_iff_ne.2 c1
          have e : (decide (a = c) && decide (b = d)) = false := by simp [c1]
          rw [e]
          clear e c1
          have QQ : Hid (Qw w w) := Lib.hid (Qw.refl w)
          go_enter Try.func74, Try.ntmps74
          go_upto_region 1 with (go_big_may; (first | ((with_reducible refine box_pt (x := ?_) (y := ?_) 0 ?_ ?_); rotate_left 2; (rfl); intro w1 B3 hb xx qq; have h3 := Lib.hid (Nat.le_trans QQ.out.size hb); replace QQ := Lib.hid (Qw.trans QQ.out qq); have X3 := Lib.hid xx; clear xx qq hb) | ((with_reducible refine box_pt (x := ?_) (y := ?_) 1 ?_ ?_); rotate_left 2; (rfl); intro w2 B4 hb xx qq; have n4_3 := Lib.hid (Nat.ne_of_gt (Nat.lt_of_lt_of_le X3.out.lt hb)); have m4_3 := Lib.hid (Nat.ne_of_lt (Nat.lt_of_lt_of_le X3.out.lt hb)); have h4 := Lib.hid (Nat.le_trans QQ.out.size hb); replace X3 := Lib.hid (X3.out.kept qq); replace QQ := Lib.hid (Qw.trans QQ.out qq); have X4 := Lib.hid xx; clear xx qq hb)))
          have c3_0 := X3.out.kp0
          have c3_1 := X3.out.kp1
          have c4_0 := X4.out.kp0
          have c4_1 := X4.out.kp1
          try simp only [List.getElem_toArray, List.getElem_cons_succ, List.getElem_cons_zero, Act.put, List.setIfInBounds_toArray, List.set_cons_zero, List.set_cons_succ]
          refine region_kept (by kernel_rfl) (by kernel_rfl) ?_
          repeat (go_big_quiet_step (first | (go_at_call 39; with_reducible exact Kept.call (I1.out _)) | (go_at_call 39; with_reducible exact Kept.call (I2.out _))))
          refine wpQuiet_nil ?_
          intro w3 qq
          clear c3_0 c3_1 c4_0 c4_1
          replace X3 := Lib.hid (X3.out.kept qq)
          replace X4 := Lib.hid (X4.out.kept qq)
          replace QQ := Lib.hid (Qw.trans QQ.out qq)
          clear qq
          go_upto_region 7 with fail
          go_upto_region 9 with fail
          go_upto_region 10 with fail
          go_wp2_with (first | ((with_reducible refine ld_pt 3 ?_ X3.out ?_); (rfl)) | ((with_reducible refine ld_pt 4 ?_ X4.out ?_); (rfl)))
          go_ret
          first | exact ⟨rfl, QQ.out⟩ | exact ⟨ret_bl (by simp [*]), QQ.out⟩ | exact ⟨ret_bl (by simp; omega), QQ.out⟩
    by_cases k3 : R ≤ 0
    · have e : (decide (64 ≤ m) && (decide (n - m - 16 ≤ 0) || decide (R ≤ 0)) && (if f = true then (decide (a = c) && decide (b = d)) else !(decide (X = 0) && decide (0 < Y)))) = (if f = true then (decide (a = c) && decide (b = d)) else !(decide (X = 0) && decide (0 < Y))) := by simp [k1, k3]
      rw [e]
      clear e
      cases f
      · simp only [agrB_f]
        by_cases c1 : X = 0
        · have z1 : (X == 0) = true := by simpa using c1
          by_cases c2 : 0 < Y
          · have e : (!(decide (X = 0) && decide (0 < Y))) = false := by simp [c1, c2]
            rw [e]
            clear e
            have QQ : Hid (Qw w w) := Lib.hid (Qw.refl w)
            go_enter Try.func74, Try.ntmps74
            go_upto_region 1 with (go_big_may; (first | ((with_reducible refine box_pt (x := ?_) (y := ?_) 0 ?_ ?_); rotate_left 2; (rfl); intro w1 B3 hb xx qq; have h3 := Lib.hid (Nat.le_trans QQ.out.size hb); replace QQ := Lib.hid (Qw.trans QQ.out qq); have X3 := Lib.hid xx; clear xx qq hb) | ((with_reducible refine box_pt (x := ?_) (y := ?_) 1 ?_ ?_); rotate_left 2; (rfl); intro w2 B4 hb xx qq; have n4_3 := Lib.hid (Nat.ne_of_gt (Nat.lt_of_lt_of_le X3.out.lt hb)); have m4_3 := Lib.hid (Nat.ne_of_lt (Nat.lt_of_lt_of_le X3.out.lt hb)); have h4 := Lib.hid (Nat.le_trans QQ.out.size hb); replace X3 := Lib.hid (X3.out.kept qq); replace QQ := Lib.hid (Qw.trans QQ.out qq); have X4 := Lib.hid xx; clear xx qq hb)))
            have c3_0 := X3.out.kp0
            have c3_1 := X3.out.kp1
            have c4_0 := X4.out.kp0
            have c4_1 := X4.out.kp1
            try simp only [List.getElem_toArray, List.getElem_cons_succ, List.getElem_cons_zero, Act.put, List.setIfInBounds_toArray, List.set_cons_zero, List.set_cons_succ]
            refine region_kept (by kernel_rfl) (by kernel_rfl) ?_
            repeat (go_big_quiet_step (first | (go_at_call 39; with_reducible exact Kept.call (I1.out _)) | (go_at_call 39; with_reducible exact Kept.call (I2.out _))))
            refine wpQuiet_nil ?_
            intro w3 qq
            clear c3_0 c3_1 c4_0 c4_1
            replace X3 := Lib.hid (X3.out.kept qq)
            replace X4 := Lib.hid (X4.out.kept qq)
            replace QQ := Lib.hid (Qw.trans QQ.out qq)
            clear qq
            go_upto_region 7 with fail
            go_upto_region 9 with (go_big_may; (go_at_call 100; ((with_reducible refine (R1.out _).mono ?_); rintro e w4 ⟨rfl, qq⟩; replace X3 := Lib.hid (X3.out.kept qq); replace X4 := Lib.hid (X4.out.kept qq); replace QQ := Lib.hid (Qw.trans QQ.out qq); clear qq)))
            go_upto_region 11 with fail
            go_wp2_with (first | ((with_reducible refine ld_pt 3 ?_ X3.out ?_); (rfl)) | ((with_reducible refine ld_pt 4 ?_ X4.out ?_); (rfl)) | (go_at_call 40; ((with_reducible refine (CR.out _).mono ?_); rintro e w5 ⟨rfl, qq⟩; replace X3 := Lib.hid (X3.out.kept qq); replace X4 := Lib.hid (X4.out.kept qq); replace QQ := Lib.hid (Qw.trans QQ.out qq); clear qq; have c3_0 := X3.out.p0; have c3_1 := X3.out.p1; have c4_0 := X4.out.p0; have c4_1 := X4.out.p1)) | (go_at_call 39; ((with_reducible refine (IN.out _).mono ?_); rintro e w6 ⟨rfl, qq⟩; replace X3 := Lib.hid (X3.out.kept qq); replace X4 := Lib.hid (X4.out.kept qq); replace QQ := Lib.hid (Qw.trans QQ.out qq); clear qq)))
            go_ret
            first | exact ⟨rfl, QQ.out⟩ | exact ⟨ret_bl (by simp [*]), QQ.out⟩ | exact ⟨ret_bl (by simp; omega), QQ.out⟩
          · have e : (!(decide (X = 0) && decide (0 < Y))) = true := by simp [c2]
            rw [e]
            clear e
            have QQ : Hid (Qw w w) := Lib.hid (Qw.refl w)
            go_enter Try.func74, Try.ntmps74
            go_upto_region 1 with (go_big_may; (first | ((with_reducible refine box_pt (x := ?_) (y := ?_) 0 ?_ ?_); rotate_left 2; (rfl); intro w1 B3 hb xx qq; have h3 := Lib.hid (Nat.le_trans QQ.out.size hb); replace QQ := Lib.hid (Qw.trans QQ.out qq); have X3 := Lib.hid xx; clear xx qq hb) | ((with_reducible refine box_pt (x := ?_) (y := ?_) 1 ?_ ?_); rotate_left 2; (rfl); intro w2 B4 hb xx qq; have n4_3 := Lib.hid (Nat.ne_of_gt (Nat.lt_of_lt_of_le X3.out.lt hb)); have m4_3 := Lib.hid (Nat.ne_of_lt (Nat.lt_of_lt_of_le X3.out.lt hb)); have h4 := Lib.hid (Nat.le_trans QQ.out.size hb); replace X3 := Lib.hid (X3.out.kept qq); replace QQ := Lib.hid (Qw.trans QQ.out qq); have X4 := Lib.hid xx; clear xx qq hb)))
            have c3_0 := X3.out.kp0
            have c3_1 := X3.out.kp1
            have c4_0 := X4.out.kp0
            have c4_1 := X4.out.kp1
            try simp only [List.getElem_toArray, List.getElem_cons_succ, List.getElem_cons_zero, Act.put, List.setIfInBounds_toArray, List.set_cons_zero, List.set_cons_succ]
            refine region_kept (by kernel_rfl) (by kernel_rfl) ?_
            repeat (go_big_quiet_step (first | (go_at_call 39; with_reducible exact Kept.call (I1.out _)) | (go_at_call 39; with_reducible exact Kept.call (I2.out _))))
            refine wpQuiet_nil ?_
            intro w3 qq
            clear c3_0 c3_1 c4_0 c4_1
            replace X3 := Lib.hid (X3.out.kept qq)
            replace X4 := Lib.hid (X4.out.kept qq)
            replace QQ := Lib.hid (Qw.trans QQ.out qq)
            clear qq
            go_upto_region 7 with fail
            go_upto_region 9 with (go_big_may; (go_at_call 100; ((with_reducible refine (R1.out _).mono ?_); rintro e w4 ⟨rfl, qq⟩; replace X3 := Lib.hid (X3.out.kept qq); replace X4 := Lib.hid (X4.out.kept qq); replace QQ := Lib.hid (Qw.trans QQ.out qq); clear qq)))
            go_upto_region 11 with fail
            go_wp2_with (first | ((with_reducible refine ld_pt 3 ?_ X3.out ?_); (rfl)) | ((with_reducible refine ld_pt 4 ?_ X4.out ?_); (rfl)) | (go_at_call 40; ((with_reducible refine (CR.out _).mono ?_); rintro e w5 ⟨rfl, qq⟩; replace X3 := Lib.hid (X3.out.kept qq); replace X4 := Lib.hid (X4.out.kept qq); replace QQ := Lib.hid (Qw.trans QQ.out qq); clear qq; have c3_0 := X3.out.p0; have c3_1 := X3.out.p1; have c4_0 := X4.out.p0; have c4_1 := X4.out.p1)) | (go_at_call 39; ((with_reducible refine (IN.out _).mono ?_); rintro e w6 ⟨rfl, qq⟩; replace X3 := Lib.hid (X3.out.kept qq); replace X4 := Lib.hid (X4.out.kept qq); replace QQ := Lib.hid (Qw.trans QQ.out qq); clear qq)))
            go_ret
            first | exact ⟨rfl, QQ.out⟩ | exact ⟨ret_bl (by simp [*]), QQ.out⟩ | exact ⟨ret_bl (by simp; omega), QQ.out⟩
        · have z1 : (X == 0) = false := beq_eq_false_iff_ne.2 c1
          have e : (!(decide (X = 0) && decide (0 < Y))) = true := by simp [c1]
          rw [e]
          clear e
          have QQ : Hid (Qw w w) := Lib.hid (Qw.refl w)
          go_enter Try.func74, Try.ntmps74
          go_upto_region 1 with (go_big_may; (first | ((with_reducible refine box_pt (x := ?_) (y := ?_) 0 ?_ ?_); rotate_left 2; (rfl); intro w1 B3 hb xx qq; have h3 := Lib.hid (Nat.le_trans QQ.out.size hb); replace QQ := Lib.hid (Qw.trans QQ.out qq); have X3 := Lib.hid xx; clear xx qq hb) | ((with_reducible refine box_pt (x := ?_) (y := ?_) 1 ?_ ?_); rotate_left 2; (rfl); intro w2 B4 hb xx qq; have n4_3 := Lib.hid (Nat.ne_of_gt (Nat.lt_of_lt_of_le X3.out.lt hb)); have m4_3 := Lib.hid (Nat.ne_of_lt (Nat.lt_of_lt_of_le X3.out.lt hb)); have h4 := Lib.hid (Nat.le_trans QQ.out.size hb); replace X3 := Lib.hid (X3.out.kept qq); replace QQ := Lib.hid (Qw.trans QQ.out qq); have X4 := Lib.hid xx; clear xx qq hb)))
          have c3_0 := X3.out.kp0
          have c3_1 := X3.out.kp1
          have c4_0 := X4.out.kp0
          have c4_1 := X4.out.kp1
          try simp only [List.getElem_toArray, List.getElem_cons_succ, List.getElem_cons_zero, Act.put, List.setIfInBounds_toArray, List.set_cons_zero, List.set_cons_succ]
          refine region_kept (by kernel_rfl) (by kernel_rfl) ?_
          repeat (go_big_quiet_step (first | (go_at_call 39; with_reducible exact Kept.call (I1.out _)) | (go_at_call 39; with_reducible exact Kept.call (I2.out _))))
          refine wpQuiet_nil ?_
          intro w3 qq
          clear c3_0 c3_1 c4_0 c4_1
          replace X3 := Lib.hid (X3.out.kept qq)
          replace X4 := Lib.hid (X4.out.kept qq)
          replace QQ := Lib.hid (Qw.trans QQ.out qq)
          clear qq
          go_upto_region 7 with fail
          go_upto_region 9 with (go_big_may; (go_at_call 100; ((with_reducible refine (R1.out _).mono ?_); rintro e w4 ⟨rfl, qq⟩; replace X3 := Lib.hid (X3.out.kept qq); replace X4 := Lib.hid (X4.out.kept qq); replace QQ := Lib.hid (Qw.trans QQ.out qq); clear qq)))
          go_upto_region 11 with fail
          go_wp2_with (first | ((with_reducible refine ld_pt 3 ?_ X3.out ?_); (rfl)) | ((with_reducible refine ld_pt 4 ?_ X4.out ?_); (rfl)) | (go_at_call 40; ((with_reducible refine (CR.out _).mono ?_); rintro e w5 ⟨rfl, qq⟩; replace X3 := Lib.hid (X3.out.kept qq); replace X4 := Lib.hid (X4.out.kept qq); replace QQ := Lib.hid (Qw.trans QQ.out qq); clear qq; have c3_0 := X3.out.p0; have c3_1 := X3.out.p1; have c4_0 := X4.out.p0; have c4_1 := X4.out.p1)))
          go_ret
          first | exact ⟨rfl, QQ.out⟩ | exact ⟨ret_bl (by simp [*]), QQ.out⟩ | exact ⟨ret_bl (by simp; omega), QQ.out⟩
      · simp only [agrB_t]
        by_cases c1 : a = c
        · have z1 : (a == c) = true := by simpa using c1
          by_cases c2 : b = d
          · have z2 : (b == d) = true := by simpa using c2
            have e : (decide (a = c) && decide (b = d)) = true := by simp [c1, c2]
            rw [e]
            clear e c1 c2
            have QQ : Hid (Qw w w) := Lib.hid (Qw.refl w)
            go_enter Try.func74, Try.ntmps74
            go_upto_region 1 with (go_big_may; (first | ((with_reducible refine box_pt (x := ?_) (y := ?_) 0 ?_ ?_); rotate_left 2; (rfl); intro w1 B3 hb xx qq; have h3 := Lib.hid (Nat.le_trans QQ.out.size hb); replace QQ := Lib.hid (Qw.trans QQ.out qq); have X3 := Lib.hid xx; clear xx qq hb) | ((with_reducible refine box_pt (x := ?_) (y := ?_) 1 ?_ ?_); rotate_left 2; (rfl); intro w2 B4 hb xx qq; have n4_3 := Lib.hid (Nat.ne_of_gt (Nat.lt_of_lt_of_le X3.out.lt hb)); have m4_3 := Lib.hid (Nat.ne_of_lt (Nat.lt_of_lt_of_le X3.out.lt hb)); have h4 := Lib.hid (Nat.le_trans QQ.out.size hb); replace X3 := Lib.hid (X3.out.kept qq); replace QQ := Lib.hid (Qw.trans QQ.out qq); have X4 := Lib.hid xx; clear xx qq hb)))
            have c3_0 := X3.out.kp0
            have c3_1 := X3.out.kp1
            have c4_0 := X4.out.kp0
            have c4_1 := X4.out.kp1
            try simp only [List.getElem_toArray, List.getElem_cons_succ, List.getElem_cons_zero, Act.put, List.setIfInBounds_toArray, List.set_cons_zero, List.set_cons_succ]
            refine region_kept (by kernel_rfl) (by kernel_rfl) ?_
            repeat (go_big_quiet_step (first | (go_at_call 39; with_reducible exact Kept.call (I1.out _)) | (go_at_call 39; with_reducible exact Kept.call (I2.out _))))
            refine wpQuiet_nil ?_
            intro w3 qq
            clear c3_0 c3_1 c4_0 c4_1
            replace X3 := Lib.hid (X3.out.kept qq)
            replace X4 := Lib.hid (X4.out.kept qq)
            replace QQ := Lib.hid (Qw.trans QQ.out qq)
            clear qq
            go_upto_region 7 with fail
            go_upto_region 9 with (go_big_may; (go_at_call 100; ((with_reducible refine (R1.out _).mono ?_); rintro e w4 ⟨rfl, qq⟩; replace X3 := Lib.hid (X3.out.kept qq); replace X4 := Lib.hid (X4.out.kept qq); replace QQ := Lib.hid (Qw.trans QQ.out qq); clear qq)))
            go_upto_region 10 with fail
            go_wp2_with (first | ((with_reducible refine ld_pt 3 ?_ X3.out ?_); (rfl)) | ((with_reducible refine ld_pt 4 ?_ X4.out ?_); (rfl)))
            go_ret
            first | exact ⟨rfl, QQ.out⟩ | exact ⟨ret_bl (by simp [*]), QQ.out⟩ | exact ⟨ret_bl (by simp; omega), QQ.out⟩
          · have z2 : (b == d) = false := beq_eq_false_iff_ne.2 c2
            have e : (decide (a = c) && decide (b = d)) = false := by simp [c2]
            rw [e]
            clear e c1 c2
            have QQ : Hid (Qw w w) := Lib.hid (Qw.refl w)
            go_enter Try.func74, Try.ntmps74
            go_upto_region 1 with (go_big_may; (first | ((with_reducible refine box_pt (x := ?_) (y := ?_) 0 ?_ ?_); rotate_left 2; (rfl); intro w1 B3 hb xx qq; have h3 := Lib.hid (Nat.le_trans QQ.out.size hb); replace QQ := Lib.hid (Qw.trans QQ.out qq); have X3 := Lib.hid xx; clear xx qq hb) | ((with_reducible refine box_pt (x := ?_) (y := ?_) 1 ?_ ?_); rotate_left 2; (rfl); intro w2 B4 hb xx qq; have n4_3 := Lib.hid (Nat.ne_of_gt (Nat.lt_of_lt_of_le X3.out.lt hb)); have m4_3 := Lib.hid (Nat.ne_of_lt (Nat.lt_of_lt_of_le X3.out.lt hb)); have h4 := Lib.hid (Nat.le_trans QQ.out.size hb); replace X3 := Lib.hid (X3.out.kept qq); replace QQ := Lib.hid (Qw.trans QQ.out qq); have X4 := Lib.hid xx; clear xx qq hb)))
            have c3_0 := X3.out.kp0
            have c3_1 := X3.out.kp1
            have c4_0 := X4.out.kp0
            have c4_1 := X4.out.kp1
            try simp only [List.getElem_toArray, List.getElem_cons_succ, List.getElem_cons_zero, Act.put, List.setIfInBounds_toArray, List.set_cons_zero, List.set_cons_succ]
            refine region_kept (by kernel_rfl) (by kernel_rfl) ?_
            repeat (go_big_quiet_step (first | (go_at_call 39; with_reducible exact Kept.call (I1.out _)) | (go_at_call 39; with_reducible exact Kept.call (I2.out _))))
            refine wpQuiet_nil ?_
            intro w3 qq
            clear c3_0 c3_1 c4_0 c4_1
            replace X3 := Lib.hid (X3.out.kept qq)
            replace X4 := Lib.hid (X4.out.kept qq)
            replace QQ := Lib.hid (Qw.trans QQ.out qq)
            clear qq
            go_upto_region 7 with fail
            go_upto_region 9 with (go_big_may; (go_at_call 100; ((with_reducible refine (R1.out _).mono ?_); rintro e w4 ⟨rfl, qq⟩; replace X3 := Lib.hid (X3.out.kept qq); replace X4 := Lib.hid (X4.out.kept qq); replace QQ := Lib.hid (Qw.trans QQ.out qq); clear qq)))
            go_upto_region 10 with fail
            go_wp2_with (first | ((with_reducible refine ld_pt 3 ?_ X3.out ?_); (rfl)) | ((with_reducible refine ld_pt 4 ?_ X4.out ?_); (rfl)))
            go_ret
            first | exact ⟨rfl, QQ.out⟩ | exact ⟨ret_bl (by simp [*]), QQ.out⟩ | exact ⟨ret_bl (by simp; omega), QQ.out⟩
        · have z1 : (a == c) = false := beq_eq_false_iff_ne.2 c1
          have e : (decide (a = c) && decide (b = d)) = false := by simp [c1]
          rw [e]
          clear e c1
          have QQ : Hid (Qw w w) := Lib.hid (Qw.refl w)
          go_enter Try.func74, Try.ntmps74
          go_upto_region 1 with (go_big_may; (first | ((with_reducible refine box_pt (x := ?_) (y := ?_) 0 ?_ ?_); rotate_left 2; (rfl); intro w1 B3 hb xx qq; have h3 := Lib.hid (Nat.le_trans QQ.out.size hb); replace QQ := Lib.hid (Qw.trans QQ.out qq); have X3 := Lib.hid xx; clear xx qq hb) | ((with_reducible refine box_pt (x := ?_) (y := ?_) 1 ?_ ?_); rotate_left 2; (rfl); intro w2 B4 hb xx qq; have n4_3 := Lib.hid (Nat.ne_of_gt (Nat.lt_of_lt_of_le X3.out.lt hb)); have m4_3 := Lib.hid (Nat.ne_of_lt (Nat.lt_of_lt_of_le X3.out.lt hb)); have h4 := Lib.hid (Nat.le_trans QQ.out.size hb); replace X3 := Lib.hid (X3.out.kept qq); replace QQ := Lib.hid (Qw.trans QQ.out qq); have X4 := Lib.hid xx; clear xx qq hb)))
          have c3_0 := X3.out.kp0
          have c3_1 := X3.out.kp1
          have c4_0 := X4.out.kp0
          have c4_1 := X4.out.kp1
          try simp only [List.getElem_toArray, List.getElem_cons_succ, List.getElem_cons_zero, Act.put, List.setIfInBounds_toArray, List.set_cons_zero, List.set_cons_succ]
          refine region_kept (by kernel_rfl) (by kernel_rfl) ?_
          repeat (go_big_quiet_step (first | (go_at_call 39; with_reducible exact Kept.call (I1.out _)) | (go_at_call 39; with_reducible exact Kept.call (I2.out _))))
          refine wpQuiet_nil ?_
          intro w3 qq
          clear c3_0 c3_1 c4_0 c4_1
          replace X3 := Lib.hid (X3.out.kept qq)
          replace X4 := Lib.hid (X4.out.kept qq)
          replace QQ := Lib.hid (Qw.trans QQ.out qq)
          clear qq
          go_upto_region 7 with fail
          go_upto_region 9 with (go_big_may; (go_at_call 100; ((with_reducible refine (R1.out _).mono ?_); rintro e w4 ⟨rfl, qq⟩; replace X3 := Lib.hid (X3.out.kept qq); replace X4 := Lib.hid (X4.out.kept qq); replace QQ := Lib.hid (Qw.trans QQ.out qq); clear qq)))
          go_upto_region 10 with fail
          go_wp2_with (first | ((with_reducible refine ld_pt 3 ?_ X3.out ?_); (rfl)) | ((with_reducible refine ld_pt 4 ?_ X4.out ?_); (rfl)))
          go_ret
          first | exact ⟨rfl, QQ.out⟩ | exact ⟨ret_bl (by simp [*]), QQ.out⟩ | exact ⟨ret_bl (by simp; omega), QQ.out⟩
    · have e : (decide (64 ≤ m) && (decide (n - m - 16 ≤ 0) || decide (R ≤ 0)) && (if f = true then (decide (a = c) && decide (b = d)) else !(decide (X = 0) && decide (0 < Y)))) = false := by simp [k2, k3]
      rw [e]
      clear e
      have QQ : Hid (Qw w w) := Lib.hid (Qw.refl w)
      go_enter Try.func74, Try.ntmps74
      go_upto_region 1 with (go_big_may; (first | ((with_reducible refine box_pt (x := ?_) (y := ?_) 0 ?_ ?_); rotate_left 2; (rfl); intro w1 B3 hb xx qq; have h3 := Lib.hid (Nat.le_trans QQ.out.size hb); replace QQ := Lib.hid (Qw.trans QQ.out qq); have X3 := Lib.hid xx; clear xx qq hb) | ((with_reducible refine box_pt (x := ?_) (y := ?_) 1 ?_ ?_); rotate_left 2; (rfl); intro w2 B4 hb xx qq; have n4_3 := Lib.hid (Nat.ne_of_gt (Nat.lt_of_lt_of_le X3.out.lt hb)); have m4_3 := Lib.hid (Nat.ne_of_lt (Nat.lt_of_lt_of_le X3.out.lt hb)); have h4 := Lib.hid (Nat.le_trans QQ.out.size hb); replace X3 := Lib.hid (X3.out.kept qq); replace QQ := Lib.hid (Qw.trans QQ.out qq); have X4 := Lib.hid xx; clear xx qq hb)))
      have c3_0 := X3.out.kp0
      have c3_1 := X3.out.kp1
      have c4_0 := X4.out.kp0
      have c4_1 := X4.out.kp1
      try simp only [List.getElem_toArray, List.getElem_cons_succ, List.getElem_cons_zero, Act.put, List.setIfInBounds_toArray, List.set_cons_zero, List.set_cons_succ]
      refine region_kept (by kernel_rfl) (by kernel_rfl) ?_
      repeat (go_big_quiet_step (first | (go_at_call 39; with_reducible exact Kept.call (I1.out _)) | (go_at_call 39; with_reducible exact Kept.call (I2.out _))))
      refine wpQuiet_nil ?_
      intro w3 qq
      clear c3_0 c3_1 c4_0 c4_1
      replace X3 := Lib.hid (X3.out.kept qq)
      replace X4 := Lib.hid (X4.out.kept qq)
      replace QQ := Lib.hid (Qw.trans QQ.out qq)
      clear qq
      go_upto_region 7 with fail
      go_upto_region 8 with (go_big_may; (go_at_call 100; ((with_reducible refine (R1.out _).mono ?_); rintro e w4 ⟨rfl, qq⟩; replace X3 := Lib.hid (X3.out.kept qq); replace X4 := Lib.hid (X4.out.kept qq); replace QQ := Lib.hid (Qw.trans QQ.out qq); clear qq)))
      go_wp2
      go_ret
      first | exact ⟨rfl, QQ.out⟩ | exact ⟨ret_bl (by simp [*]), QQ.out⟩ | exact ⟨ret_bl (by simp; omega), QQ.out⟩
  · have lo : Ac.lo2 n m = n := by unfold Ac.lo2; split <;> omega
    have hi : Ac.hi2 n m = m := by unfold Ac.hi2; split <;> omega
    rw [lo, hi]
    clear lo hi
    have r1 := fun w => refCmpW (m - n - 16) (m - n - 16) 64 n (by omega) (by omega) (by omega) (by omega) (by omega) (by omega) (by omega) (by omega) w
    generalize cmpI ((m - n - 16) * (m - n - 16)) (64 * n) = R at *
    have R1 := Lib.hid r1
    clear r1
    by_cases k1 : 64 ≤ n
    case neg =>
      have e : (decide (64 ≤ n) && (decide (m - n - 16 ≤ 0) || decide (R ≤ 0)) && (if f = true then (decide (a = c) && decide (b = d)) else !(decide (X = 0) && decide (0 < Y)))) = false := by simp [k1]
      rw [e]
      clear e
      have QQ : Hid (Qw w w) := Lib.hid (Qw.refl w)
      go_enter Try.func74, Try.ntmps74
      go_upto_region 1 with (go_big_may; (first | ((with_reducible refine box_pt (x := ?_) (y := ?_) 0 ?_ ?_); rotate_left 2; (rfl); intro w1 B3 hb xx qq; have h3 := Lib.hid (Nat.le_trans QQ.out.size hb); replace QQ := Lib.hid (Qw.trans QQ.out qq); have X3 := Lib.hid xx; clear xx qq hb) | ((with_reducible refine box_pt (x := ?_) (y := ?_) 1 ?_ ?_); rotate_left 2; (rfl); intro w2 B4 hb xx qq; have n4_3 := Lib.hid (Nat.ne_of_gt (Nat.lt_of_lt_of_le X3.out.lt hb)); have m4_3 := Lib.hid (Nat.ne_of_lt (Nat.lt_of_lt_of_le X3.out.lt hb)); have h4 := Lib.hid (Nat.le_trans QQ.out.size hb); replace X3 := Lib.hid (X3.out.kept qq); replace QQ := Lib.hid (Qw.trans QQ.out qq); have X4 := Lib.hid xx; clear xx qq hb)))
      have c3_0 := X3.out.kp0
      have c3_1 := X3.out.kp1
      have c4_0 := X4.out.kp0
      have c4_1 := X4.out.kp1
      try simp only [List.getElem_toArray, List.getElem_cons_succ, List.getElem_cons_zero, Act.put, List.setIfInBounds_toArray, List.set_cons_zero, List.set_cons_succ]
      refine region_kept (by kernel_rfl) (by kernel_rfl) ?_
      repeat (go_big_quiet_step (first | (go_at_call 39; with_reducible exact Kept.call (I1.out _)) | (go_at_call 39; with_reducible exact Kept.call (I2.out _))))
      refine wpQuiet_nil ?_
      intro w3 qq
      clear c3_0 c3_1 c4_0 c4_1
      replace X3 := Lib.hid (X3.out.kept qq)
      replace X4 := Lib.hid (X4.out.kept qq)
      replace QQ := Lib.hid (Qw.trans QQ.out qq)
      clear qq
      go_wp2
      go_ret
      first | exact ⟨rfl, QQ.out⟩ | exact ⟨ret_bl (by simp [*]), QQ.out⟩ | exact ⟨ret_bl (by simp; omega), QQ.out⟩
    by_cases k2 : m - n - 16 ≤ 0
    · have e : (decide (64 ≤ n) && (decide (m - n - 16 ≤ 0) || decide (R ≤ 0)) && (if f = true then (decide (a = c) && decide (b = d)) else !(decide (X = 0) && decide (0 < Y)))) = (if f = true then (decide (a = c) && decide (b = d)) else !(decide (X = 0) && decide (0 < Y))) := by simp [k1, k2]
      rw [e]
      clear e
      cases f
      · simp only [agrB_f]
        by_cases c1 : X = 0
        · have z1 : (X == 0) = true := by simpa using c1
          by_cases c2 : 0 < Y
          · have e : (!(decide (X = 0) && decide (0 < Y))) = false := by simp [c1, c2]
            rw [e]
            clear e
            have QQ : Hid (Qw w w) := Lib.hid (Qw.refl w)
            go_enter Try.func74, Try.ntmps74
            go_upto_region 1 with (go_big_may; (first | ((with_reducible refine box_pt (x := ?_) (y := ?_) 0 ?_ ?_); rotate_left 2; (rfl); intro w1 B3 hb xx qq; have h3 := Lib.hid (Nat.le_trans QQ.out.size hb); replace QQ := Lib.hid (Qw.trans QQ.out qq); have X3 := Lib.hid xx; clear xx qq hb) | ((with_reducible refine box_pt (x := ?_) (y := ?_) 1 ?_ ?_); rotate_left 2; (rfl); intro w2 B4 hb xx qq; have n4_3 := Lib.hid (Nat.ne_of_gt (Nat.lt_of_lt_of_le X3.out.lt hb)); have m4_3 := Lib.hid (Nat.ne_of_lt (Nat.lt_of_lt_of_le X3.out.lt hb)); have h4 := Lib.hid (Nat.le_trans QQ.out.size hb); replace X3 := Lib.hid (X3.out.kept qq); replace QQ := Lib.hid (Qw.trans QQ.out qq); have X4 := Lib.hid xx; clear xx qq hb)))
            have c3_0 := X3.out.kp0
            have c3_1 := X3.out.kp1
            have c4_0 := X4.out.kp0
            have c4_1 := X4.out.kp1
            try simp only [List.getElem_toArray, List.getElem_cons_succ, List.getElem_cons_zero, Act.put, List.setIfInBounds_toArray, List.set_cons_zero, List.set_cons_succ]
            refine region_kept (by kernel_rfl) (by kernel_rfl) ?_
            repeat (go_big_quiet_step (first | (go_at_call 39; with_reducible exact Kept.call (I1.out _)) | (go_at_call 39; with_reducible exact Kept.call (I2.out _))))
            refine wpQuiet_nil ?_
            intro w3 qq
            clear c3_0 c3_1 c4_0 c4_1
            replace X3 := Lib.hid (X3.out.kept qq)
            replace X4 := Lib.hid (X4.out.kept qq)
            replace QQ := Lib.hid (Qw.trans QQ.out qq)
            clear qq
            go_upto_region 7 with fail
            go_upto_region 9 with fail
            go_upto_region 11 with fail
            go_wp2_with (first | ((with_reducible refine ld_pt 3 ?_ X3.out ?_); (rfl)) | ((with_reducible refine ld_pt 4 ?_ X4.out ?_); (rfl)) | (go_at_call 40; ((with_reducible refine (CR.out _).mono ?_); rintro e w4 ⟨rfl, qq⟩; replace X3 := Lib.hid (X3.out.kept qq); replace X4 := Lib.hid (X4.out.kept qq); replace QQ := Lib.hid (Qw.trans QQ.out qq); clear qq; have c3_0 := X3.out.p0; have c3_1 := X3.out.p1; have c4_0 := X4.out.p0; have c4_1 := X4.out.p1)) | (go_at_call 39; ((with_reducible refine (IN.out _).mono ?_); rintro e w5 ⟨rfl, qq⟩; replace X3 := Lib.hid (X3.out.kept qq); replace X4 := Lib.hid (X4.out.kept qq); replace QQ := Lib.hid (Qw.trans QQ.out qq); clear qq)))
            go_ret
            first | exact ⟨rfl, QQ.out⟩ | exact ⟨ret_bl (by simp [*]), QQ.out⟩ | exact ⟨ret_bl (by simp; omega), QQ.out⟩
          · have e : (!(decide (X = 0) && decide (0 < Y))) = true := by simp [c2]
            rw [e]
            clear e
            have QQ : Hid (Qw w w) := Lib.hid (Qw.refl w)
            go_enter Try.func74, Try.ntmps74
            go_upto_region 1 with (go_big_may; (first | ((with_reducible refine box_pt (x := ?_) (y := ?_) 0 ?_ ?_); rotate_left 2; (rfl); intro w1 B3 hb xx qq; have h3 := Lib.hid (Nat.le_trans QQ.out.size hb); replace QQ := Lib.hid (Qw.trans QQ.out qq); have X3 := Lib.hid xx; clear xx qq hb) | ((with_reducible refine box_pt (x := ?_) (y := ?_) 1 ?_ ?_); rotate_left 2; (rfl); intro w2 B4 hb xx qq; have n4_3 := Lib.hid (Nat.ne_of_gt (Nat.lt_of_lt_of_le X3.out.lt hb)); have m4_3 := Lib.hid (Nat.ne_of_lt (Nat.lt_of_lt_of_le X3.out.lt hb)); have h4 := Lib.hid (Nat.le_trans QQ.out.size hb); replace X3 := Lib.hid (X3.out.kept qq); replace QQ := Lib.hid (Qw.trans QQ.out qq); have X4 := Lib.hid xx; clear xx qq hb)))
            have c3_0 := X3.out.kp0
            have c3_1 := X3.out.kp1
            have c4_0 := X4.out.kp0
            have c4_1 := X4.out.kp1
            try simp only [List.getElem_toArray, List.getElem_cons_succ, List.getElem_cons_zero, Act.put, List.setIfInBounds_toArray, List.set_cons_zero, List.set_cons_succ]
            refine region_kept (by kernel_rfl) (by kernel_rfl) ?_
            repeat (go_big_quiet_step (first | (go_at_call 39; with_reducible exact Kept.call (I1.out _)) | (go_at_call 39; with_reducible exact Kept.call (I2.out _))))
            refine wpQuiet_nil ?_
            intro w3 qq
            clear c3_0 c3_1 c4_0 c4_1
            replace X3 := Lib.hid (X3.out.kept qq)
            replace X4 := Lib.hid (X4.out.kept qq)
            replace QQ := Lib.hid (Qw.trans QQ.out qq)
            clear qq
            go_upto_region 7 with fail
            go_upto_region 9 with fail
            go_upto_region 11 with fail
            go_wp2_with (first | ((with_reducible refine ld_pt 3 ?_ X3.out ?_); (rfl)) | ((with_reducible refine ld_pt 4 ?_ X4.out ?_); (rfl)) | (go_at_call 40; ((with_reducible refine (CR.out _).mono ?_); rintro e w4 ⟨rfl, qq⟩; replace X3 := Lib.hid (X3.out.kept qq); replace X4 := Lib.hid (X4.out.kept qq); replace QQ := Lib.hid (Qw.trans QQ.out qq); clear qq; have c3_0 := X3.out.p0; have c3_1 := X3.out.p1; have c4_0 := X4.out.p0; have c4_1 := X4.out.p1)) | (go_at_call 39; ((with_reducible refine (IN.out _).mono ?_); rintro e w5 ⟨rfl, qq⟩; replace X3 := Lib.hid (X3.out.kept qq); replace X4 := Lib.hid (X4.out.kept qq); replace QQ := Lib.hid (Qw.trans QQ.out qq); clear qq)))
            go_ret
            first | exact ⟨rfl, QQ.out⟩ | exact ⟨ret_bl (by simp [*]), QQ.out⟩ | exact ⟨ret_bl (by simp; omega), QQ.out⟩
        · have z1 : (X == 0) = false := beq_eq_false_iff_ne.2 c1
          have e : (!(decide (X = 0) && decide (0 < Y))) = true := by simp [c1]
          rw [e]
          clear e
          have QQ : Hid (Qw w w) := Lib.hid (Qw.refl w)
          go_enter Try.func74, Try.ntmps74
          go_upto_region 1 with (go_big_may; (first | ((with_reducible refine box_pt (x := ?_) (y := ?_) 0 ?_ ?_); rotate_left 2; (rfl); intro w1 B3 hb xx qq; have h3 := Lib.hid (Nat.le_trans QQ.out.size hb); replace QQ := Lib.hid (Qw.trans QQ.out qq); have X3 := Lib.hid xx; clear xx qq hb) | ((with_reducible refine box_pt (x := ?_) (y := ?_) 1 ?_ ?_); rotate_left 2; (rfl); intro w2 B4 hb xx qq; have n4_3 := Lib.hid (Nat.ne_of_gt (Nat.lt_of_lt_of_le X3.out.lt hb)); have m4_3 := Lib.hid (Nat.ne_of_lt (Nat.lt_of_lt_of_le X3.out.lt hb)); have h4 := Lib.hid (Nat.le_trans QQ.out.size hb); replace X3 := Lib.hid (X3.out.kept qq); replace QQ := Lib.hid (Qw.trans QQ.out qq); have X4 := Lib.hid xx; clear xx qq hb)))
          have c3_0 := X3.out.kp0
          have c3_1 := X3.out.kp1
          have c4_0 := X4.out.kp0
          have c4_1 := X4.out.kp1
          try simp only [List.getElem_toArray, List.getElem_cons_succ, List.getElem_cons_zero, Act.put, List.setIfInBounds_toArray, List.set_cons_zero, List.set_cons_succ]
          refine region_kept (by kernel_rfl) (by kernel_rfl) ?_
          repeat (go_big_quiet_step (first | (go_at_call 39; with_reducible exact Kept.call (I1.out _)) | (go_at_call 39; with_reducible exact Kept.call (I2.out _))))
          refine wpQuiet_nil ?_
          intro w3 qq
          clear c3_0 c3_1 c4_0 c4_1
          replace X3 := Lib.hid (X3.out.kept qq)
          replace X4 := Lib.hid (X4.out.kept qq)
          replace QQ := Lib.hid (Qw.trans QQ.out qq)
          clear qq
          go_upto_region 7 with fail
          go_upto_region 9 with fail
          go_upto_region 11 with fail
          go_wp2_with (first | ((with_reducible refine ld_pt 3 ?_ X3.out ?_); (rfl)) | ((with_reducible refine ld_pt 4 ?_ X4.out ?_); (rfl)) | (go_at_call 40; ((with_reducible refine (CR.out _).mono ?_); rintro e w4 ⟨rfl, qq⟩; replace X3 := Lib.hid (X3.out.kept qq); replace X4 := Lib.hid (X4.out.kept qq); replace QQ := Lib.hid (Qw.trans QQ.out qq); clear qq; have c3_0 := X3.out.p0; have c3_1 := X3.out.p1; have c4_0 := X4.out.p0; have c4_1 := X4.out.p1)))
          go_ret
          first | exact ⟨rfl, QQ.out⟩ | exact ⟨ret_bl (by simp [*]), QQ.out⟩ | exact ⟨ret_bl (by simp; omega), QQ.out⟩
      · simp only [agrB_t]
        by_cases c1 : a = c
        · have z1 : (a == c) = true := by simpa using c1
          by_cases c2 : b = d
          · have z2 : (b == d) = true := by simpa using c2
            have e : (decide (a = c) && decide (b = d)) = true := by simp [c1, c2]
            rw [e]
            clear e c1 c2
            have QQ : Hid (Qw w w) := Lib.hid (Qw.refl w)
            go_enter Try.func74, Try.ntmps74
            go_upto_region 1 with (go_big_may; (first | ((with_reducible refine box_pt (x := ?_) (y := ?_) 0 ?_ ?_); rotate_left 2; (rfl); intro w1 B3 hb xx qq; have h3 := Lib.hid (Nat.le_trans QQ.out.size hb); replace QQ := Lib.hid (Qw.trans QQ.out qq); have X3 := Lib.hid xx; clear xx qq hb) | ((with_reducible refine box_pt (x := ?_) (y := ?_) 1 ?_ ?_); rotate_left 2; (rfl); intro w2 B4 hb xx qq; have n4_3 := Lib.hid (Nat.ne_of_gt (Nat.lt_of_lt_of_le X3.out.lt hb)); have m4_3 := Lib.hid (Nat.ne_of_lt (Nat.lt_of_lt_of_le X3.out.lt hb)); have h4 := Lib.hid (Nat.le_trans QQ.out.size hb); replace X3 := Lib.hid (X3.out.kept qq); replace QQ := Lib.hid (Qw.trans QQ.out qq); have X4 := Lib.hid xx; clear xx qq hb)))
            have c3_0 := X3.out.kp0
            have c3_1 := X3.out.kp1
            have c4_0 := X4.out.kp0
            have c4_1 := X4.out.kp1
            try simp only [List.getElem_toArray, List.getElem_cons_succ, List.getElem_cons_zero, Act.put, List.setIfInBounds_toArray, List.set_cons_zero, List.set_cons_succ]
            refine region_kept (by kernel_rfl) (by kernel_rfl) ?_
            repeat (go_big_quiet_step (first | (go_at_call 39; with_reducible exact Kept.call (I1.out _)) | (go_at_call 39; with_reducible exact Kept.call (I2.out _))))
            refine wpQuiet_nil ?_
            intro w3 qq
            clear c3_0 c3_1 c4_0 c4_1
            replace X3 := Lib.hid (X3.out.kept qq)
            replace X4 := Lib.hid (X4.out.kept qq)
            replace QQ := Lib.hid (Qw.trans QQ.out qq)
            clear qq
            go_upto_region 7 with fail
            go_upto_region 9 with fail
            go_upto_region 10 with fail
            go_wp2_with (first | ((with_reducible refine ld_pt 3 ?_ X3.out ?_); (rfl)) | ((with_reducible refine ld_pt 4 ?_ X4.out ?_); (rfl)))
            go_ret
            first | exact ⟨rfl, QQ.out⟩ | exact ⟨ret_bl (by simp [*]), QQ.out⟩ | exact ⟨ret_bl (by simp; omega), QQ.out⟩
          · have z2 : (b == d) = false := beq_eq_false_iff_ne.2 c2
            have e : (decide (a = c) && decide (b = d)) = false := by simp [c2]
            rw [e]
            clear e c1 c2
            have QQ : Hid (Qw w w) := Lib.hid (Qw.refl w)
            go_enter Try.func74, Try.ntmps74
            go_upto_region 1 with (go_big_may; (first | ((with_reducible refine box_pt (x := ?_) (y := ?_) 0 ?_ ?_); rotate_left 2; (rfl); intro w1 B3 hb xx qq; have h3 := Lib.hid (Nat.le_trans QQ.out.size hb); replace QQ := Lib.hid (Qw.trans QQ.out qq); have X3 := Lib.hid xx; clear xx qq hb) | ((with_reducible refine box_pt (x := ?_) (y := ?_) 1 ?_ ?_); rotate_left 2; (rfl); intro w2 B4 hb xx qq; have n4_3 := Lib.hid (Nat.ne_of_gt (Nat.lt_of_lt_of_le X3.out.lt hb)); have m4_3 := Lib.hid (Nat.ne_of_lt (Nat.lt_of_lt_of_le X3.out.lt hb)); have h4 := Lib.hid (Nat.le_trans QQ.out.size hb); replace X3 := Lib.hid (X3.out.kept qq); replace QQ := Lib.hid (Qw.trans QQ.out qq); have X4 := Lib.hid xx; clear xx qq hb)))
            have c3_0 := X3.out.kp0
            have c3_1 := X3.out.kp1
            have c4_0 := X4.out.kp0
            have c4_1 := X4.out.kp1
            try simp only [List.getElem_toArray, List.getElem_cons_succ, List.getElem_cons_zero, Act.put, List.setIfInBounds_toArray, List.set_cons_zero, List.set_cons_succ]
            refine region_kept (by kernel_rfl) (by kernel_rfl) ?_
            repeat (go_big_quiet_step (first | (go_at_call 39; with_reducible exact Kept.call (I1.out _)) | (go_at_call 39; with_reducible exact Kept.call (I2.out _))))
            refine wpQuiet_nil ?_
            intro w3 qq
            clear c3_0 c3_1 c4_0 c4_1
            replace X3 := Lib.hid (X3.out.kept qq)
            replace X4 := Lib.hid (X4.out.kept qq)
            replace QQ := Lib.hid (Qw.trans QQ.out qq)
            clear qq
            go_upto_region 7 with fail
            go_upto_region 9 with fail
            go_upto_region 10 with fail
            go_wp2_with (first | ((with_reducible refine ld_pt 3 ?_ X3.out ?_); (rfl)) | ((with_reducible refine ld_pt 4 ?_ X4.out ?_); (rfl)))
            go_ret
            first | exact ⟨rfl, QQ.out⟩ | exact ⟨ret_bl (by simp [*]), QQ.out⟩ | exact ⟨ret_bl (by simp; omega), QQ.out⟩
        · have z1 : (a == c) = false := beq_eq_false_iff_ne.2 c1
          have e : (decide (a = c) && decide (b = d)) = false := by simp [c1]
          rw [e]
          clear e c1
          have QQ : Hid (Qw w w) := Lib.hid (Qw.refl w)
          go_enter Try.func74, Try.ntmps74
          go_upto_region 1 with (go_big_may; (first | ((with_reducible refine box_pt (x := ?_) (y := ?_) 0 ?_ ?_); rotate_left 2; (rfl); intro w1 B3 hb xx qq; have h3 := Lib.hid (Nat.le_trans QQ.out.size hb); replace QQ := Lib.hid (Qw.trans QQ.out qq); have X3 := Lib.hid xx; clear xx qq hb) | ((with_reducible refine box_pt (x := ?_) (y := ?_) 1 ?_ ?_); rotate_left 2; (rfl); intro w2 B4 hb xx qq; have n4_3 := Lib.hid (Nat.ne_of_gt (Nat.lt_of_lt_of_le X3.out.lt hb)); have m4_3 := Lib.hid (Nat.ne_of_lt (Nat.lt_of_lt_of_le X3.out.lt hb)); have h4 := Lib.hid (Nat.le_trans QQ.out.size hb); replace X3 := Lib.hid (X3.out.kept qq); replace QQ := Lib.hid (Qw.trans QQ.out qq); have X4 := Lib.hid xx; clear xx qq hb)))
          have c3_0 := X3.out.kp0
          have c3_1 := X3.out.kp1
          have c4_0 := X4.out.kp0
          have c4_1 := X4.out.kp1
          try simp only [List.getElem_toArray, List.getElem_cons_succ, List.getElem_cons_zero, Act.put, List.setIfInBounds_toArray, List.set_cons_zero, List.set_cons_succ]
          refine region_kept (by kernel_rfl) (by kernel_rfl) ?_
          repeat (go_big_quiet_step (first | (go_at_call 39; with_reducible exact Kept.call (I1.out _)) | (go_at_call 39; with_reducible exact Kept.call (I2.out _))))
          refine wpQuiet_nil ?_
          intro w3 qq
          clear c3_0 c3_1 c4_0 c4_1
          replace X3 := Lib.hid (X3.out.kept qq)
          replace X4 := Lib.hid (X4.out.kept qq)
          replace QQ := Lib.hid (Qw.trans QQ.out qq)
          clear qq
          go_upto_region 7 with fail
          go_upto_region 9 with fail
          go_upto_region 10 with fail
          go_wp2_with (first | ((with_reducible refine ld_pt 3 ?_ X3.out ?_); (rfl)) | ((with_reducible refine ld_pt 4 ?_ X4.out ?_); (rfl)))
          go_ret
          first | exact ⟨rfl, QQ.out⟩ | exact ⟨ret_bl (by simp [*]), QQ.out⟩ | exact ⟨ret_bl (by simp; omega), QQ.out⟩
    by_cases k3 : R ≤ 0
    · have e : (decide (64 ≤ n) && (decide (m - n - 16 ≤ 0) || decide (R ≤ 0)) && (if f = true then (decide (a = c) && decide (b = d)) else !(decide (X = 0) && decide (0 < Y)))) = (if f = true then (decide (a = c) && decide (b = d)) else !(decide (X = 0) && decide (0 < Y))) := by simp [k1, k3]
      rw [e]
      clear e
      cases f
      · simp only [agrB_f]
        by_cases c1 : X = 0
        · have z1 : (X == 0) = true := by simpa using c1
          by_cases c2 : 0 < Y
          · have e : (!(decide (X = 0) && decide (0 < Y))) = false := by simp [c1, c2]
            rw [e]
            clear e
            have QQ : Hid (Qw w w) := Lib.hid (Qw.refl w)
            go_enter Try.func74, Try.ntmps74
            go_upto_region 1 with (go_big_may; (first | ((with_reducible refine box_pt (x := ?_) (y := ?_) 0 ?_ ?_); rotate_left 2; (rfl); intro w1 B3 hb xx qq; have h3 := Lib.hid (Nat.le_trans QQ.out.size hb); replace QQ := Lib.hid (Qw.trans QQ.out qq); have X3 := Lib.hid xx; clear xx qq hb) | ((with_reducible refine box_pt (x := ?_) (y := ?_) 1 ?_ ?_); rotate_left 2; (rfl); intro w2 B4 hb xx qq; have n4_3 := Lib.hid (Nat.ne_of_gt (Nat.lt_of_lt_of_le X3.out.lt hb)); have m4_3 := Lib.hid (Nat.ne_of_lt (Nat.lt_of_lt_of_le X3.out.lt hb)); have h4 := Lib.hid (Nat.le_trans QQ.out.size hb); replace X3 := Lib.hid (X3.out.kept qq); replace QQ := Lib.hid (Qw.trans QQ.out qq); have X4 := Lib.hid xx; clear xx qq hb)))
            have c3_0 := X3.out.kp0
            have c3_1 := X3.out.kp1
            have c4_0 := X4.out.kp0
            have c4_1 := X4.out.kp1
            try simp only [List.getElem_toArray, List.getElem_cons_succ, List.getElem_cons_zero, Act.put, List.setIfInBounds_toArray, List.set_cons_zero, List.set_cons_succ]
            refine region_kept (by kernel_rfl) (by kernel_rfl) ?_
            repeat (go_big_quiet_step (first | (go_at_call 39; with_reducible exact Kept.call (I1.out _)) | (go_at_call 39; with_reducible exact Kept.call (I2.out _))))
            refine wpQuiet_nil ?_
            intro w3 qq
            clear c3_0 c3_1 c4_0 c4_1
            replace X3 := Lib.hid (X3.out.kept qq)
            replace X4 := Lib.hid (X4.out.kept qq)
            replace QQ := Lib.hid (Qw.trans QQ.out qq)
            clear qq
            go_upto_region 7 with fail
            go_upto_region 9 with (go_big_may; (go_at_call 100; ((with_reducible refine (R1.out _).mono ?_); rintro e w4 ⟨rfl, qq⟩; replace X3 := Lib.hid (X3.out.kept qq); replace X4 := Lib.hid (X4.out.kept qq); replace QQ := Lib.hid (Qw.trans QQ.out qq); clear qq)))
            go_upto_region 11 with fail
            go_wp2_with (first | ((with_reducible refine ld_pt 3 ?_ X3.out ?_); (rfl)) | ((with_reducible refine ld_pt 4 ?_ X4.out ?_); (rfl)) | (go_at_call 40; ((with_reducible refine (CR.out _).mono ?_); rintro e w5 ⟨rfl, qq⟩; replace X3 := Lib.hid (X3.out.kept qq); replace X4 := Lib.hid (X4.out.kept qq); replace QQ := Lib.hid (Qw.trans QQ.out qq); clear qq; have c3_0 := X3.out.p0; have c3_1 := X3.out.p1; have c4_0 := X4.out.p0; have c4_1 := X4.out.p1)) | (go_at_call 39; ((with_reducible refine (IN.out _).mono ?_); rintro e w6 ⟨rfl, qq⟩; replace X3 := Lib.hid (X3.out.kept qq); replace X4 := Lib.hid (X4.out.kept qq); replace QQ := Lib.hid (Qw.trans QQ.out qq); clear qq)))
            go_ret
            first | exact ⟨rfl, QQ.out⟩ | exact ⟨ret_bl (by simp [*]), QQ.out⟩ | exact ⟨ret_bl (by simp; omega), QQ.out⟩
          · have e : (!(decide (X = 0) && decide (0 < Y))) = true := by simp [c2]
            rw [e]
            clear e
            have QQ : Hid (Qw w w) := Lib.hid (Qw.refl w)
            go_enter Try.func74, Try.ntmps74
            go_upto_region 1 with (go_big_may; (first | ((with_reducible refine box_pt (x := ?_) (y := ?_) 0 ?_ ?_); rotate_left 2; (rfl); intro w1 B3 hb xx qq; have h3 := Lib.hid (Nat.le_trans QQ.out.size hb); replace QQ := Lib.hid (Qw.trans QQ.out qq); have X3 := Lib.hid xx; clear xx qq hb) | ((with_reducible refine box_pt (x := ?_) (y := ?_) 1 ?_ ?_); rotate_left 2; (rfl); intro w2 B4 hb xx qq; have n4_3 := Lib.hid (Nat.ne_of_gt (Nat.lt_of_lt_of_le X3.out.lt hb)); have m4_3 := Lib.hid (Nat.ne_of_lt (Nat.lt_of_lt_of_le X3.out.lt hb)); have h4 := Lib.hid (Nat.le_trans QQ.out.size hb); replace X3 := Lib.hid (X3.out.kept qq); replace QQ := Lib.hid (Qw.trans QQ.out qq); have X4 := Lib.hid xx; clear xx qq hb)))
            have c3_0 := X3.out.kp0
            have c3_1 := X3.out.kp1
            have c4_0 := X4.out.kp0
            have c4_1 := X4.out.kp1
            try simp only [List.getElem_toArray, List.getElem_cons_succ, List.getElem_cons_zero, Act.put, List.setIfInBounds_toArray, List.set_cons_zero, List.set_cons_succ]
            refine region_kept (by kernel_rfl) (by kernel_rfl) ?_
            repeat (go_big_quiet_step (first | (go_at_call 39; with_reducible exact Kept.call (I1.out _)) | (go_at_call 39; with_reducible exact Kept.call (I2.out _))))
            refine wpQuiet_nil ?_
            intro w3 qq
            clear c3_0 c3_1 c4_0 c4_1
            replace X3 := Lib.hid (X3.out.kept qq)
            replace X4 := Lib.hid (X4.out.kept qq)
            replace QQ := Lib.hid (Qw.trans QQ.out qq)
            clear qq
            go_upto_region 7 with fail
            go_upto_region 9 with (go_big_may; (go_at_call 100; ((with_reducible refine (R1.out _).mono ?_); rintro e w4 ⟨rfl, qq⟩; replace X3 := Lib.hid (X3.out.kept qq); replace X4 := Lib.hid (X4.out.kept qq); replace QQ := Lib.hid (Qw.trans QQ.out qq); clear qq)))
            go_upto_region 11 with fail
            go_wp2_with (first | ((with_reducible refine ld_pt 3 ?_ X3.out ?_); (rfl)) | ((with_reducible refine ld_pt 4 ?_ X4.out ?_); (rfl)) | (go_at_call 40; ((with_reducible refine (CR.out _).mono ?_); rintro e w5 ⟨rfl, qq⟩; replace X3 := Lib.hid (X3.out.kept qq); replace X4 := Lib.hid (X4.out.kept qq); replace QQ := Lib.hid (Qw.trans QQ.out qq); clear qq; have c3_0 := X3.out.p0; have c3_1 := X3.out.p1; have c4_0 := X4.out.p0; have c4_1 := X4.out.p1)) | (go_at_call 39; ((with_reducible refine (IN.out _).mono ?_); rintro e w6 ⟨rfl, qq⟩; replace X3 := Lib.hid (X3.out.kept qq); replace X4 := Lib.hid (X4.out.kept qq); replace QQ := Lib.hid (Qw.trans QQ.out qq); clear qq)))
            go_ret
            first | exact ⟨rfl, QQ.out⟩ | exact ⟨ret_bl (by simp [*]), QQ.out⟩ | exact ⟨ret_bl (by simp; omega), QQ.out⟩
        · have z1 : (X == 0) = false := beq_eq_false_iff_ne.2 c1
          have e : (!(decide (X = 0) && decide (0 < Y))) = true := by simp [c1]
          rw [e]
          clear e
          have QQ : Hid (Qw w w) := Lib.hid (Qw.refl w)
          go_enter Try.func74, Try.ntmps74
          go_upto_region 1 with (go_big_may; (first | ((with_reducible refine box_pt (x := ?_) (y := ?_) 0 ?_ ?_); rotate_left 2; (rfl); intro w1 B3 hb xx qq; have h3 := Lib.hid (Nat.le_trans QQ.out.size hb); replace QQ := Lib.hid (Qw.trans QQ.out qq); have X3 := Lib.hid xx; clear xx qq hb) | ((with_reducible refine box_pt (x := ?_) (y := ?_) 1 ?_ ?_); rotate_left 2; (rfl); intro w2 B4 hb xx qq; have n4_3 := Lib.hid (Nat.ne_of_gt (Nat.lt_of_lt_of_le X3.out.lt hb)); have m4_3 := Lib.hid (Nat.ne_of_lt (Nat.lt_of_lt_of_le X3.out.lt hb)); have h4 := Lib.hid (Nat.le_trans QQ.out.size hb); replace X3 := Lib.hid (X3.out.kept qq); replace QQ := Lib.hid (Qw.trans QQ.out qq); have X4 := Lib.hid xx; clear xx qq hb)))
          have c3_0 := X3.out.kp0
          have c3_1 := X3.out.kp1
          have c4_0 := X4.out.kp0
          have c4_1 := X4.out.kp1
          try simp only [List.getElem_toArray, List.getElem_cons_succ, List.getElem_cons_zero, Act.put, List.setIfInBounds_toArray, List.set_cons_zero, List.set_cons_succ]
          refine region_kept (by kernel_rfl) (by kernel_rfl) ?_
          repeat (go_big_quiet_step (first | (go_at_call 39; with_reducible exact Kept.call (I1.out _)) | (go_at_call 39; with_reducible exact Kept.call (I2.out _))))
          refine wpQuiet_nil ?_
          intro w3 qq
          clear c3_0 c3_1 c4_0 c4_1
          replace X3 := Lib.hid (X3.out.kept qq)
          replace X4 := Lib.hid (X4.out.kept qq)
          replace QQ := Lib.hid (Qw.trans QQ.out qq)
          clear qq
          go_upto_region 7 with fail
          go_upto_region 9 with (go_big_may; (go_at_call 100; ((with_reducible refine (R1.out _).mono ?_); rintro e w4 ⟨rfl, qq⟩; replace X3 := Lib.hid (X3.out.kept qq); replace X4 := Lib.hid (X4.out.kept qq); replace QQ := Lib.hid (Qw.trans QQ.out qq); clear qq)))
          go_upto_region 11 with fail
          go_wp2_with (first | ((with_reducible refine ld_pt 3 ?_ X3.out ?_); (rfl)) | ((with_reducible refine ld_pt 4 ?_ X4.out ?_); (rfl)) | (go_at_call 40; ((with_reducible refine (CR.out _).mono ?_); rintro e w5 ⟨rfl, qq⟩; replace X3 := Lib.hid (X3.out.kept qq); replace X4 := Lib.hid (X4.out.kept qq); replace QQ := Lib.hid (Qw.trans QQ.out qq); clear qq; have c3_0 := X3.out.p0; have c3_1 := X3.out.p1; have c4_0 := X4.out.p0; have c4_1 := X4.out.p1)))
          go_ret
          first | exact ⟨rfl, QQ.out⟩ | exact ⟨ret_bl (by simp [*]), QQ.out⟩ | exact ⟨ret_bl (by simp; omega), QQ.out⟩
      · simp only [agrB_t]
        by_cases c1 : a = c
        · have z1 : (a == c) = true := by simpa using c1
          by_cases c2 : b = d
          · have z2 : (b == d) = true := by simpa using c2
            have e : (decide (a = c) && decide (b = d)) = true := by simp [c1, c2]
            rw [e]
            clear e c1 c2
            have QQ : Hid (Qw w w) := Lib.hid (Qw.refl w)
            go_enter Try.func74, Try.ntmps74
            go_upto_region 1 with (go_big_may; (first | ((with_reducible refine box_pt (x := ?_) (y := ?_) 0 ?_ ?_); rotate_left 2; (rfl); intro w1 B3 hb xx qq; have h3 := Lib.hid (Nat.le_trans QQ.out.size hb); replace QQ := Lib.hid (Qw.trans QQ.out qq); have X3 := Lib.hid xx; clear xx qq hb) | ((with_reducible refine box_pt (x := ?_) (y := ?_) 1 ?_ ?_); rotate_left 2; (rfl); intro w2 B4 hb xx qq; have n4_3 := Lib.hid (Nat.ne_of_gt (Nat.lt_of_lt_of_le X3.out.lt hb)); have m4_3 := Lib.hid (Nat.ne_of_lt (Nat.lt_of_lt_of_le X3.out.lt hb)); have h4 := Lib.hid (Nat.le_trans QQ.out.size hb); replace X3 := Lib.hid (X3.out.kept qq); replace QQ := Lib.hid (Qw.trans QQ.out qq); have X4 := Lib.hid xx; clear xx qq hb)))
            have c3_0 := X3.out.kp0
            have c3_1 := X3.out.kp1
            have c4_0 := X4.out.kp0
            have c4_1 := X4.out.kp1
            try simp only [List.getElem_toArray, List.getElem_cons_succ, List.getElem_cons_zero, Act.put, List.setIfInBounds_toArray, List.set_cons_zero, List.set_cons_succ]
            refine region_kept (by kernel_rfl) (by kernel_rfl) ?_
            repeat (go_big_quiet_step (first | (go_at_call 39; with_reducible exact Kept.call (I1.out _)) | (go_at_call 39; with_reducible exact Kept.call (I2.out _))))
            refine wpQuiet_nil ?_
            intro w3 qq
            clear c3_0 c3_1 c4_0 c4_1
            replace X3 := Lib.hid (X3.out.kept qq)
            replace X4 := Lib.hid (X4.out.kept qq)
            replace QQ := Lib.hid (Qw.trans QQ.out qq)
            clear qq
            go_upto_region 7 with fail
            go_upto_region 9 with (go_big_may; (go_at_call 100; ((with_reducible refine (R1.out _).mono ?_); rintro e w4 ⟨rfl, qq⟩; replace X3 := Lib.hid (X3.out.kept qq); replace X4 := Lib.hid (X4.out.kept qq); replace QQ := Lib.hid (Qw.trans QQ.out qq); clear qq)))
            go_upto_region 10 with fail
            go_wp2_with (first | ((with_reducible refine ld_pt 3 ?_ X3.out ?_); (rfl)) | ((with_reducible refine ld_pt 4 ?_ X4.out ?_); (rfl)))
            go_ret
            first | exact ⟨rfl, QQ.out⟩ | exact ⟨ret_bl (by simp [*]), QQ.out⟩ | exact ⟨ret_bl (by simp; omega), QQ.out⟩
          · have z2 : (b == d) = false := beq_eq_false_iff_ne.2 c2
            have e : (decide (a = c) && decide (b = d)) = false := by simp [c2]
            rw [e]
            clear e c1 c2
            have QQ : Hid (Qw w w) := Lib.hid (Qw.refl w)
            go_enter Try.func74, Try.ntmps74
            go_upto_region 1 with (go_big_may; (first | ((with_reducible refine box_pt (x := ?_) (y := ?_) 0 ?_ ?_); rotate_left 2; (rfl); intro w1 B3 hb xx qq; have h3 := Lib.hid (Nat.le_trans QQ.out.size hb); replace QQ := Lib.hid (Qw.trans QQ.out qq); have X3 := Lib.hid xx; clear xx qq hb) | ((with_reducible refine box_pt (x := ?_) (y := ?_) 1 ?_ ?_); rotate_left 2; (rfl); intro w2 B4 hb xx qq; have n4_3 := Lib.hid (Nat.ne_of_gt (Nat.lt_of_lt_of_le X3.out.lt hb)); have m4_3 := Lib.hid (Nat.ne_of_lt (Nat.lt_of_lt_of_le X3.out.lt hb)); have h4 := Lib.hid (Nat.le_trans QQ.out.size hb); replace X3 := Lib.hid (X3.out.kept qq); replace QQ := Lib.hid (Qw.trans QQ.out qq); have X4 := Lib.hid xx; clear xx qq hb)))
            have c3_0 := X3.out.kp0
            have c3_1 := X3.out.kp1
            have c4_0 := X4.out.kp0
            have c4_1 := X4.out.kp1
            try simp only [List.getElem_toArray, List.getElem_cons_succ, List.getElem_cons_zero, Act.put, List.setIfInBounds_toArray, List.set_cons_zero, List.set_cons_succ]
            refine region_kept (by kernel_rfl) (by kernel_rfl) ?_
            repeat (go_big_quiet_step (first | (go_at_call 39; with_reducible exact Kept.call (I1.out _)) | (go_at_call 39; with_reducible exact Kept.call (I2.out _))))
            refine wpQuiet_nil ?_
            intro w3 qq
            clear c3_0 c3_1 c4_0 c4_1
            replace X3 := Lib.hid (X3.out.kept qq)
            replace X4 := Lib.hid (X4.out.kept qq)
            replace QQ := Lib.hid (Qw.trans QQ.out qq)
            clear qq
            go_upto_region 7 with fail
            go_upto_region 9 with (go_big_may; (go_at_call 100; ((with_reducible refine (R1.out _).mono ?_); rintro e w4 ⟨rfl, qq⟩; replace X3 := Lib.hid (X3.out.kept qq); replace X4 := Lib.hid (X4.out.kept qq); replace QQ := Lib.hid (Qw.trans QQ.out qq); clear qq)))
            go_upto_region 10 with fail
            go_wp2_with (first | ((with_reducible refine ld_pt 3 ?_ X3.out ?_); (rfl)) | ((with_reducible refine ld_pt 4 ?_ X4.out ?_); (rfl)))
            go_ret
            first | exact ⟨rfl, QQ.out⟩ | exact ⟨ret_bl (by simp [*]), QQ.out⟩ | exact ⟨ret_bl (by simp; omega), QQ.out⟩
        · have z1 : (a == c) = false := beq_eq_false_iff_ne.2 c1
          have e : (decide (a = c) && decide (b = d)) = false := by simp [c1]
          rw [e]
          clear e c1
          have QQ : Hid (Qw w w) := Lib.hid (Qw.refl w)
          go_enter Try.func74, Try.ntmps74
          go_upto_region 1 with (go_big_may; (first | ((with_reducible refine box_pt (x := ?_) (y := ?_) 0 ?_ ?_); rotate_left 2; (rfl); intro w1 B3 hb xx qq; have h3 := Lib.hid (Nat.le_trans QQ.out.size hb); replace QQ := Lib.hid (Qw.trans QQ.out qq); have X3 := Lib.hid xx; clear xx qq hb) | ((with_reducible refine box_pt (x := ?_) (y := ?_) 1 ?_ ?_); rotate_left 2; (rfl); intro w2 B4 hb xx qq; have n4_3 := Lib.hid (Nat.ne_of_gt (Nat.lt_of_lt_of_le X3.out.lt hb)); have m4_3 := Lib.hid (Nat.ne_of_lt (Nat.lt_of_lt_of_le X3.out.lt hb)); have h4 := Lib.hid (Nat.le_trans QQ.out.size hb); replace X3 := Lib.hid (X3.out.kept qq); replace QQ := Lib.hid (Qw.trans QQ.out qq); have X4 := Lib.hid xx; clear xx qq hb)))
          have c3_0 := X3.out.kp0
          have c3_1 := X3.out.kp1
          have c4_0 := X4.out.kp0
          have c4_1 := X4.out.kp1
          try simp only [List.getElem_toArray, List.getElem_cons_succ, List.getElem_cons_zero, Act.put, List.setIfInBounds_toArray, List.set_cons_zero, List.set_cons_succ]
          refine region_kept (by kernel_rfl) (by kernel_rfl) ?_
          repeat (go_big_quiet_step (first | (go_at_call 39; with_reducible exact Kept.call (I1.out _)) | (go_at_call 39; with_reducible exact Kept.call (I2.out _))))
          refine wpQuiet_nil ?_
          intro w3 qq
          clear c3_0 c3_1 c4_0 c4_1
          replace X3 := Lib.hid (X3.out.kept qq)
          replace X4 := Lib.hid (X4.out.kept qq)
          replace QQ := Lib.hid (Qw.trans QQ.out qq)
          clear qq
          go_upto_region 7 with fail
          go_upto_region 9 with (go_big_may; (go_at_call 100; ((with_reducible refine (R1.out _).mono ?_); rintro e w4 ⟨rfl, qq⟩; replace X3 := Lib.hid (X3.out.kept qq); replace X4 := Lib.hid (X4.out.kept qq); replace QQ := Lib.hid (Qw.trans QQ.out qq); clear qq)))
          go_upto_region 10 with fail
          go_wp2_with (first | ((with_reducible refine ld_pt 3 ?_ X3.out ?_); (rfl)) | ((with_reducible refine ld_pt 4 ?_ X4.out ?_); (rfl)))
          go_ret
          first | exact ⟨rfl, QQ.out⟩ | exact ⟨ret_bl (by simp [*]), QQ.out⟩ | exact ⟨ret_bl (by simp; omega), QQ.out⟩
    · have e : (decide (64 ≤ n) && (decide (m - n - 16 ≤ 0) || decide (R ≤ 0)) && (if f = true then (decide (a = c) && decide (b = d)) else !(decide (X = 0) && decide (0 < Y)))) = false := by simp [k2, k3]
      rw [e]
      clear e
      have QQ : Hid (Qw w w) := Lib.hid (Qw.refl w)
      go_enter Try.func74, Try.ntmps74
      go_upto_region 1 with (go_big_may; (first | ((with_reducible refine box_pt (x := ?_) (y := ?_) 0 ?_ ?_); rotate_left 2; (rfl); intro w1 B3 hb xx qq; have h3 := Lib.hid (Nat.le_trans QQ.out.size hb); replace QQ := Lib.hid (Qw.trans QQ.out qq); have X3 := Lib.hid xx; clear xx qq hb) | ((with_reducible refine box_pt (x := ?_) (y := ?_) 1 ?_ ?_); rotate_left 2; (rfl); intro w2 B4 hb xx qq; have n4_3 := Lib.hid (Nat.ne_of_gt (Nat.lt_of_lt_of_le X3.out.lt hb)); have m4_3 := Lib.hid (Nat.ne_of_lt (Nat.lt_of_lt_of_le X3.out.lt hb)); have h4 := Lib.hid (Nat.le_trans QQ.out.size hb); replace X3 := Lib.hid (X3.out.kept qq); replace QQ := Lib.hid (Qw.trans QQ.out qq); have X4 := Lib.hid xx; clear xx qq hb)))
      have c3_0 := X3.out.kp0
      have c3_1 := X3.out.kp1
      have c4_0 := X4.out.kp0
      have c4_1 := X4.out.kp1
      try simp only [List.getElem_toArray, List.getElem_cons_succ, List.getElem_cons_zero, Act.put, List.setIfInBounds_toArray, List.set_cons_zero, List.set_cons_succ]
      refine region_kept (by kernel_rfl) (by kernel_rfl) ?_
      repeat (go_big_quiet_step (first | (go_at_call 39; with_reducible exact Kept.call (I1.out _)) | (go_at_call 39; with_reducible exact Kept.call (I2.out _))))
      refine wpQuiet_nil ?_
      intro w3 qq
      clear c3_0 c3_1 c4_0 c4_1
      replace X3 := Lib.hid (X3.out.kept qq)
      replace X4 := Lib.hid (X4.out.kept qq)
      replace QQ := Lib.hid (Qw.trans QQ.out qq)
      clear qq
      go_upto_region 7 with fail
      go_upto_region 8 with (go_big_may; (go_at_call 100; ((with_reducible refine (R1.out _).mono ?_); rintro e w4 ⟨rfl, qq⟩; replace X3 := Lib.hid (X3.out.kept qq); replace X4 := Lib.hid (X4.out.kept qq); replace QQ := Lib.hid (Qw.trans QQ.out qq); clear qq)))
      go_wp2
      go_ret
      first | exact ⟨rfl, QQ.out⟩ | exact ⟨ret_bl (by simp [*]), QQ.out⟩ | exact ⟨ret_bl (by simp; omega), QQ.out⟩
end Go.Proofs.Ytihmifdadikhaaa

/- The walks of the specification of layer 13: Check, Tangent. -/
set_option linter.unusedVariables false
set_option linter.unusedSimpArgs false
namespace Go.Proofs.Ytihmifdadikhaaa
open Go.RowKit

set_option maxRecDepth 100000 in
set_option maxHeartbeats 2000000 in
theorem arCheck (i : Ac.I) (h : Ac.Wf i) (w : World) :
    Calls Try.prog 27 #[.agg (itc i)] w fun e w' => e = .returned (.int .i64 (Ac.chk i)) ∧ Qw w w' := by
  have pl := fun w' => arPlane i.p w'
  have w1 := fun w' => vr_within i.fx i.fy i.fz h.fx.1 h.fx.2 h.fy.1 h.fy.2 h.fz.1 h.fz.2 w'
  have w2 := fun w' => vr_within i.tx i.ty i.tz h.tx.1 h.tx.2 h.ty.1 h.ty.2 h.tz.1 h.tz.2 w'
  have w3 := fun w' => vr_within i.cx i.cy i.cz h.cx.1 h.cx.2 h.cy.1 h.cy.2 h.cz.1 h.cz.2 w'
  have h1 := fun w' => arHeight i.p i.fx i.fy i.fz h.p.1 h.p.2 w'
  have h2 := fun w' => arHeight i.p i.cx i.cy i.cz h.p.1 h.p.2 w'
  have pb := h.p
  have no : Ac.argB i = false → Ac.chk i = 1 := fun e => by unfold Ac.chk; rw [e]; rfl
  by_cases k0 : i.k = 3
  case neg =>
    have y0 : (i.k == 3) = false := beq_eq_false_iff_ne.2 k0
    have y1 : (i.k != 3) = true := by simp [k0]
    rw [no (by simp [Ac.argB, k0])]
    clear pl w1 w2 w3 h1 h2 h pb no
    have QQ : Hid (Qw w w) := Lib.hid (Qw.refl w)
    go_enter Try.func27, Try.ntmps27
    go_upto_region 1 with (go_big_may; ((with_reducible refine box_it (f := ?_) 0 ?_ ?_); rotate_left 1; (rfl); intro w1 B1 hb xx qq; have h1 := Lib.hid (Nat.le_trans QQ.out.size hb); replace QQ := Lib.hid (Qw.trans QQ.out qq); have X1 := Lib.hid xx; clear xx qq hb))
    have c1_0 := X1.out.ki0
    have c1_2 := X1.out.ki2
    have c1_3 := X1.out.ki3
    have c1_4 := X1.out.ki4
    have c1_5 := X1.out.ki5
    have c1_6 := X1.out.ki6
    have c1_7 := X1.out.ki7
    have c1_8 := X1.out.ki8
    have c1_9 := X1.out.ki9
    have c1_10 := X1.out.ki10
    have c1_11 := X1.out.ki11
    have c1_12 := X1.out.ki12
    try simp only [List.getElem_toArray, List.getElem_cons_succ, List.getElem_cons_zero, Act.put, List.setIfInBounds_toArray, List.set_cons_zero, List.set_cons_succ]
    refine region_kept (by kernel_rfl) (by kernel_rfl) ?_
    repeat (go_big_quiet_step (fail))
    refine wpQuiet_nil ?_
    intro w2 qq
    clear c1_0 c1_2 c1_3 c1_4 c1_5 c1_6 c1_7 c1_8 c1_9 c1_10 c1_11 c1_12
    replace X1 := Lib.hid (X1.out.kept qq)
    replace QQ := Lib.hid (Qw.trans QQ.out qq)
    clear qq
    go_wp2
    go_ret
    exact ⟨rfl, QQ.out⟩
  have y0 : (i.k == 3) = true := by simpa using k0
  have y1 : (i.k != 3) = false := by simp [k0]
  cases k1 : pin i.p
  · rw [k1] at pl
    have PL := Lib.hid pl
    rw [no (by simp [Ac.argB, k1])]
    clear pl w1 w2 w3 h1 h2 h pb no
    have QQ : Hid (Qw w w) := Lib.hid (Qw.refl w)
    go_enter Try.func27, Try.ntmps27
    go_upto_region 1 with (go_big_may; ((with_reducible refine box_it (f := ?_) 0 ?_ ?_); rotate_left 1; (rfl); intro w1 B1 hb xx qq; have h1 := Lib.hid (Nat.le_trans QQ.out.size hb); replace QQ := Lib.hid (Qw.trans QQ.out qq); have X1 := Lib.hid xx; clear xx qq hb))
    have c1_0 := X1.out.ki0
    have c1_2 := X1.out.ki2
    have c1_3 := X1.out.ki3
    have c1_4 := X1.out.ki4
    have c1_5 := X1.out.ki5
    have c1_6 := X1.out.ki6
    have c1_7 := X1.out.ki7
    have c1_8 := X1.out.ki8
    have c1_9 := X1.out.ki9
    have c1_10 := X1.out.ki10
    have c1_11 := X1.out.ki11
    have c1_12 := X1.out.ki12
    try simp only [List.getElem_toArray, List.getElem_cons_succ, List.getElem_cons_zero, Act.put, List.setIfInBounds_toArray, List.set_cons_zero, List.set_cons_succ]
    refine region_kept (by kernel_rfl) (by kernel_rfl) ?_
    repeat (go_big_quiet_step (first | (go_at_call 47; with_reducible exact Kept.call (PL.out _))))
    refine wpQuiet_nil ?_
    intro w2 qq
    clear c1_0 c1_2 c1_3 c1_4 c1_5 c1_6 c1_7 c1_8 c1_9 c1_10 c1_11 c1_12
    replace X1 := Lib.hid (X1.out.kept qq)
    replace QQ := Lib.hid (Qw.trans QQ.out qq)
    clear qq
    go_wp2
    go_ret
    exact ⟨rfl, QQ.out⟩
  rw [k1] at pl
  have PL := Lib.hid pl
  clear pl
  cases k3 : wth i.fx i.fy i.fz
  · rw [k3] at w1
    have W1 := Lib.hid w1
    rw [no (by simp [Ac.argB, k3])]
    clear w1 w2 w3 h1 h2 h pb no
    have QQ : Hid (Qw w w) := Lib.hid (Qw.refl w)
    go_enter Try.func27, Try.ntmps27
    go_upto_region 1 with (go_big_may; ((with_reducible refine box_it (f := ?_) 0 ?_ ?_); rotate_left 1; (rfl); intro w1 B1 hb xx qq; have h1 := Lib.hid (Nat.le_trans QQ.out.size hb); replace QQ := Lib.hid (Qw.trans QQ.out qq); have X1 := Lib.hid xx; clear xx qq hb))
    have c1_0 := X1.out.ki0
    have c1_2 := X1.out.ki2
    have c1_3 := X1.out.ki3
    have c1_4 := X1.out.ki4
    have c1_5 := X1.out.ki5
    have c1_6 := X1.out.ki6
    have c1_7 := X1.out.ki7
    have c1_8 := X1.out.ki8
    have c1_9 := X1.out.ki9
    have c1_10 := X1.out.ki10
    have c1_11 := X1.out.ki11
    have c1_12 := X1.out.ki12
    try simp only [List.getElem_toArray, List.getElem_cons_succ, List.getElem_cons_zero, Act.put, List.setIfInBounds_toArray, List.set_cons_zero, List.set_cons_succ]
    refine region_kept (by kernel_rfl) (by kernel_rfl) ?_
    repeat (go_big_quiet_step (first | (go_at_call 47; with_reducible exact Kept.call (PL.out _)) | (go_at_call 48; with_reducible exact Kept.call (W1.out _))))
    refine wpQuiet_nil ?_
    intro w2 qq
    clear c1_0 c1_2 c1_3 c1_4 c1_5 c1_6 c1_7 c1_8 c1_9 c1_10 c1_11 c1_12
    replace X1 := Lib.hid (X1.out.kept qq)
    replace QQ := Lib.hid (Qw.trans QQ.out qq)
    clear qq
    go_wp2
    go_ret
    exact ⟨rfl, QQ.out⟩
  rw [k3] at w1
  have W1 := Lib.hid w1
  cases k4 : wth i.tx i.ty i.tz
  · rw [k4] at w2
    have W2 := Lib.hid w2
    rw [no (by simp [Ac.argB, k4])]
    clear w1 w2 w3 h1 h2 h pb no
    have QQ : Hid (Qw w w) := Lib.hid (Qw.refl w)
    go_enter Try.func27, Try.ntmps27
    go_upto_region 1 with (go_big_may; ((with_reducible refine box_it (f := ?_) 0 ?_ ?_); rotate_left 1; (rfl); intro w1 B1 hb xx qq; have h1 := Lib.hid (Nat.le_trans QQ.out.size hb); replace QQ := Lib.hid (Qw.trans QQ.out qq); have X1 := Lib.hid xx; clear xx qq hb))
    have c1_0 := X1.out.ki0
    have c1_2 := X1.out.ki2
    have c1_3 := X1.out.ki3
    have c1_4 := X1.out.ki4
    have c1_5 := X1.out.ki5
    have c1_6 := X1.out.ki6
    have c1_7 := X1.out.ki7
    have c1_8 := X1.out.ki8
    have c1_9 := X1.out.ki9
    have c1_10 := X1.out.ki10
    have c1_11 := X1.out.ki11
    have c1_12 := X1.out.ki12
    try simp only [List.getElem_toArray, List.getElem_cons_succ, List.getElem_cons_zero, Act.put, List.setIfInBounds_toArray, List.set_cons_zero, List.set_cons_succ]
    refine region_kept (by kernel_rfl) (by kernel_rfl) ?_
    repeat (go_big_quiet_step (first | (go_at_call 47; with_reducible exact Kept.call (PL.out _)) | (go_at_call 48; with_reducible exact Kept.call (W1.out _)) | (go_at_call 48; with_reducible exact Kept.call (W2.out _))))
    refine wpQuiet_nil ?_
    intro w2 qq
    clear c1_0 c1_2 c1_3 c1_4 c1_5 c1_6 c1_7 c1_8 c1_9 c1_10 c1_11 c1_12
    replace X1 := Lib.hid (X1.out.kept qq)
    replace QQ := Lib.hid (Qw.trans QQ.out qq)
    clear qq
    go_wp2
    go_ret
    exact ⟨rfl, QQ.out⟩
  rw [k4] at w2
  have W2 := Lib.hid w2
  cases k5 : wth i.cx i.cy i.cz
  · rw [k5] at w3
    have W3 := Lib.hid w3
    rw [no (by simp [Ac.argB, k5])]
    clear w1 w2 w3 h1 h2 h pb no
    have QQ : Hid (Qw w w) := Lib.hid (Qw.refl w)
    go_enter Try.func27, Try.ntmps27
    go_upto_region 1 with (go_big_may; ((with_reducible refine box_it (f := ?_) 0 ?_ ?_); rotate_left 1; (rfl); intro w1 B1 hb xx qq; have h1 := Lib.hid (Nat.le_trans QQ.out.size hb); replace QQ := Lib.hid (Qw.trans QQ.out qq); have X1 := Lib.hid xx; clear xx qq hb))
    have c1_0 := X1.out.ki0
    have c1_2 := X1.out.ki2
    have c1_3 := X1.out.ki3
    have c1_4 := X1.out.ki4
    have c1_5 := X1.out.ki5
    have c1_6 := X1.out.ki6
    have c1_7 := X1.out.ki7
    have c1_8 := X1.out.ki8
    have c1_9 := X1.out.ki9
    have c1_10 := X1.out.ki10
    have c1_11 := X1.out.ki11
    have c1_12 := X1.out.ki12
    try simp only [List.getElem_toArray, List.getElem_cons_succ, List.getElem_cons_zero, Act.put, List.setIfInBounds_toArray, List.set_cons_zero, List.set_cons_succ]
    refine region_kept (by kernel_rfl) (by kernel_rfl) ?_
    repeat (go_big_quiet_step (first | (go_at_call 47; with_reducible exact Kept.call (PL.out _)) | (go_at_call 48; with_reducible exact Kept.call (W1.out _)) | (go_at_call 48; with_reducible exact Kept.call (W2.out _)) | (go_at_call 48; with_reducible exact Kept.call (W3.out _))))
    refine wpQuiet_nil ?_
    intro w2 qq
    clear c1_0 c1_2 c1_3 c1_4 c1_5 c1_6 c1_7 c1_8 c1_9 c1_10 c1_11 c1_12
    replace X1 := Lib.hid (X1.out.kept qq)
    replace QQ := Lib.hid (Qw.trans QQ.out qq)
    clear qq
    go_wp2
    go_ret
    exact ⟨rfl, QQ.out⟩
  rw [k5] at w3
  have W3 := Lib.hid w3
  clear w1 w2 w3
  have H1 := Lib.hid h1
  have H2 := Lib.hid h2
  clear h1 h2
  obtain ⟨n1, n2, n3⟩ := (Ac.wth_iff _ _ _).1 k3
  obtain ⟨n4, n5, n6⟩ := (Ac.wth_iff _ _ _).1 k4
  obtain ⟨n7, n8, n9⟩ := (Ac.wth_iff _ _ _).1 k5
  have nr : Ac.Near i := ⟨pb, n1, n2, n3, n4, n5, n6, n7, n8, n9⟩
  have sp := fun w' => arSpokes i nr w'
  obtain ⟨b1, b2, b3, b4⟩ := nr.bd
  have ft := fun w' => arFit (Ac.au i) (Ac.aw i) (Ac.bu i) (Ac.bw i) i.u b1.1 b1.2 b2.1 b2.2 b3.1 b3.2 b4.1 b4.2 w'
  clear n1 n2 n3 n4 n5 n6 n7 n8 n9 pb h nr b1 b2 b3 b4
  by_cases d0 : i.d = 1 ∨ i.d = -1
  case neg =>
    have q1 : i.d ≠ 1 := fun e => d0 (.inl e)
    have q2 : i.d ≠ -1 := fun e => d0 (.inr e)
    have q3 : (i.d == 1) = false := beq_eq_false_iff_ne.2 q1
    have q4 : (i.d == -1) = false := beq_eq_false_iff_ne.2 q2
    have q5 : (i.d != 1) = true := by simp [q1]
    have q6 : (i.d != -1) = true := by simp [q2]
    rw [no (by simp [Ac.argB, q1, q2])]
    clear sp ft no d0 q1 q2
    have QQ : Hid (Qw w w) := Lib.hid (Qw.refl w)
    go_enter Try.func27, Try.ntmps27
    go_upto_region 1 with (go_big_may; ((with_reducible refine box_it (f := ?_) 0 ?_ ?_); rotate_left 1; (rfl); intro w1 B1 hb xx qq; have h1 := Lib.hid (Nat.le_trans QQ.out.size hb); replace QQ := Lib.hid (Qw.trans QQ.out qq); have X1 := Lib.hid xx; clear xx qq hb))
    have c1_0 := X1.out.ki0
    have c1_2 := X1.out.ki2
    have c1_3 := X1.out.ki3
    have c1_4 := X1.out.ki4
    have c1_5 := X1.out.ki5
    have c1_6 := X1.out.ki6
    have c1_7 := X1.out.ki7
    have c1_8 := X1.out.ki8
    have c1_9 := X1.out.ki9
    have c1_10 := X1.out.ki10
    have c1_11 := X1.out.ki11
    have c1_12 := X1.out.ki12
    try simp only [List.getElem_toArray, List.getElem_cons_succ, List.getElem_cons_zero, Act.put, List.setIfInBounds_toArray, List.set_cons_zero, List.set_cons_succ]
    refine region_kept (by kernel_rfl) (by kernel_rfl) ?_
    repeat (go_big_quiet_step (first | (go_at_call 47; with_reducible exact Kept.call (PL.out _)) | (go_at_call 48; with_reducible exact Kept.call (W1.out _)) | (go_at_call 48; with_reducible exact Kept.call (W2.out _)) | (go_at_call 48; with_reducible exact Kept.call (W3.out _))))
    refine wpQuiet_nil ?_
    intro w2 qq
    clear c1_0 c1_2 c1_3 c1_4 c1_5 c1_6 c1_7 c1_8 c1_9 c1_10 c1_11 c1_12
    replace X1 := Lib.hid (X1.out.kept qq)
    replace QQ := Lib.hid (Qw.trans QQ.out qq)
    clear qq
    go_wp2
    go_ret
    exact ⟨rfl, QQ.out⟩
  have SP := Lib.hid sp
  clear sp
  have NO := Lib.hid no
  clear no
  have main : ∀ HC HF : Int, fh i.p i.cx i.cy i.cz = HC → fh i.p i.fx i.fy i.fz = HF → Calls Try.prog 27 #[.agg (itc i)] w fun e w' => e = .returned (.int .i64 (Ac.chk i)) ∧ Qw w w' := by
    intro HC HF eC eF
    rw [eF] at H1
    rw [eC] at H2
    by_cases k6 : HF = HC
    case neg =>
      have z0 : (HF == HC) = false := beq_eq_false_iff_ne.2 k6
      have z1 : (HF != HC) = true := by simp [k6]
      rw [NO.out (by unfold Ac.argB; rw [eC, eF, show decide (HC = HF) = false from decide_eq_false (fun e => k6 e.symm)]; simp)]
      clear eC eF k6 ft SP NO
      rcases d0 with d0 | d0
      · have q3 : (i.d == 1) = true := by simpa using d0
        have q5 : (i.d != 1) = false := by simp [d0]
        clear d0
        have QQ : Hid (Qw w w) := Lib.hid (Qw.refl w)
        go_enter Try.func27, Try.ntmps27
        go_upto_region 1 with (go_big_may; ((with_reducible refine box_it (f := ?_) 0 ?_ ?_); rotate_left 1; (rfl); intro w1 B1 hb xx qq; have h1 := Lib.hid (Nat.le_trans QQ.out.size hb); replace QQ := Lib.hid (Qw.trans QQ.out qq); have X1 := Lib.hid xx; clear xx qq hb))
        have c1_0 := X1.out.ki0
        have c1_2 := X1.out.ki2
        have c1_3 := X1.out.ki3
        have c1_4 := X1.out.ki4
        have c1_5 := X1.out.ki5
        have c1_6 := X1.out.ki6
        have c1_7 := X1.out.ki7
        have c1_8 := X1.out.ki8
        have c1_9 := X1.out.ki9
        have c1_10 := X1.out.ki10
        have c1_11 := X1.out.ki11
        have c1_12 := X1.out.ki12
        try simp only [List.getElem_toArray, List.getElem_cons_succ, List.getElem_cons_zero, Act.put, List.setIfInBounds_toArray, List.set_cons_zero, List.set_cons_succ]
        refine region_kept (by kernel_rfl) (by kernel_rfl) ?_
        repeat (go_big_quiet_step (first | (go_at_call 47; with_reducible exact Kept.call (PL.out _)) | (go_at_call 48; with_reducible exact Kept.call (W1.out _)) | (go_at_call 48; with_reducible exact Kept.call (W2.out _)) | (go_at_call 48; with_reducible exact Kept.call (W3.out _)) | (go_at_call 41; with_reducible exact Kept.call (H1.out _)) | (go_at_call 41; with_reducible exact Kept.call (H2.out _))))
        refine wpQuiet_nil ?_
        intro w2 qq
        clear c1_0 c1_2 c1_3 c1_4 c1_5 c1_6 c1_7 c1_8 c1_9 c1_10 c1_11 c1_12
        replace X1 := Lib.hid (X1.out.kept qq)
        replace QQ := Lib.hid (Qw.trans QQ.out qq)
        clear qq
        go_wp2
        go_ret
        exact ⟨rfl, QQ.out⟩
      · have q3 : (i.d == 1) = false := by simp [d0]
        have q5 : (i.d != 1) = true := by simp [d0]
        have q4 : (i.d == -1) = true := by simpa using d0
        have q6 : (i.d != -1) = false := by simp [d0]
        clear d0
        have QQ : Hid (Qw w w) := Lib.hid (Qw.refl w)
        go_enter Try.func27, Try.ntmps27
        go_upto_region 1 with (go_big_may; ((with_reducible refine box_it (f := ?_) 0 ?_ ?_); rotate_left 1; (rfl); intro w1 B1 hb xx qq; have h1 := Lib.hid (Nat.le_trans QQ.out.size hb); replace QQ := Lib.hid (Qw.trans QQ.out qq); have X1 := Lib.hid xx; clear xx qq hb))
        have c1_0 := X1.out.ki0
        have c1_2 := X1.out.ki2
        have c1_3 := X1.out.ki3
        have c1_4 := X1.out.ki4
        have c1_5 := X1.out.ki5
        have c1_6 := X1.out.ki6
        have c1_7 := X1.out.ki7
        have c1_8 := X1.out.ki8
        have c1_9 := X1.out.ki9
        have c1_10 := X1.out.ki10
        have c1_11 := X1.out.ki11
        have c1_12 := X1.out.ki12
        try simp only [List.getElem_toArray, List.getElem_cons_succ, List.getElem_cons_zero, Act.put, List.setIfInBounds_toArray, List.set_cons_zero, List.set_cons_succ]
        refine region_kept (by kernel_rfl) (by kernel_rfl) ?_
        repeat (go_big_quiet_step (first | (go_at_call 47; with_reducible exact Kept.call (PL.out _)) | (go_at_call 48; with_reducible exact Kept.call (W1.out _)) | (go_at_call 48; with_reducible exact Kept.call (W2.out _)) | (go_at_call 48; with_reducible exact Kept.call (W3.out _)) | (go_at_call 41; with_reducible exact Kept.call (H1.out _)) | (go_at_call 41; with_reducible exact Kept.call (H2.out _))))
        refine wpQuiet_nil ?_
        intro w2 qq
        clear c1_0 c1_2 c1_3 c1_4 c1_5 c1_6 c1_7 c1_8 c1_9 c1_10 c1_11 c1_12
        replace X1 := Lib.hid (X1.out.kept qq)
        replace QQ := Lib.hid (Qw.trans QQ.out qq)
        clear qq
        go_wp2
        go_ret
        exact ⟨rfl, QQ.out⟩
    have z0 : (HF == HC) = true := by simpa using k6
    have z1 : (HF != HC) = false := by simp [k6]
    have yes : Ac.argB i = true := by rcases d0 with d0 | d0 <;> simp [Ac.argB, k0, k1, k3, k4, k5, d0, eC, eF, k6]
    unfold Ac.chk
    rw [if_pos yes]
    clear yes eC eF k6 k0 k1 k3 k4 k5 NO
    cases k7 : (Ac.fit (Ac.inn (Ac.au i) (Ac.aw i) (Ac.au i) (Ac.aw i)) (Ac.inn (Ac.bu i) (Ac.bw i) (Ac.bu i) (Ac.bw i)) && Ac.agr i.u (Ac.au i) (Ac.aw i) (Ac.bu i) (Ac.bw i))
    · rw [k7] at ft
      have FT := Lib.hid ft
      simp only [Bool.false_eq_true, if_false]
      clear ft k7
      rcases d0 with d0 | d0
      · have q3 : (i.d == 1) = true := by simpa using d0
        have q5 : (i.d != 1) = false := by simp [d0]
        clear d0
        have QQ : Hid (Qw w w) := Lib.hid (Qw.refl w)
        go_enter Try.func27, Try.ntmps27
        go_upto_region 1 with (go_big_may; ((with_reducible refine box_it (f := ?_) 0 ?_ ?_); rotate_left 1; (rfl); intro w1 B1 hb xx qq; have h1 := Lib.hid (Nat.le_trans QQ.out.size hb); replace QQ := Lib.hid (Qw.trans QQ.out qq); have X1 := Lib.hid xx; clear xx qq hb))
        have c1_0 := X1.out.ki0
        have c1_2 := X1.out.ki2
        have c1_3 := X1.out.ki3
        have c1_4 := X1.out.ki4
        have c1_5 := X1.out.ki5
        have c1_6 := X1.out.ki6
        have c1_7 := X1.out.ki7
        have c1_8 := X1.out.ki8
        have c1_9 := X1.out.ki9
        have c1_10 := X1.out.ki10
        have c1_11 := X1.out.ki11
        have c1_12 := X1.out.ki12
        try simp only [List.getElem_toArray, List.getElem_cons_succ, List.getElem_cons_zero, Act.put, List.setIfInBounds_toArray, List.set_cons_zero, List.set_cons_succ]
        refine region_kept (by kernel_rfl) (by kernel_rfl) ?_
        repeat (go_big_quiet_step (first | (go_at_call 47; with_reducible exact Kept.call (PL.out _)) | (go_at_call 48; with_reducible exact Kept.call (W1.out _)) | (go_at_call 48; with_reducible exact Kept.call (W2.out _)) | (go_at_call 48; with_reducible exact Kept.call (W3.out _)) | (go_at_call 41; with_reducible exact Kept.call (H1.out _)) | (go_at_call 41; with_reducible exact Kept.call (H2.out _))))
        refine wpQuiet_nil ?_
        intro w2 qq
        clear c1_0 c1_2 c1_3 c1_4 c1_5 c1_6 c1_7 c1_8 c1_9 c1_10 c1_11 c1_12
        replace X1 := Lib.hid (X1.out.kept qq)
        replace QQ := Lib.hid (Qw.trans QQ.out qq)
        clear qq
        go_upto_region 3 with fail
        go_upto_region 4 with (go_big_may; (first | ((with_reducible refine ld_it 1 ?_ X1.out ?_); (rfl)) | (go_at_call 29; ((with_reducible refine (SP.out _).mono ?_); rintro e w3 ⟨rfl, qq⟩; replace X1 := Lib.hid (X1.out.kept qq); replace QQ := Lib.hid (Qw.trans QQ.out qq); clear qq)) | ((with_reducible refine al_pt (dst := some 3) ?_); intro w4 B3 hb xx qq; have n3_1 := Lib.hid (Nat.ne_of_gt (Nat.lt_of_lt_of_le X1.out.lt hb)); have m3_1 := Lib.hid (Nat.ne_of_lt (Nat.lt_of_lt_of_le X1.out.lt hb)); have h3 := Lib.hid (Nat.le_trans QQ.out.size hb); replace X1 := Lib.hid (X1.out.kept qq); replace QQ := Lib.hid (Qw.trans QQ.out qq); have X3 := Lib.hid xx; clear xx qq hb) | ((with_reducible refine al_pt (dst := some 4) ?_); intro w5 B4 hb xx qq; have n4_1 := Lib.hid (Nat.ne_of_gt (Nat.lt_of_lt_of_le X1.out.lt hb)); have n4_3 := Lib.hid (Nat.ne_of_gt (Nat.lt_of_lt_of_le X3.out.lt hb)); have m4_1 := Lib.hid (Nat.ne_of_lt (Nat.lt_of_lt_of_le X1.out.lt hb)); have m4_3 := Lib.hid (Nat.ne_of_lt (Nat.lt_of_lt_of_le X3.out.lt hb)); have h4 := Lib.hid (Nat.le_trans QQ.out.size hb); replace X1 := Lib.hid (X1.out.kept qq); replace X3 := Lib.hid (X3.out.kept qq); replace QQ := Lib.hid (Qw.trans QQ.out qq); have X4 := Lib.hid xx; clear xx qq hb) | ((with_reducible refine st_pt (x := ?_) (y := ?_) 3 58 ?_ ?_ X3.out ?_); rotate_left 2; (rfl); (rfl); intro w6 xx qf ot; replace X1 := Lib.hid (ot _ _ _ m3_1.out X1.out); replace X4 := Lib.hid (ot _ _ _ n4_3.out X4.out); replace QQ := Lib.hid (qf _ QQ.out h3.out); replace X3 := Lib.hid xx; clear xx qf ot) | ((with_reducible refine st_pt (x := ?_) (y := ?_) 4 59 ?_ ?_ X4.out ?_); rotate_left 2; (rfl); (rfl); intro w7 xx qf ot; replace X1 := Lib.hid (ot _ _ _ m4_1.out X1.out); replace X3 := Lib.hid (ot _ _ _ m4_3.out X3.out); replace QQ := Lib.hid (qf _ QQ.out h4.out); replace X4 := Lib.hid xx; clear xx qf ot)))
        have c1_13 := X1.out.i13
        go_upto_region 5 with (go_big_may; (first | ((with_reducible refine ld_pt 3 ?_ X3.out ?_); (rfl)) | ((with_reducible refine ld_pt 4 ?_ X4.out ?_); (rfl)) | (go_at_call 74; ((with_reducible refine (FT.out _).mono ?_); rintro e w8 ⟨rfl, qq⟩; replace X1 := Lib.hid (X1.out.kept qq); replace X3 := Lib.hid (X3.out.kept qq); replace X4 := Lib.hid (X4.out.kept qq); replace QQ := Lib.hid (Qw.trans QQ.out qq); clear qq))))
        clear c1_13
        go_wp2
        go_ret
        exact ⟨rfl, QQ.out⟩
      · have q3 : (i.d == 1) = false := by simp [d0]
        have q5 : (i.d != 1) = true := by simp [d0]
        have q4 : (i.d == -1) = true := by simpa using d0
        have q6 : (i.d != -1) = false := by simp [d0]
        clear d0
        have QQ : Hid (Qw w w) := Lib.hid (Qw.refl w)
        go_enter Try.func27, Try.ntmps27
        go_upto_region 1 with (go_big_may; ((with_reducible refine box_it (f := ?_) 0 ?_ ?_); rotate_left 1; (rfl); intro w1 B1 hb xx qq; have h1 := Lib.hid (Nat.le_trans QQ.out.size hb); replace QQ := Lib.hid (Qw.trans QQ.out qq); have X1 := Lib.hid xx; clear xx qq hb))
        have c1_0 := X1.out.ki0
        have c1_2 := X1.out.ki2
        have c1_3 := X1.out.ki3
        have c1_4 := X1.out.ki4
        have c1_5 := X1.out.ki5
        have c1_6 := X1.out.ki6
        have c1_7 := X1.out.ki7
        have c1_8 := X1.out.ki8
        have c1_9 := X1.out.ki9
        have c1_10 := X1.out.ki10
        have c1_11 := X1.out.ki11
        have c1_12 := X1.out.ki12
        try simp only [List.getElem_toArray, List.getElem_cons_succ, List.getElem_cons_zero, Act.put, List.setIfInBounds_toArray, List.set_cons_zero, List.set_cons_succ]
        refine region_kept (by kernel_rfl) (by kernel_rfl) ?_
        repeat (go_big_quiet_step (first | (go_at_call 47; with_reducible exact Kept.call (PL.out _)) | (go_at_call 48; with_reducible exact Kept.call (W1.out _)) | (go_at_call 48; with_reducible exact Kept.call (W2.out _)) | (go_at_call 48; with_reducible exact Kept.call (W3.out _)) | (go_at_call 41; with_reducible exact Kept.call (H1.out _)) | (go_at_call 41; with_reducible exact Kept.call (H2.out _))))
        refine wpQuiet_nil ?_
        intro w2 qq
        clear c1_0 c1_2 c1_3 c1_4 c1_5 c1_6 c1_7 c1_8 c1_9 c1_10 c1_11 c1_12
        replace X1 := Lib.hid (X1.out.kept qq)
        replace QQ := Lib.hid (Qw.trans QQ.out qq)
        clear qq
        go_upto_region 3 with fail
        go_upto_region 4 with (go_big_may; (first | ((with_reducible refine ld_it 1 ?_ X1.out ?_); (rfl)) | (go_at_call 29; ((with_reducible refine (SP.out _).mono ?_); rintro e w3 ⟨rfl, qq⟩; replace X1 := Lib.hid (X1.out.kept qq); replace QQ := Lib.hid (Qw.trans QQ.out qq); clear qq)) | ((with_reducible refine al_pt (dst := some 3) ?_); intro w4 B3 hb xx qq; have n3_1 := Lib.hid (Nat.ne_of_gt (Nat.lt_of_lt_of_le X1.out.lt hb)); have m3_1 := Lib.hid (Nat.ne_of_lt (Nat.lt_of_lt_of_le X1.out.lt hb)); have h3 := Lib.hid (Nat.le_trans QQ.out.size hb); replace X1 := Lib.hid (X1.out.kept qq); replace QQ := Lib.hid (Qw.trans QQ.out qq); have X3 := Lib.hid xx; clear xx qq hb) | ((with_reducible refine al_pt (dst := some 4) ?_); intro w5 B4 hb xx qq; have n4_1 := Lib.hid (Nat.ne_of_gt (Nat.lt_of_lt_of_le X1.out.lt hb)); have n4_3 := Lib.hid (Nat.ne_of_gt (Nat.lt_of_lt_of_le X3.out.lt hb)); have m4_1 := Lib.hid (Nat.ne_of_lt (Nat.lt_of_lt_of_le X1.out.lt hb)); have m4_3 := Lib.hid (Nat.ne_of_lt (Nat.lt_of_lt_of_le X3.out.lt hb)); have h4 := Lib.hid (Nat.le_trans QQ.out.size hb); replace X1 := Lib.hid (X1.out.kept qq); replace X3 := Lib.hid (X3.out.kept qq); replace QQ := Lib.hid (Qw.trans QQ.out qq); have X4 := Lib.hid xx; clear xx qq hb) | ((with_reducible refine st_pt (x := ?_) (y := ?_) 3 58 ?_ ?_ X3.out ?_); rotate_left 2; (rfl); (rfl); intro w6 xx qf ot; replace X1 := Lib.hid (ot _ _ _ m3_1.out X1.out); replace X4 := Lib.hid (ot _ _ _ n4_3.out X4.out); replace QQ := Lib.hid (qf _ QQ.out h3.out); replace X3 := Lib.hid xx; clear xx qf ot) | ((with_reducible refine st_pt (x := ?_) (y := ?_) 4 59 ?_ ?_ X4.out ?_); rotate_left 2; (rfl); (rfl); intro w7 xx qf ot; replace X1 := Lib.hid (ot _ _ _ m4_1.out X1.out); replace X3 := Lib.hid (ot _ _ _ m4_3.out X3.out); replace QQ := Lib.hid (qf _ QQ.out h4.out); replace X4 := Lib.hid xx; clear xx qf ot)))
        have c1_13 := X1.out.i13
        go_upto_region 5 with (go_big_may; (first | ((with_reducible refine ld_pt 3 ?_ X3.out ?_); (rfl)) | ((with_reducible refine ld_pt 4 ?_ X4.out ?_); (rfl)) | (go_at_call 74; ((with_reducible refine (FT.out _).mono ?_); rintro e w8 ⟨rfl, qq⟩; replace X1 := Lib.hid (X1.out.kept qq); replace X3 := Lib.hid (X3.out.kept qq); replace X4 := Lib.hid (X4.out.kept qq); replace QQ := Lib.hid (Qw.trans QQ.out qq); clear qq))))
        clear c1_13
        go_wp2
        go_ret
        exact ⟨rfl, QQ.out⟩
    · rw [k7] at ft
      have FT := Lib.hid ft
      simp only [if_true]
      clear ft k7
      rcases d0 with d0 | d0
      · have q3 : (i.d == 1) = true := by simpa using d0
        have q5 : (i.d != 1) = false := by simp [d0]
        clear d0
        have QQ : Hid (Qw w w) := Lib.hid (Qw.refl w)
        go_enter Try.func27, Try.ntmps27
        go_upto_region 1 with (go_big_may; ((with_reducible refine box_it (f := ?_) 0 ?_ ?_); rotate_left 1; (rfl); intro w1 B1 hb xx qq; have h1 := Lib.hid (Nat.le_trans QQ.out.size hb); replace QQ := Lib.hid (Qw.trans QQ.out qq); have X1 := Lib.hid xx; clear xx qq hb))
        have c1_0 := X1.out.ki0
        have c1_2 := X1.out.ki2
        have c1_3 := X1.out.ki3
        have c1_4 := X1.out.ki4
        have c1_5 := X1.out.ki5
        have c1_6 := X1.out.ki6
        have c1_7 := X1.out.ki7
        have c1_8 := X1.out.ki8
        have c1_9 := X1.out.ki9
        have c1_10 := X1.out.ki10
        have c1_11 := X1.out.ki11
        have c1_12 := X1.out.ki12
        try simp only [List.getElem_toArray, List.getElem_cons_succ, List.getElem_cons_zero, Act.put, List.setIfInBounds_toArray, List.set_cons_zero, List.set_cons_succ]
        refine region_kept (by kernel_rfl) (by kernel_rfl) ?_
        repeat (go_big_quiet_step (first | (go_at_call 47; with_reducible exact Kept.call (PL.out _)) | (go_at_call 48; with_reducible exact Kept.call (W1.out _)) | (go_at_call 48; with_reducible exact Kept.call (W2.out _)) | (go_at_call 48; with_reducible exact Kept.call (W3.out _)) | (go_at_call 41; with_reducible exact Kept.call (H1.out _)) | (go_at_call 41; with_reducible exact Kept.call (H2.out _))))
        refine wpQuiet_nil ?_
        intro w2 qq
        clear c1_0 c1_2 c1_3 c1_4 c1_5 c1_6 c1_7 c1_8 c1_9 c1_10 c1_11 c1_12
        replace X1 := Lib.hid (X1.out.kept qq)
        replace QQ := Lib.hid (Qw.trans QQ.out qq)
        clear qq
        go_upto_region 3 with fail
        go_upto_region 4 with (go_big_may; (first | ((with_reducible refine ld_it 1 ?_ X1.out ?_); (rfl)) | (go_at_call 29; ((with_reducible refine (SP.out _).mono ?_); rintro e w3 ⟨rfl, qq⟩; replace X1 := Lib.hid (X1.out.kept qq); replace QQ := Lib.hid (Qw.trans QQ.out qq); clear qq)) | ((with_reducible refine al_pt (dst := some 3) ?_); intro w4 B3 hb xx qq; have n3_1 := Lib.hid (Nat.ne_of_gt (Nat.lt_of_lt_of_le X1.out.lt hb)); have m3_1 := Lib.hid (Nat.ne_of_lt (Nat.lt_of_lt_of_le X1.out.lt hb)); have h3 := Lib.hid (Nat.le_trans QQ.out.size hb); replace X1 := Lib.hid (X1.out.kept qq); replace QQ := Lib.hid (Qw.trans QQ.out qq); have X3 := Lib.hid xx; clear xx qq hb) | ((with_reducible refine al_pt (dst := some 4) ?_); intro w5 B4 hb xx qq; have n4_1 := Lib.hid (Nat.ne_of_gt (Nat.lt_of_lt_of_le X1.out.lt hb)); have n4_3 := Lib.hid (Nat.ne_of_gt (Nat.lt_of_lt_of_le X3.out.lt hb)); have m4_1 := Lib.hid (Nat.ne_of_lt (Nat.lt_of_lt_of_le X1.out.lt hb)); have m4_3 := Lib.hid (Nat.ne_of_lt (Nat.lt_of_lt_of_le X3.out.lt hb)); have h4 := Lib.hid (Nat.le_trans QQ.out.size hb); replace X1 := Lib.hid (X1.out.kept qq); replace X3 := Lib.hid (X3.out.kept qq); replace QQ := Lib.hid (Qw.trans QQ.out qq); have X4 := Lib.hid xx; clear xx qq hb) | ((with_reducible refine st_pt (x := ?_) (y := ?_) 3 58 ?_ ?_ X3.out ?_); rotate_left 2; (rfl); (rfl); intro w6 xx qf ot; replace X1 := Lib.hid (ot _ _ _ m3_1.out X1.out); replace X4 := Lib.hid (ot _ _ _ n4_3.out X4.out); replace QQ := Lib.hid (qf _ QQ.out h3.out); replace X3 := Lib.hid xx; clear xx qf ot) | ((with_reducible refine st_pt (x := ?_) (y := ?_) 4 59 ?_ ?_ X4.out ?_); rotate_left 2; (rfl); (rfl); intro w7 xx qf ot; replace X1 := Lib.hid (ot _ _ _ m4_1.out X1.out); replace X3 := Lib.hid (ot _ _ _ m4_3.out X3.out); replace QQ := Lib.hid (qf _ QQ.out h4.out); replace X4 := Lib.hid xx; clear xx qf ot)))
        have c1_13 := X1.out.i13
        go_upto_region 6 with (go_big_may; (first | ((with_reducible refine ld_pt 3 ?_ X3.out ?_); (rfl)) | ((with_reducible refine ld_pt 4 ?_ X4.out ?_); (rfl)) | (go_at_call 74; ((with_reducible refine (FT.out _).mono ?_); rintro e w8 ⟨rfl, qq⟩; replace X1 := Lib.hid (X1.out.kept qq); replace X3 := Lib.hid (X3.out.kept qq); replace X4 := Lib.hid (X4.out.kept qq); replace QQ := Lib.hid (Qw.trans QQ.out qq); clear qq))))
        clear c1_13
        go_wp2
        go_ret
        exact ⟨rfl, QQ.out⟩
      · have q3 : (i.d == 1) = false := by simp [d0]
        have q5 : (i.d != 1) = true := by simp [d0]
        have q4 : (i.d == -1) = true := by simpa using d0
        have q6 : (i.d != -1) = false := by simp [d0]
        clear d0
        have QQ : Hid (Qw w w) := Lib.hid (Qw.refl w)
        go_enter Try.func27, Try.ntmps27
        go_upto_region 1 with (go_big_may; ((with_reducible refine box_it (f := ?_) 0 ?_ ?_); rotate_left 1; (rfl); intro w1 B1 hb xx qq; have h1 := Lib.hid (Nat.le_trans QQ.out.size hb); replace QQ := Lib.hid (Qw.trans QQ.out qq); have X1 := Lib.hid xx; clear xx qq hb))
        have c1_0 := X1.out.ki0
        have c1_2 := X1.out.ki2
        have c1_3 := X1.out.ki3
        have c1_4 := X1.out.ki4
        have c1_5 := X1.out.ki5
        have c1_6 := X1.out.ki6
        have c1_7 := X1.out.ki7
        have c1_8 := X1.out.ki8
        have c1_9 := X1.out.ki9
        have c1_10 := X1.out.ki10
        have c1_11 := X1.out.ki11
        have c1_12 := X1.out.ki12
        try simp only [List.getElem_toArray, List.getElem_cons_succ, List.getElem_cons_zero, Act.put, List.setIfInBounds_toArray, List.set_cons_zero, List.set_cons_succ]
        refine region_kept (by kernel_rfl) (by kernel_rfl) ?_
        repeat (go_big_quiet_step (first | (go_at_call 47; with_reducible exact Kept.call (PL.out _)) | (go_at_call 48; with_reducible exact Kept.call (W1.out _)) | (go_at_call 48; with_reducible exact Kept.call (W2.out _)) | (go_at_call 48; with_reducible exact Kept.call (W3.out _)) | (go_at_call 41; with_reducible exact Kept.call (H1.out _)) | (go_at_call 41; with_reducible exact Kept.call (H2.out _))))
        refine wpQuiet_nil ?_
        intro w2 qq
        clear c1_0 c1_2 c1_3 c1_4 c1_5 c1_6 c1_7 c1_8 c1_9 c1_10 c1_11 c1_12
        replace X1 := Lib.hid (X1.out.kept qq)
        replace QQ := Lib.hid (Qw.trans QQ.out qq)
        clear qq
        go_upto_region 3 with fail
        go_upto_region 4 with (go_big_may; (first | ((with_reducible refine ld_it 1 ?_ X1.out ?_); (rfl)) | (go_at_call 29; ((with_reducible refine (SP.out _).mono ?_); rintro e w3 ⟨rfl, qq⟩; replace X1 := Lib.hid (X1.out.kept qq); replace QQ := Lib.hid (Qw.trans QQ.out qq); clear qq)) | ((with_reducible refine al_pt (dst := some 3) ?_); intro w4 B3 hb xx qq; have n3_1 := Lib.hid (Nat.ne_of_gt (Nat.lt_of_lt_of_le X1.out.lt hb)); have m3_1 := Lib.hid (Nat.ne_of_lt (Nat.lt_of_lt_of_le X1.out.lt hb)); have h3 := Lib.hid (Nat.le_trans QQ.out.size hb); replace X1 := Lib.hid (X1.out.kept qq); replace QQ := Lib.hid (Qw.trans QQ.out qq); have X3 := Lib.hid xx; clear xx qq hb) | ((with_reducible refine al_pt (dst := some 4) ?_); intro w5 B4 hb xx qq; have n4_1 := Lib.hid (Nat.ne_of_gt (Nat.lt_of_lt_of_le X1.out.lt hb)); have n4_3 := Lib.hid (Nat.ne_of_gt (Nat.lt_of_lt_of_le X3.out.lt hb)); have m4_1 := Lib.hid (Nat.ne_of_lt (Nat.lt_of_lt_of_le X1.out.lt hb)); have m4_3 := Lib.hid (Nat.ne_of_lt (Nat.lt_of_lt_of_le X3.out.lt hb)); have h4 := Lib.hid (Nat.le_trans QQ.out.size hb); replace X1 := Lib.hid (X1.out.kept qq); replace X3 := Lib.hid (X3.out.kept qq); replace QQ := Lib.hid (Qw.trans QQ.out qq); have X4 := Lib.hid xx; clear xx qq hb) | ((with_reducible refine st_pt (x := ?_) (y := ?_) 3 58 ?_ ?_ X3.out ?_); rotate_left 2; (rfl); (rfl); intro w6 xx qf ot; replace X1 := Lib.hid (ot _ _ _ m3_1.out X1.out); replace X4 := Lib.hid (ot _ _ _ n4_3.out X4.out); replace QQ := Lib.hid (qf _ QQ.out h3.out); replace X3 := Lib.hid xx; clear xx qf ot) | ((with_reducible refine st_pt (x := ?_) (y := ?_) 4 59 ?_ ?_ X4.out ?_); rotate_left 2; (rfl); (rfl); intro w7 xx qf ot; replace X1 := Lib.hid (ot _ _ _ m4_1.out X1.out); replace X3 := Lib.hid (ot _ _ _ m4_3.out X3.out); replace QQ := Lib.hid (qf _ QQ.out h4.out); replace X4 := Lib.hid xx; clear xx qf ot)))
        have c1_13 := X1.out.i13
        go_upto_region 6 with (go_big_may; (first | ((with_reducible refine ld_pt 3 ?_ X3.out ?_); (rfl)) | ((with_reducible refine ld_pt 4 ?_ X4.out ?_); (rfl)) | (go_at_call 74; ((with_reducible refine (FT.out _).mono ?_); rintro e w8 ⟨rfl, qq⟩; replace X1 := Lib.hid (X1.out.kept qq); replace X3 := Lib.hid (X3.out.kept qq); replace X4 := Lib.hid (X4.out.kept qq); replace QQ := Lib.hid (Qw.trans QQ.out qq); clear qq))))
        clear c1_13
        go_wp2
        go_ret
        exact ⟨rfl, QQ.out⟩
  exact main _ _ rfl rfl
set_option maxRecDepth 100000 in
set_option maxHeartbeats 2000000 in
theorem arTangent (i : Ac.I) (h : Ac.Near i) (hk : Ac.w64 i.k) (hd : i.d = 1 ∨ i.d = -1 ∨ i.k ≠ 3) (t : Bool) (w : World) :
    Calls Try.prog 37 #[.agg (itc i), .bool t] w fun e w' => e = .returned (.agg #[.int .i64 (Ac.tgu i t), .int .i64 (Ac.tgw i t)]) ∧ Qw w w' := by
  have sp := fun w' => arSpokes i h w'
  have bd := h.bd
  have p1 := fun w' => arPt i.p i.tx i.ty i.tz h.p.1 h.p.2 w'
  have p2 := fun w' => arPt i.p i.fx i.fy i.fz h.p.1 h.p.2 w'
  have c1 := Ac.flat_le (p := i.p) (L := 1048576) (by decide) h.fx h.fy h.fz
  have c2 := Ac.flat_le (p := i.p) (L := 1048576) (by decide) h.tx h.ty h.tz
  unfold Ac.tgu Ac.tgw
  by_cases hk3 : i.k = 3
  · rw [if_pos hk3, if_pos hk3]
    have y0 : (i.k == 3) = true := by simpa using hk3
    have y1 : (i.k != 3) = false := by simp [hk3]
    have hd2 : i.d = 1 ∨ i.d = -1 := by omega
    clear hd
    generalize Ac.au i = A0 at *
    generalize Ac.aw i = A1 at *
    generalize Ac.bu i = A2 at *
    generalize Ac.bw i = A3 at *
    have md : ∀ n : Int, -2097152 ≤ n → n ≤ 2097152 → (-2097152 ≤ -n * i.d ∧ -n * i.d ≤ 2097152) ∧ (-2097152 ≤ n * i.d ∧ n * i.d ≤ 2097152) := fun n h1 h2 => by rcases hd2 with e | e <;> rw [e] <;> omega
    obtain ⟨⟨b1, b2⟩, ⟨b3, b4⟩, ⟨b5, b6⟩, ⟨b7, b8⟩⟩ := bd
    obtain ⟨⟨m1, m2⟩, _⟩ := md A1 b3 b4
    obtain ⟨_, ⟨m3, m4⟩⟩ := md A0 b1 b2
    obtain ⟨⟨m5, m6⟩, _⟩ := md A3 b7 b8
    obtain ⟨_, ⟨m7, m8⟩⟩ := md A2 b5 b6
    have d1 : -1 ≤ i.d ∧ i.d ≤ 1 := by omega
    obtain ⟨d2, d3⟩ := d1
    have SP := Lib.hid sp
    clear sp md hd2 p1 p2 c1 c2
    cases t
    · simp only [Bool.false_eq_true, if_false]
      rw [show -i.d * A1 = -A1 * i.d by rw [Int.neg_mul, Int.neg_mul, Int.mul_comm], Int.mul_comm i.d A0]
      have QQ : Hid (Qw w w) := Lib.hid (Qw.refl w)
      go_enter Try.func37, Try.ntmps37
      go_upto_region 1 with (go_big_may; (first | ((with_reducible refine box_it (f := ?_) 0 ?_ ?_); rotate_left 1; (rfl); intro w1 B2 hb xx qq; have h2 := Lib.hid (Nat.le_trans QQ.out.size hb); replace QQ := Lib.hid (Qw.trans QQ.out qq); have X2 := Lib.hid xx; clear xx qq hb) | ((with_reducible refine al_pt (dst := some 4) ?_); intro w2 B4 hb xx qq; have n4_2 := Lib.hid (Nat.ne_of_gt (Nat.lt_of_lt_of_le X2.out.lt hb)); have m4_2 := Lib.hid (Nat.ne_of_lt (Nat.lt_of_lt_of_le X2.out.lt hb)); have h4 := Lib.hid (Nat.le_trans QQ.out.size hb); replace X2 := Lib.hid (X2.out.kept qq); replace QQ := Lib.hid (Qw.trans QQ.out qq); have X4 := Lib.hid xx; clear xx qq hb)))
      have c2_0 := X2.out.i0
      go_upto_region 3 with fail
      clear c2_0
      go_upto_region 4 with (go_big_may; (first | ((with_reducible refine ld_it 2 ?_ X2.out ?_); (rfl)) | (go_at_call 29; ((with_reducible refine (SP.out _).mono ?_); rintro e w3 ⟨rfl, qq⟩; replace X2 := Lib.hid (X2.out.kept qq); replace X4 := Lib.hid (X4.out.kept qq); replace QQ := Lib.hid (Qw.trans QQ.out qq); clear qq)) | ((with_reducible refine al_pt (dst := some 5) ?_); intro w4 B5 hb xx qq; have n5_2 := Lib.hid (Nat.ne_of_gt (Nat.lt_of_lt_of_le X2.out.lt hb)); have n5_4 := Lib.hid (Nat.ne_of_gt (Nat.lt_of_lt_of_le X4.out.lt hb)); have m5_2 := Lib.hid (Nat.ne_of_lt (Nat.lt_of_lt_of_le X2.out.lt hb)); have m5_4 := Lib.hid (Nat.ne_of_lt (Nat.lt_of_lt_of_le X4.out.lt hb)); have h5 := Lib.hid (Nat.le_trans QQ.out.size hb); replace X2 := Lib.hid (X2.out.kept qq); replace X4 := Lib.hid (X4.out.kept qq); replace QQ := Lib.hid (Qw.trans QQ.out qq); have X5 := Lib.hid xx; clear xx qq hb) | ((with_reducible refine al_pt (dst := some 6) ?_); intro w5 B6 hb xx qq; have n6_2 := Lib.hid (Nat.ne_of_gt (Nat.lt_of_lt_of_le X2.out.lt hb)); have n6_4 := Lib.hid (Nat.ne_of_gt (Nat.lt_of_lt_of_le X4.out.lt hb)); have n6_5 := Lib.hid (Nat.ne_of_gt (Nat.lt_of_lt_of_le X5.out.lt hb)); have m6_2 := Lib.hid (Nat.ne_of_lt (Nat.lt_of_lt_of_le X2.out.lt hb)); have m6_4 := Lib.hid (Nat.ne_of_lt (Nat.lt_of_lt_of_le X4.out.lt hb)); have m6_5 := Lib.hid (Nat.ne_of_lt (Nat.lt_of_lt_of_le X5.out.lt hb)); have h6 := Lib.hid (Nat.le_trans QQ.out.size hb); replace X2 := Lib.hid (X2.out.kept qq); replace X4 := Lib.hid (X4.out.kept qq); replace X5 := Lib.hid (X5.out.kept qq); replace QQ := Lib.hid (Qw.trans QQ.out qq); have X6 := Lib.hid xx; clear xx qq hb) | ((with_reducible refine st_pt (x := ?_) (y := ?_) 5 24 ?_ ?_ X5.out ?_); rotate_left 2; (rfl); (rfl); intro w6 xx qf ot; replace X2 := Lib.hid (ot _ _ _ m5_2.out X2.out); replace X4 := Lib.hid (ot _ _ _ m5_4.out X4.out); replace X6 := Lib.hid (ot _ _ _ n6_5.out X6.out); replace QQ := Lib.hid (qf _ QQ.out h5.out); replace X5 := Lib.hid xx; clear xx qf ot) | ((with_reducible refine st_pt (x := ?_) (y := ?_) 6 25 ?_ ?_ X6.out ?_); rotate_left 2; (rfl); (rfl); intro w7 xx qf ot; replace X2 := Lib.hid (ot _ _ _ m6_2.out X2.out); replace X4 := Lib.hid (ot _ _ _ m6_4.out X4.out); replace X5 := Lib.hid (ot _ _ _ m6_5.out X5.out); replace QQ := Lib.hid (qf _ QQ.out h6.out); replace X6 := Lib.hid xx; clear xx qf ot)))
      go_upto_region 6 with fail
      have c5_0 := X5.out.p0
      have c5_1 := X5.out.p1
      have c2_12 := X2.out.i12
      go_wp2_with ((with_reducible refine st_pt (x := ?_) (y := ?_) 4 39 ?_ ?_ X4.out ?_); rotate_left 2; (rfl); (rfl); intro w8 xx qf ot; replace X2 := Lib.hid (ot _ _ _ m4_2.out X2.out); replace X5 := Lib.hid (ot _ _ _ n5_4.out X5.out); replace X6 := Lib.hid (ot _ _ _ n6_4.out X6.out); replace QQ := Lib.hid (qf _ QQ.out h4.out); replace X4 := Lib.hid xx; clear xx qf ot)
      have c4_0 := X4.out.p0
      have c4_1 := X4.out.p1
      exact bodyPost_ret (v := .agg #[.int .i64 (-A1 * i.d), .int .i64 (A0 * i.d)]) (by simp [results, Try.results37, go_sem, c4_0, c4_1]) rfl ⟨rfl, QQ.out⟩
    · simp only [if_true]
      rw [show -i.d * A3 = -A3 * i.d by rw [Int.neg_mul, Int.neg_mul, Int.mul_comm], Int.mul_comm i.d A2]
      have QQ : Hid (Qw w w) := Lib.hid (Qw.refl w)
      go_enter Try.func37, Try.ntmps37
      go_upto_region 1 with (go_big_may; (first | ((with_reducible refine box_it (f := ?_) 0 ?_ ?_); rotate_left 1; (rfl); intro w1 B2 hb xx qq; have h2 := Lib.hid (Nat.le_trans QQ.out.size hb); replace QQ := Lib.hid (Qw.trans QQ.out qq); have X2 := Lib.hid xx; clear xx qq hb) | ((with_reducible refine al_pt (dst := some 4) ?_); intro w2 B4 hb xx qq; have n4_2 := Lib.hid (Nat.ne_of_gt (Nat.lt_of_lt_of_le X2.out.lt hb)); have m4_2 := Lib.hid (Nat.ne_of_lt (Nat.lt_of_lt_of_le X2.out.lt hb)); have h4 := Lib.hid (Nat.le_trans QQ.out.size hb); replace X2 := Lib.hid (X2.out.kept qq); replace QQ := Lib.hid (Qw.trans QQ.out qq); have X4 := Lib.hid xx; clear xx qq hb)))
      have c2_0 := X2.out.i0
      go_upto_region 3 with fail
      clear c2_0
      go_upto_region 4 with (go_big_may; (first | ((with_reducible refine ld_it 2 ?_ X2.out ?_); (rfl)) | (go_at_call 29; ((with_reducible refine (SP.out _).mono ?_); rintro e w3 ⟨rfl, qq⟩; replace X2 := Lib.hid (X2.out.kept qq); replace X4 := Lib.hid (X4.out.kept qq); replace QQ := Lib.hid (Qw.trans QQ.out qq); clear qq)) | ((with_reducible refine al_pt (dst := some 5) ?_); intro w4 B5 hb xx qq; have n5_2 := Lib.hid (Nat.ne_of_gt (Nat.lt_of_lt_of_le X2.out.lt hb)); have n5_4 := Lib.hid (Nat.ne_of_gt (Nat.lt_of_lt_of_le X4.out.lt hb)); have m5_2 := Lib.hid (Nat.ne_of_lt (Nat.lt_of_lt_of_le X2.out.lt hb)); have m5_4 := Lib.hid (Nat.ne_of_lt (Nat.lt_of_lt_of_le X4.out.lt hb)); have h5 := Lib.hid (Nat.le_trans QQ.out.size hb); replace X2 := Lib.hid (X2.out.kept qq); replace X4 := Lib.hid (X4.out.kept qq); replace QQ := Lib.hid (Qw.trans QQ.out qq); have X5 := Lib.hid xx; clear xx qq hb) | ((with_reducible refine al_pt (dst := some 6) ?_); intro w5 B6 hb xx qq; have n6_2 := Lib.hid (Nat.ne_of_gt (Nat.lt_of_lt_of_le X2.out.lt hb)); have n6_4 := Lib.hid (Nat.ne_of_gt (Nat.lt_of_lt_of_le X4.out.lt hb)); have n6_5 := Lib.hid (Nat.ne_of_gt (Nat.lt_of_lt_of_le X5.out.lt hb)); have m6_2 := Lib.hid (Nat.ne_of_lt (Nat.lt_of_lt_of_le X2.out.lt hb)); have m6_4 := Lib.hid (Nat.ne_of_lt (Nat.lt_of_lt_of_le X4.out.lt hb)); have m6_5 := Lib.hid (Nat.ne_of_lt (Nat.lt_of_lt_of_le X5.out.lt hb)); have h6 := Lib.hid (Nat.le_trans QQ.out.size hb); replace X2 := Lib.hid (X2.out.kept qq); replace X4 := Lib.hid (X4.out.kept qq); replace X5 := Lib.hid (X5.out.kept qq); replace QQ := Lib.hid (Qw.trans QQ.out qq); have X6 := Lib.hid xx; clear xx qq hb) | ((with_reducible refine st_pt (x := ?_) (y := ?_) 5 24 ?_ ?_ X5.out ?_); rotate_left 2; (rfl); (rfl); intro w6 xx qf ot; replace X2 := Lib.hid (ot _ _ _ m5_2.out X2.out); replace X4 := Lib.hid (ot _ _ _ m5_4.out X4.out); replace X6 := Lib.hid (ot _ _ _ n6_5.out X6.out); replace QQ := Lib.hid (qf _ QQ.out h5.out); replace X5 := Lib.hid xx; clear xx qf ot) | ((with_reducible refine st_pt (x := ?_) (y := ?_) 6 25 ?_ ?_ X6.out ?_); rotate_left 2; (rfl); (rfl); intro w7 xx qf ot; replace X2 := Lib.hid (ot _ _ _ m6_2.out X2.out); replace X4 := Lib.hid (ot _ _ _ m6_4.out X4.out); replace X5 := Lib.hid (ot _ _ _ m6_5.out X5.out); replace QQ := Lib.hid (qf _ QQ.out h6.out); replace X6 := Lib.hid xx; clear xx qf ot)))
      go_upto_region 5 with fail
      go_upto_region 6 with (go_big_may; (first | ((with_reducible refine ld_pt 6 ?_ X6.out ?_); (rfl)) | ((with_reducible refine st_pt (x := ?_) (y := ?_) 5 27 ?_ ?_ X5.out ?_); rotate_left 2; (rfl); (rfl); intro w8 xx qf ot; replace X2 := Lib.hid (ot _ _ _ m5_2.out X2.out); replace X4 := Lib.hid (ot _ _ _ m5_4.out X4.out); replace X6 := Lib.hid (ot _ _ _ n6_5.out X6.out); replace QQ := Lib.hid (qf _ QQ.out h5.out); replace X5 := Lib.hid xx; clear xx qf ot)))
      have c5_0 := X5.out.p0
      have c5_1 := X5.out.p1
      have c2_12 := X2.out.i12
      go_wp2_with ((with_reducible refine st_pt (x := ?_) (y := ?_) 4 39 ?_ ?_ X4.out ?_); rotate_left 2; (rfl); (rfl); intro w9 xx qf ot; replace X2 := Lib.hid (ot _ _ _ m4_2.out X2.out); replace X5 := Lib.hid (ot _ _ _ n5_4.out X5.out); replace X6 := Lib.hid (ot _ _ _ n6_4.out X6.out); replace QQ := Lib.hid (qf _ QQ.out h4.out); replace X4 := Lib.hid xx; clear xx qf ot)
      have c4_0 := X4.out.p0
      have c4_1 := X4.out.p1
      exact bodyPost_ret (v := .agg #[.int .i64 (-A3 * i.d), .int .i64 (A2 * i.d)]) (by simp [results, Try.results37, go_sem, c4_0, c4_1]) rfl ⟨rfl, QQ.out⟩
  · rw [if_neg hk3, if_neg hk3]
    have y0 : (i.k == 3) = false := beq_eq_false_iff_ne.2 hk3
    have y1 : (i.k != 3) = true := by simp [hk3]
    generalize fu i.p i.tx i.ty i.tz = G0 at *
    generalize fw i.p i.tx i.ty i.tz = G1 at *
    generalize fu i.p i.fx i.fy i.fz = F0 at *
    generalize fw i.p i.fx i.fy i.fz = F1 at *
    have s1 := fun w' => arSub G0 G1 F0 F1 (by omega) (by omega) (by omega) (by omega) (by omega) (by omega) (by omega) (by omega) w'
    have P1 := Lib.hid p1
    have P2 := Lib.hid p2
    have S1 := Lib.hid s1
    clear sp p1 p2 s1 bd hd c1 c2
    have QQ : Hid (Qw w w) := Lib.hid (Qw.refl w)
    go_enter Try.func37, Try.ntmps37
    go_upto_region 1 with (go_big_may; (first | ((with_reducible refine box_it (f := ?_) 0 ?_ ?_); rotate_left 1; (rfl); intro w1 B2 hb xx qq; have h2 := Lib.hid (Nat.le_trans QQ.out.size hb); replace QQ := Lib.hid (Qw.trans QQ.out qq); have X2 := Lib.hid xx; clear xx qq hb) | ((with_reducible refine al_pt (dst := some 4) ?_); intro w2 B4 hb xx qq; have n4_2 := Lib.hid (Nat.ne_of_gt (Nat.lt_of_lt_of_le X2.out.lt hb)); have m4_2 := Lib.hid (Nat.ne_of_lt (Nat.lt_of_lt_of_le X2.out.lt hb)); have h4 := Lib.hid (Nat.le_trans QQ.out.size hb); replace X2 := Lib.hid (X2.out.kept qq); replace QQ := Lib.hid (Qw.trans QQ.out qq); have X4 := Lib.hid xx; clear xx qq hb)))
    have c2_0 := X2.out.i0
    go_upto_region 2 with fail
    clear c2_0
    have c2_2 := X2.out.ki2
    have c2_3 := X2.out.ki3
    have c2_4 := X2.out.ki4
    have c2_5 := X2.out.ki5
    have c2_6 := X2.out.ki6
    have c2_7 := X2.out.ki7
    have c2_8 := X2.out.ki8
    try simp only [List.getElem_toArray, List.getElem_cons_succ, List.getElem_cons_zero, Act.put, List.setIfInBounds_toArray, List.set_cons_zero, List.set_cons_succ]
    refine region_kept_tail 11 (by kernel_rfl) (by kernel_rfl) ?_
    simp only [List.take_succ_cons, List.take_zero, List.drop_succ_cons, List.drop_zero]
    repeat (go_big_quiet_step (first | (go_at_call 19; with_reducible exact Kept.call (P1.out _)) | (go_at_call 19; with_reducible exact Kept.call (P2.out _)) | (go_at_call 38; with_reducible exact Kept.call (S1.out _))))
    refine wpQuiet_nil ?_
    intro w3 qq
    clear c2_2 c2_3 c2_4 c2_5 c2_6 c2_7 c2_8
    replace X2 := Lib.hid (X2.out.kept qq)
    replace X4 := Lib.hid (X4.out.kept qq)
    replace QQ := Lib.hid (Qw.trans QQ.out qq)
    clear qq
    go_wp2_with ((with_reducible refine st_pt (x := ?_) (y := ?_) 4 20 ?_ ?_ X4.out ?_); rotate_left 2; (rfl); (rfl); intro w4 xx qf ot; replace X2 := Lib.hid (ot _ _ _ m4_2.out X2.out); replace QQ := Lib.hid (qf _ QQ.out h4.out); replace X4 := Lib.hid xx; clear xx qf ot)
    have c4_0 := X4.out.p0
    have c4_1 := X4.out.p1
    exact bodyPost_ret (v := .agg #[.int .i64 (G0 - F0), .int .i64 (G1 - F1)]) (by simp [results, Try.results37, go_sem, c4_0, c4_1]) rfl ⟨rfl, QQ.out⟩
end Go.Proofs.Ytihmifdadikhaaa
