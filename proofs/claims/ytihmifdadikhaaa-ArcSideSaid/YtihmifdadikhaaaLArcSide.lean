
/- ArcSide: The center lies to the left of a counterclockwise arc and to the right of a clockwise one; the direction of travel stands upright on the spoke and is as long.
   Conditions: none; every input. -/
import Derived.Test.YtihmifdadikhaaaRows
import Derived.Test.YtihmifdadikhaaaGR
import Derived.Test.YtihmifdadikhaaaGI
import Derived.Test.YtihmifdadikhaaaGG
set_option linter.unusedVariables false
set_option linter.unusedSimpArgs false
namespace Go.Proofs.Ytihmifdadikhaaa
open Go.ChangeShapes Go.WideShapes Go.ChangeAt Go.RowKit

namespace Ac
theorem tgu_yes {i : I} (h : i.k = 3) (e : Bool) : tgu i e = -i.d * (if e = true then bw i else aw i) := if_pos h
theorem tgw_yes {i : I} (h : i.k = 3) (e : Bool) : tgw i e = i.d * (if e = true then bu i else au i) := if_pos h
/-- The direction of travel stands upright on the spoke, is as long, and the center lies at its side. -/
theorem side_law {i : I} (g : Gd i) (e : Bool) : inn (-i.d * (if e = true then bw i else aw i)) (i.d * (if e = true then bu i else au i)) (if e = true then bu i else au i) (if e = true then bw i else aw i) = 0 ∧
    inn (-i.d * (if e = true then bw i else aw i)) (i.d * (if e = true then bu i else au i)) (-i.d * (if e = true then bw i else aw i)) (i.d * (if e = true then bu i else au i)) = inn (if e = true then bu i else au i) (if e = true then bw i else aw i) (if e = true then bu i else au i) (if e = true then bw i else aw i) ∧
    0 < cr (if e = true then bu i else au i) (if e = true then bw i else aw i) (-i.d * (if e = true then bw i else aw i)) (i.d * (if e = true then bu i else au i)) * i.d ∧
    ((-400000 ≤ -i.d * (if e = true then bw i else aw i) ∧ -i.d * (if e = true then bw i else aw i) ≤ 400000) ∧ (-400000 ≤ i.d * (if e = true then bu i else au i) ∧ i.d * (if e = true then bu i else au i) ≤ 400000)) := by
  have f := fit_pos g.ft
  have b := g.bd
  have key : ∀ x y : Int, (-400000 ≤ x ∧ x ≤ 400000) → (-400000 ≤ y ∧ y ≤ 400000) → 64 ≤ inn x y x y → inn (-i.d * y) (i.d * x) x y = 0 ∧ inn (-i.d * y) (i.d * x) (-i.d * y) (i.d * x) = inn x y x y ∧ 0 < cr x y (-i.d * y) (i.d * x) * i.d ∧ ((-400000 ≤ -i.d * y ∧ -i.d * y ≤ 400000) ∧ (-400000 ≤ i.d * x ∧ i.d * x ≤ 400000)) := by
    intro x y hx hy h
    unfold inn at *
    unfold cr
    have c := Int.mul_comm y x
    rcases g.d with e | e
    · rw [e]; simp only [Int.neg_mul, Int.one_mul, Int.mul_neg, Int.neg_neg, Int.mul_one]; omega
    · rw [e]; simp only [Int.neg_mul, Int.one_mul, Int.mul_neg, Int.neg_neg, Int.mul_one]; omega
  cases e
  · simp only [Bool.false_eq_true, if_false]; exact key _ _ b.1 b.2.1 f.1
  · simp only [if_true]; exact key _ _ b.2.2.1 b.2.2.2 f.2
end Ac
set_option maxRecDepth 100000 in
set_option maxHeartbeats 8000000 in
theorem walk_arcSide (v1 : Value) (z1 : List Int) (a2 : Bool) (w : World) (h1 : IntsB w.heap.size w v1 z1) : Calls Try.prog 12 #[v1, .bool a2] w fun e w' => e = .returned (.bool true) ∧ Below w.heap.size w w' := by
  have AW := Lib.hid awakeA
  cases k1 : decide (z1.length ≤ 120)
  · have L1 := Lib.hid (fun (w' : World) (q : Qw w w') => lightN h1 q k1)
    clear k1 h1
    have QQ : Hid (Qw w w) := Lib.hid (Qw.refl w)
    go_enter Try.func12, Try.ntmps12
    go_upto_region 1 with fail
    go_upto_region 2 with (go_big_may; (go_at_call 23; ((with_reducible refine (L1.out _ QQ.out).mono ?_); rintro e w' ⟨rfl, rfl⟩)))
    go_wp2_with (go_at_call 20; ((with_reducible refine (AW.out _).mono ?_); rintro e w1 ⟨rfl, qq⟩; replace QQ := Lib.hid (Qw.trans QQ.out qq); clear qq))
    go_ret
    exact ⟨rfl, QQ.out⟩
  have L1 := Lib.hid (fun (w' : World) (q : Qw w w') => lightN h1 q k1)
  have H1 := Lib.hid h1
  clear k1 h1
  have QQ : Hid (Qw w w) := Lib.hid (Qw.refl w)
  go_enter Try.func12, Try.ntmps12
  go_upto_region 1 with fail
  go_upto_region 3 with (go_big_may; (go_at_call 23; ((with_reducible refine (L1.out _ QQ.out).mono ?_); rintro e w' ⟨rfl, rfl⟩)))
  go_upto_region 4 with (go_big_may; (first | ((with_reducible refine al_it (dst := some 5) ?_); intro w1 B5 hb xx qq; have h5 := Lib.hid (Nat.le_trans QQ.out.size hb); replace QQ := Lib.hid (Qw.trans QQ.out qq); have X5 := Lib.hid xx; clear xx qq hb) | ((with_reducible refine st_itO (g := ?_) 5 15 ?_ ?_ X5.out ?_); rotate_left 1; (rfl); (rfl); intro w2 xx qf ot; replace QQ := Lib.hid (qf _ QQ.out h5.out); replace X5 := Lib.hid xx; clear xx qf ot) | (go_at_call 25; ((with_reducible refine (newN H1.out QQ.out).mono ?_); rintro e wT ⟨rfl, t, qq⟩; have T1 := Lib.hid t; have hB := Lib.hid QQ.out.size; skip; replace QQ := Lib.hid (Qw.trans QQ.out qq); clear t qq)) | (go_at_call 24; ((with_reducible refine (arcN T1.out QQ.out hB.out).mono ?_); rintro e wA ⟨⟨i, rfl, gd⟩, qq⟩; have GD := Lib.hid gd; skip; replace QQ := Lib.hid qq; clear qq gd T1))))
  have g := GD.out
  have nr := g.near
  have bd := g.bd
  have sp := fun w' => apSpokes i nr w'
  have tg := fun w' => apTangent i nr (by unfold Ac.w64; have := g.k; omega) (by have := g.d; omega) a2 w'
  have pl := Ac.side_law g a2
  rw [Ac.tgu_yes g.k, Ac.tgw_yes g.k] at tg
  have hd := g.d
  generalize Ac.au i = A0 at *
  generalize Ac.aw i = A1 at *
  generalize Ac.bu i = A2 at *
  generalize Ac.bw i = A3 at *
  have SP := Lib.hid sp
  have TG := Lib.hid tg
  clear sp tg g nr L1 H1 hB
  go_upto_region 5 with (go_big_may; (first | ((with_reducible refine ld_it 5 ?_ X5.out ?_); (rfl)) | (go_at_call 28; ((with_reducible refine (SP.out _).mono ?_); rintro e w3 ⟨rfl, qq⟩; replace X5 := Lib.hid (X5.out.kept qq); replace QQ := Lib.hid (Qw.trans QQ.out qq); clear qq)) | ((with_reducible refine al_pt (dst := some 6) ?_); intro w4 B6 hb xx qq; have n6_5 := Lib.hid (Nat.ne_of_gt (Nat.lt_of_lt_of_le X5.out.lt hb)); have m6_5 := Lib.hid (Nat.ne_of_lt (Nat.lt_of_lt_of_le X5.out.lt hb)); have h6 := Lib.hid (Nat.le_trans QQ.out.size hb); replace X5 := Lib.hid (X5.out.kept qq); replace QQ := Lib.hid (Qw.trans QQ.out qq); have X6 := Lib.hid xx; clear xx qq hb) | ((with_reducible refine al_pt (dst := some 7) ?_); intro w5 B7 hb xx qq; have n7_5 := Lib.hid (Nat.ne_of_gt (Nat.lt_of_lt_of_le X5.out.lt hb)); have n7_6 := Lib.hid (Nat.ne_of_gt (Nat.lt_of_lt_of_le X6.out.lt hb)); have m7_5 := Lib.hid (Nat.ne_of_lt (Nat.lt_of_lt_of_le X5.out.lt hb)); have m7_6 := Lib.hid (Nat.ne_of_lt (Nat.lt_of_lt_of_le X6.out.lt hb)); have h7 := Lib.hid (Nat.le_trans QQ.out.size hb); replace X5 := Lib.hid (X5.out.kept qq); replace X6 := Lib.hid (X6.out.kept qq); replace QQ := Lib.hid (Qw.trans QQ.out qq); have X7 := Lib.hid xx; clear xx qq hb) | ((with_reducible refine st_pt (x := ?_) (y := ?_) 6 19 ?_ ?_ X6.out ?_); rotate_left 2; (rfl); (rfl); intro w6 xx qf ot; replace X5 := Lib.hid (ot _ _ _ m6_5.out X5.out); replace X7 := Lib.hid (ot _ _ _ n7_6.out X7.out); replace QQ := Lib.hid (qf _ QQ.out h6.out); replace X6 := Lib.hid xx; clear xx qf ot) | ((with_reducible refine st_pt (x := ?_) (y := ?_) 7 20 ?_ ?_ X7.out ?_); rotate_left 2; (rfl); (rfl); intro w7 xx qf ot; replace X5 := Lib.hid (ot _ _ _ m7_5.out X5.out); replace X6 := Lib.hid (ot _ _ _ m7_6.out X6.out); replace QQ := Lib.hid (qf _ QQ.out h7.out); replace X7 := Lib.hid xx; clear xx qf ot)))
  cases a2
  · simp only [Bool.false_eq_true, if_false] at pl TG
    obtain ⟨p1, p2, p3, p4⟩ := pl
    obtain ⟨⟨b1, b2⟩, ⟨b3, b4⟩, ⟨b5, b6⟩, ⟨b7, b8⟩⟩ := bd
    have i1 := fun w' => vr_inner (-i.d * A1) (i.d * A0) A0 A1 (by omega) (by omega) (by omega) (by omega) (by omega) (by omega) (by omega) (by omega) w'
    have i2 := fun w' => vr_inner (-i.d * A1) (i.d * A0) (-i.d * A1) (i.d * A0) (by omega) (by omega) (by omega) (by omega) (by omega) (by omega) (by omega) (by omega) w'
    have i3 := fun w' => vr_inner A0 A1 A0 A1 (by omega) (by omega) (by omega) (by omega) (by omega) (by omega) (by omega) (by omega) w'
    have c1 := fun w' => vr_cross A0 A1 (-i.d * A1) (i.d * A0) (by omega) (by omega) (by omega) (by omega) (by omega) (by omega) (by omega) (by omega) w'
    have cb := Ac.cr_bd (u := A0) (v := A1) (a := -i.d * A1) (b := i.d * A0) (by omega) (by omega) (by omega) (by omega) (by omega) (by omega) (by omega) (by omega)
    change ∀ w', Calls Try.prog 39 _ w' fun e w'' => e = .returned (.int .i64 (Ac.inn (-i.d * A1) (i.d * A0) A0 A1)) ∧ Qw w' w'' at i1
    change ∀ w', Calls Try.prog 39 _ w' fun e w'' => e = .returned (.int .i64 (Ac.inn (-i.d * A1) (i.d * A0) (-i.d * A1) (i.d * A0))) ∧ Qw w' w'' at i2
    change ∀ w', Calls Try.prog 39 _ w' fun e w'' => e = .returned (.int .i64 (Ac.inn A0 A1 A0 A1)) ∧ Qw w' w'' at i3
    change ∀ w', Calls Try.prog 40 _ w' fun e w'' => e = .returned (.int .i64 (Ac.cr A0 A1 (-i.d * A1) (i.d * A0))) ∧ Qw w' w'' at c1
    rw [p1] at i1
    rw [p2] at i2
    generalize Ac.inn A0 A1 A0 A1 = L at *
    generalize Ac.cr A0 A1 (-i.d * A1) (i.d * A0) = R at *
    generalize -i.d * A1 = E0 at *
    generalize i.d * A0 = E1 at *
    have rb : -70368744177664 ≤ R * i.d ∧ R * i.d ≤ 70368744177664 := by rcases hd with e | e <;> rw [e] <;> omega
    obtain ⟨rb1, rb2⟩ := rb
    have I1 := Lib.hid i1
    have I2 := Lib.hid i2
    have I3 := Lib.hid i3
    have C1 := Lib.hid c1
    have LL : (L == L) = true := by simp
    clear i1 i2 i3 c1 cb hd p1 p2 b1 b2 b3 b4 b5 b6 b7 b8 p4
    go_upto_region 7 with fail
    go_upto_region 8 with (go_big_may; (first | ((with_reducible refine ld_it 5 ?_ X5.out ?_); (rfl)) | (go_at_call 36; ((with_reducible refine (TG.out _).mono ?_); rintro e w8 ⟨rfl, qq⟩; replace X5 := Lib.hid (X5.out.kept qq); replace X6 := Lib.hid (X6.out.kept qq); replace X7 := Lib.hid (X7.out.kept qq); replace QQ := Lib.hid (Qw.trans QQ.out qq); clear qq)) | ((with_reducible refine al_pt (dst := some 8) ?_); intro w9 B8 hb xx qq; have n8_5 := Lib.hid (Nat.ne_of_gt (Nat.lt_of_lt_of_le X5.out.lt hb)); have n8_6 := Lib.hid (Nat.ne_of_gt (Nat.lt_of_lt_of_le X6.out.lt hb)); have n8_7 := Lib.hid (Nat.ne_of_gt (Nat.lt_of_lt_of_le X7.out.lt hb)); have m8_5 := Lib.hid (Nat.ne_of_lt (Nat.lt_of_lt_of_le X5.out.lt hb)); have m8_6 := Lib.hid (Nat.ne_of_lt (Nat.lt_of_lt_of_le X6.out.lt hb)); have m8_7 := Lib.hid (Nat.ne_of_lt (Nat.lt_of_lt_of_le X7.out.lt hb)); have h8 := Lib.hid (Nat.le_trans QQ.out.size hb); replace X5 := Lib.hid (X5.out.kept qq); replace X6 := Lib.hid (X6.out.kept qq); replace X7 := Lib.hid (X7.out.kept qq); replace QQ := Lib.hid (Qw.trans QQ.out qq); have X8 := Lib.hid xx; clear xx qq hb) | ((with_reducible refine st_pt (x := ?_) (y := ?_) 8 25 ?_ ?_ X8.out ?_); rotate_left 2; (rfl); (rfl); intro w10 xx qf ot; replace X5 := Lib.hid (ot _ _ _ m8_5.out X5.out); replace X6 := Lib.hid (ot _ _ _ m8_6.out X6.out); replace X7 := Lib.hid (ot _ _ _ m8_7.out X7.out); replace QQ := Lib.hid (qf _ QQ.out h8.out); replace X8 := Lib.hid xx; clear xx qf ot)))
    have c8_0 := X8.out.kp0
    have c8_1 := X8.out.kp1
    have c6_0 := X6.out.kp0
    have c6_1 := X6.out.kp1
    have c5_12 := X5.out.ki12
    try simp only [List.getElem_toArray, List.getElem_cons_succ, List.getElem_cons_zero, Act.put, List.setIfInBounds_toArray, List.set_cons_zero, List.set_cons_succ]
    refine region_kept (by kernel_rfl) (by kernel_rfl) ?_
    repeat (go_big_quiet_step (first | (go_at_call 20; with_reducible exact Kept.call (AW.out _)) | (go_at_call 39; with_reducible exact Kept.call (I1.out _)) | (go_at_call 39; with_reducible exact Kept.call (I2.out _)) | (go_at_call 39; with_reducible exact Kept.call (I3.out _)) | (go_at_call 40; with_reducible exact Kept.call (C1.out _))))
    refine wpQuiet_nil ?_
    intro w11 qq
    clear c8_0 c8_1 c6_0 c6_1 c5_12
    replace X5 := Lib.hid (X5.out.kept qq)
    replace X6 := Lib.hid (X6.out.kept qq)
    replace X7 := Lib.hid (X7.out.kept qq)
    replace X8 := Lib.hid (X8.out.kept qq)
    replace QQ := Lib.hid (Qw.trans QQ.out qq)
    clear qq
    go_wp2
    go_ret
    first | exact ⟨rfl, QQ.out⟩ | exact ⟨ret_bl (by simp [*]), QQ.out⟩
  · simp only [if_true] at pl TG
    obtain ⟨p1, p2, p3, p4⟩ := pl
    obtain ⟨⟨b1, b2⟩, ⟨b3, b4⟩, ⟨b5, b6⟩, ⟨b7, b8⟩⟩ := bd
    have i1 := fun w' => vr_inner (-i.d * A3) (i.d * A2) A2 A3 (by omega) (by omega) (by omega) (by omega) (by omega) (by omega) (by omega) (by omega) w'
    have i2 := fun w' => vr_inner (-i.d * A3) (i.d * A2) (-i.d * A3) (i.d * A2) (by omega) (by omega) (by omega) (by omega) (by omega) (by omega) (by omega) (by omega) w'
    have i3 := fun w' => vr_inner A2 A3 A2 A3 (by omega) (by omega) (by omega) (by omega) (by omega) (by omega) (by omega) (by omega) w'
    have c1 := fun w' => vr_cross A2 A3 (-i.d * A3) (i.d * A2) (by omega) (by omega) (by omega) (by omega) (by omega) (by omega) (by omega) (by omega) w'
    have cb := Ac.cr_bd (u := A2) (v := A3) (a := -i.d * A3) (b := i.d * A2) (by omega) (by omega) (by omega) (by omega) (by omega) (by omega) (by omega) (by omega)
    change ∀ w', Calls Try.prog 39 _ w' fun e w'' => e = .returned (.int .i64 (Ac.inn (-i.d * A3) (i.d * A2) A2 A3)) ∧ Qw w' w'' at i1
    change ∀ w', Calls Try.prog 39 _ w' fun e w'' => e = .returned (.int .i64 (Ac.inn (-i.d * A3) (i.d * A2) (-i.d * A3) (i.d * A2))) ∧ Qw w' w'' at i2
    change ∀ w', Calls Try.prog 39 _ w' fun e w'' => e = .returned (.int .i64 (Ac.inn A2 A3 A2 A3)) ∧ Qw w' w'' at i3
    change ∀ w', Calls Try.prog 40 _ w' fun e w'' => e = .returned (.int .i64 (Ac.cr A2 A3 (-i.d * A3) (i.d * A2))) ∧ Qw w' w'' at c1
    rw [p1] at i1
    rw [p2] at i2
    generalize Ac.inn A2 A3 A2 A3 = L at *
    generalize Ac.cr A2 A3 (-i.d * A3) (i.d * A2) = R at *
    generalize -i.d * A3 = E0 at *
    generalize i.d * A2 = E1 at *
    have rb : -70368744177664 ≤ R * i.d ∧ R * i.d ≤ 70368744177664 := by rcases hd with e | e <;> rw [e] <;> omega
    obtain ⟨rb1, rb2⟩ := rb
    have I1 := Lib.hid i1
    have I2 := Lib.hid i2
    have I3 := Lib.hid i3
    have C1 := Lib.hid c1
    have LL : (L == L) = true := by simp
    clear i1 i2 i3 c1 cb hd p1 p2 b1 b2 b3 b4 b5 b6 b7 b8 p4
    go_upto_region 6 with fail
    go_upto_region 7 with (go_big_may; (first | ((with_reducible refine ld_pt 7 ?_ X7.out ?_); (rfl)) | ((with_reducible refine st_pt (x := ?_) (y := ?_) 6 22 ?_ ?_ X6.out ?_); rotate_left 2; (rfl); (rfl); intro w8 xx qf ot; replace X5 := Lib.hid (ot _ _ _ m6_5.out X5.out); replace X7 := Lib.hid (ot _ _ _ n7_6.out X7.out); replace QQ := Lib.hid (qf _ QQ.out h6.out); replace X6 := Lib.hid xx; clear xx qf ot)))
    go_upto_region 8 with (go_big_may; (first | ((with_reducible refine ld_it 5 ?_ X5.out ?_); (rfl)) | (go_at_call 36; ((with_reducible refine (TG.out _).mono ?_); rintro e w9 ⟨rfl, qq⟩; replace X5 := Lib.hid (X5.out.kept qq); replace X6 := Lib.hid (X6.out.kept qq); replace X7 := Lib.hid (X7.out.kept qq); replace QQ := Lib.hid (Qw.trans QQ.out qq); clear qq)) | ((with_reducible refine al_pt (dst := some 8) ?_); intro w10 B8 hb xx qq; have n8_5 := Lib.hid (Nat.ne_of_gt (Nat.lt_of_lt_of_le X5.out.lt hb)); have n8_6 := Lib.hid (Nat.ne_of_gt (Nat.lt_of_lt_of_le X6.out.lt hb)); have n8_7 := Lib.hid (Nat.ne_of_gt (Nat.lt_of_lt_of_le X7.out.lt hb)); have m8_5 := Lib.hid (Nat.ne_of_lt (Nat.lt_of_lt_of_le X5.out.lt hb)); have m8_6 := Lib.hid (Nat.ne_of_lt (Nat.lt_of_lt_of_le X6.out.lt hb)); have m8_7 := Lib.hid (Nat.ne_of_lt (Nat.lt_of_lt_of_le X7.out.lt hb)); have h8 := Lib.hid (Nat.le_trans QQ.out.size hb); replace X5 := Lib.hid (X5.out.kept qq); replace X6 := Lib.hid (X6.out.kept qq); replace X7 := Lib.hid (X7.out.kept qq); replace QQ := Lib.hid (Qw.trans QQ.out qq); have X8 := Lib.hid xx; clear xx qq hb) | ((with_reducible refine st_pt (x := ?_) (y := ?_) 8 25 ?_ ?_ X8.out ?_); rotate_left 2; (rfl); (rfl); intro w11 xx qf ot; replace X5 := Lib.hid (ot _ _ _ m8_5.out X5.out); replace X6 := Lib.hid (ot _ _ _ m8_6.out X6.out); replace X7 := Lib.hid (ot _ _ _ m8_7.out X7.out); replace QQ := Lib.hid (qf _ QQ.out h8.out); replace X8 := Lib.hid xx; clear xx qf ot)))
    have c8_0 := X8.out.kp0
    have c8_1 := X8.out.kp1
    have c6_0 := X6.out.kp0
    have c6_1 := X6.out.kp1
    have c5_12 := X5.out.ki12
    try simp only [List.getElem_toArray, List.getElem_cons_succ, List.getElem_cons_zero, Act.put, List.setIfInBounds_toArray, List.set_cons_zero, List.set_cons_succ]
    refine region_kept (by kernel_rfl) (by kernel_rfl) ?_
    repeat (go_big_quiet_step (first | (go_at_call 20; with_reducible exact Kept.call (AW.out _)) | (go_at_call 39; with_reducible exact Kept.call (I1.out _)) | (go_at_call 39; with_reducible exact Kept.call (I2.out _)) | (go_at_call 39; with_reducible exact Kept.call (I3.out _)) | (go_at_call 40; with_reducible exact Kept.call (C1.out _))))
    refine wpQuiet_nil ?_
    intro w12 qq
    clear c8_0 c8_1 c6_0 c6_1 c5_12
    replace X5 := Lib.hid (X5.out.kept qq)
    replace X6 := Lib.hid (X6.out.kept qq)
    replace X7 := Lib.hid (X7.out.kept qq)
    replace X8 := Lib.hid (X8.out.kept qq)
    replace QQ := Lib.hid (Qw.trans QQ.out qq)
    clear qq
    go_wp2
    go_ret
    first | exact ⟨rfl, QQ.out⟩ | exact ⟨ret_bl (by simp [*]), QQ.out⟩

/-! ### the row -/
theorem own_arcSide : ownKnob Try.prog.godebug = none := by kernel_rfl
set_option maxRecDepth 100000 in
theorem lifted_arcSide (os : Os) (started : os.Started) (H : Type) (enc : TypeId × Value → H) :
    ReturnsInHanded {} Try.checked os 12 .any (Rows.arcSideSpec.pre6 enc Try.prog Try.f12 Rows.arcSideRow.domain false) (Rows.arcSideSpec.post enc Try.prog Try.f12 false true false false) := by
  refine returnsInHanded_of_change (C := Try.checked) own_arcSide started (by kernel_rfl) Try.func12
    (ChangeSpec.witness6 (enc := enc) (C := Try.checked) false ⟨#[], #[.slice none 0 0, .bool false], []⟩ 8 (by kernel_rfl) (by kernel_rfl) (by kernel_rfl) (by kernel_rfl)) ?_
  intro W base args ds gs before hval0 hW hcnd _
  have hval : ∀ (j : Nat) t v, Try.f12.params[j]? = some t → args[j]? = some v → Value.okWide Try.prog W .any base t v := hval0
  have hW' := hW
  obtain ⟨p, q, hA0, hV, rfl, hfz, hnd⟩ := hW
  have hA : DataW.TrodAll enc Try.prog W 0 (fun _ => true) true Try.f12.params.toList args.toList ds p := hA0
  rw [Try.params12] at hA hval
  obtain ⟨v0, vs0, d0, ds0, p0, q0, hargs, rfl, rfl, h0, r0⟩ := trodAll_cons hA
  obtain ⟨v1, vs1, d1, ds1, p1, q1, rfl, rfl, rfl, h1, r1⟩ := trodAll_cons r0
  obtain ⟨rfl, rfl, rfl⟩ := trodAll_nil r1
  obtain rfl : args = #[v0, v1] := by cases args; simp_all
  obtain ⟨rfl, rfl⟩ := trodVars_none hV
  obtain ⟨u0, hu0⟩ := inM_ints (hval 0 40 v0 rfl rfl) h0
  obtain ⟨a1, rfl, rfl, rfl⟩ := open_bool Try.underlying4 (hval 1 4 v1 rfl rfl) h1
  clear hA0 hval0
  simp only [List.append_nil] at hW'
  refine (walk_arcSide v0 u0 a1 W hu0).mono fun e W' ⟨he, bel⟩ => ?_
  subst he
  exact ⟨_, rfl, _, _, _, [], _, [], hW', trodAll_mk1 (shut_bool Try.underlying4 _), (trodAll_cons_mk (outM_ints h0 bel (fun x hx => hW'.lt x (by first | exact hx | simp [hx]))) (trodAll_cons_mk (shut_bool Try.underlying4 _) trodAll_mk0)), rfl, Below.frame bel _, fun h => by cases h⟩

/-- The statement. -/
theorem arcSide_holds : Rows.ArcSideSaid :=
  OpenClaim.holds_of_wide 12 Try.f12 rfl rfl rfl rfl rfl rfl rfl ⟨rfl, rfl, rfl, rfl, rfl⟩ rfl rfl rfl rfl rfl (by kernel_rfl) Try.func12 (by kernel_rfl)
    (of_decide_eq_true (by kernel_rfl)) (by unfold Func.isWrapper; first | (rw [if_pos (by decide +kernel)]; kernel_rfl) | (rw [if_neg (by decide +kernel)]; exact ⟨rfl, rfl⟩))
    (fun os started H enc _ => lifted_arcSide os started H enc)

end Go.Proofs.Ytihmifdadikhaaa
