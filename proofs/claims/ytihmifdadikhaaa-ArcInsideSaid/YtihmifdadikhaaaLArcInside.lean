
/- ArcInside: Which directions an arc passes, and what its spokes are: as the specification says, for drawn arcs and any direction.
   Conditions: none; every input. -/
import Derived.Test.YtihmifdadikhaaaRows
import Derived.Test.YtihmifdadikhaaaGR
import Derived.Test.YtihmifdadikhaaaGI
import Derived.Test.YtihmifdadikhaaaGG
set_option linter.unusedVariables false
set_option linter.unusedSimpArgs false
namespace Go.Proofs.Ytihmifdadikhaaa
open Go.ChangeShapes Go.WideShapes Go.ChangeAt Go.RowKit

theorem Bx.kall {W : World} {b : Nat} {cs : Array Value} {t : TypeId} (h : Bx W b cs t) : ∀ w', (∃ p : Kept W, w' = p.v) → Bx w' b cs t := fun _ ⟨p, e⟩ => e ▸ h.kept p.h
theorem arcN2_arcInside {w w1 : World} {B : Nat} {v : Value} {zs : List Int} (h : TapeAt w1 B v zs 0) (q : Qw w w1) (hB : w.heap.size ≤ B) : Calls Try.prog 24 #[.pointer (some ⟨B, 0, none⟩)] w1 fun e w' => (∃ i : Ac.I, e = .returned (.agg (itc i)) ∧ Ac.Gd i) ∧ Qw w w' ∧ w1.grownBy w' (some B) :=
  (arcD B v zs w1 w1 (Tm.of h)).mono fun _ _ ⟨hf, _, g⟩ => ⟨hf, q.gb hB g, g⟩
theorem vbtwA (v l h : Int) (lh : l ≤ h) : l ≤ l + v % (h - l + 1) ∧ l + v % (h - l + 1) ≤ h := by
  have := Int.emod_nonneg v (show h - l + 1 ≠ 0 by omega)
  have := Int.emod_lt_of_pos v (show 0 < h - l + 1 by omega)
  omega
set_option maxRecDepth 100000 in
set_option maxHeartbeats 8000000 in
theorem walk_arcInside (v1 : Value) (z1 : List Int) (x : Int) (x1 : -9223372036854775808 ≤ x) (x2 : x ≤ 9223372036854775807) (y : Int) (y1 : -9223372036854775808 ≤ y) (y2 : y ≤ 9223372036854775807) (w : World) (h1 : IntsB w.heap.size w v1 z1) : Calls Try.prog 6 #[v1, .agg #[.int .i64 x, .int .i64 y]] w fun e w' => e = .returned (.bool true) ∧ Below w.heap.size w w' := by
  have AW := Lib.hid awakeA
  cases k1 : decide (z1.length ≤ 120)
  · have L1 := Lib.hid (fun (w' : World) (q : Qw w w') => lightN h1 q k1)
    clear k1 h1
    have QQ : Hid (Qw w w) := Lib.hid (Qw.refl w)
    go_enter Try.func6, Try.ntmps6
    go_upto_region 1 with (go_big_may; ((with_reducible refine box_pt (x := ?_) (y := ?_) 1 ?_ ?_); rotate_left 2; (rfl); intro w1 B3 hb xx qq; have h3 := Lib.hid (Nat.le_trans QQ.out.size hb); replace QQ := Lib.hid (Qw.trans QQ.out qq); have X3 := Lib.hid xx; clear xx qq hb))
    go_upto_region 2 with (go_big_may; (go_at_call 23; ((with_reducible refine (L1.out _ QQ.out).mono ?_); rintro e w' ⟨rfl, rfl⟩)))
    go_wp2_with (go_at_call 20; ((with_reducible refine (AW.out _).mono ?_); rintro e w2 ⟨rfl, qq⟩; replace X3 := Lib.hid (X3.out.kept qq); replace QQ := Lib.hid (Qw.trans QQ.out qq); clear qq))
    go_ret
    exact ⟨rfl, QQ.out⟩
  have L1 := Lib.hid (fun (w' : World) (q : Qw w w') => lightN h1 q k1)
  have H1 := Lib.hid h1
  clear k1 h1
  have QQ : Hid (Qw w w) := Lib.hid (Qw.refl w)
  go_enter Try.func6, Try.ntmps6
  go_upto_region 1 with (go_big_may; ((with_reducible refine box_pt (x := ?_) (y := ?_) 1 ?_ ?_); rotate_left 2; (rfl); intro w1 B3 hb xx qq; have h3 := Lib.hid (Nat.le_trans QQ.out.size hb); replace QQ := Lib.hid (Qw.trans QQ.out qq); have X3 := Lib.hid xx; clear xx qq hb))
  go_upto_region 3 with (go_big_may; (go_at_call 23; ((with_reducible refine (L1.out _ QQ.out).mono ?_); rintro e w' ⟨rfl, rfl⟩)))
  go_upto_region 4 with (go_big_may; (first | ((with_reducible refine al_it (dst := some 5) ?_); intro w2 B5 hb xx qq; have n5_3 := Lib.hid (Nat.ne_of_gt (Nat.lt_of_lt_of_le X3.out.lt hb)); have m5_3 := Lib.hid (Nat.ne_of_lt (Nat.lt_of_lt_of_le X3.out.lt hb)); have h5 := Lib.hid (Nat.le_trans QQ.out.size hb); replace X3 := Lib.hid (X3.out.kept qq); replace QQ := Lib.hid (Qw.trans QQ.out qq); have X5 := Lib.hid xx; clear xx qq hb) | ((with_reducible refine st_itO (g := ?_) 5 17 ?_ ?_ X5.out ?_); rotate_left 1; (rfl); (rfl); intro w3 xx qf ot; replace X3 := Lib.hid (ot _ _ _ m5_3.out X3.out); replace QQ := Lib.hid (qf _ QQ.out h5.out); replace X5 := Lib.hid xx; clear xx qf ot) | (go_at_call 25; ((with_reducible refine (newN H1.out QQ.out).mono ?_); rintro e wT ⟨rfl, t, qq⟩; have T1 := Lib.hid t; have hB := Lib.hid QQ.out.size; have nT := Lib.hid (Nat.ne_of_lt X3.out.lt); replace X3 := Lib.hid (X3.out.kept qq); replace QQ := Lib.hid (Qw.trans QQ.out qq); clear t qq)) | (go_at_call 24; ((with_reducible refine (arcN2_arcInside T1.out QQ.out hB.out).mono ?_); rintro e wA ⟨⟨i, rfl, gd⟩, qq, gg⟩; have GD := Lib.hid gd; replace X3 := Lib.hid (X3.out.grM gg nT.out); replace QQ := Lib.hid qq; clear qq gd gg T1 nT))))
  have g := GD.out
  have nr := g.near
  have sp := fun w' => apSpokes i nr w'
  have sr := fun w' => arSpokes i nr w'
  generalize Ac.au i = A0 at *
  generalize Ac.aw i = A1 at *
  generalize Ac.bu i = A2 at *
  generalize Ac.bw i = A3 at *
  have SP := Lib.hid sp
  have SR := Lib.hid sr
  clear sp sr g nr L1 H1 hB
  go_upto_region 5 with (go_big_may; (first | ((with_reducible refine ld_it 5 ?_ X5.out ?_); (rfl)) | (go_at_call 28; ((with_reducible refine (SP.out _).mono ?_); rintro e w4 ⟨rfl, qq⟩; replace X3 := Lib.hid (X3.out.kept qq); replace X5 := Lib.hid (X5.out.kept qq); replace QQ := Lib.hid (Qw.trans QQ.out qq); clear qq)) | ((with_reducible refine al_pt (dst := some 6) ?_); intro w5 B6 hb xx qq; have n6_3 := Lib.hid (Nat.ne_of_gt (Nat.lt_of_lt_of_le X3.out.lt hb)); have n6_5 := Lib.hid (Nat.ne_of_gt (Nat.lt_of_lt_of_le X5.out.lt hb)); have m6_3 := Lib.hid (Nat.ne_of_lt (Nat.lt_of_lt_of_le X3.out.lt hb)); have m6_5 := Lib.hid (Nat.ne_of_lt (Nat.lt_of_lt_of_le X5.out.lt hb)); have h6 := Lib.hid (Nat.le_trans QQ.out.size hb); replace X3 := Lib.hid (X3.out.kept qq); replace X5 := Lib.hid (X5.out.kept qq); replace QQ := Lib.hid (Qw.trans QQ.out qq); have X6 := Lib.hid xx; clear xx qq hb) | ((with_reducible refine al_pt (dst := some 7) ?_); intro w6 B7 hb xx qq; have n7_3 := Lib.hid (Nat.ne_of_gt (Nat.lt_of_lt_of_le X3.out.lt hb)); have n7_5 := Lib.hid (Nat.ne_of_gt (Nat.lt_of_lt_of_le X5.out.lt hb)); have n7_6 := Lib.hid (Nat.ne_of_gt (Nat.lt_of_lt_of_le X6.out.lt hb)); have m7_3 := Lib.hid (Nat.ne_of_lt (Nat.lt_of_lt_of_le X3.out.lt hb)); have m7_5 := Lib.hid (Nat.ne_of_lt (Nat.lt_of_lt_of_le X5.out.lt hb)); have m7_6 := Lib.hid (Nat.ne_of_lt (Nat.lt_of_lt_of_le X6.out.lt hb)); have h7 := Lib.hid (Nat.le_trans QQ.out.size hb); replace X3 := Lib.hid (X3.out.kept qq); replace X5 := Lib.hid (X5.out.kept qq); replace X6 := Lib.hid (X6.out.kept qq); replace QQ := Lib.hid (Qw.trans QQ.out qq); have X7 := Lib.hid xx; clear xx qq hb) | ((with_reducible refine st_pt (x := ?_) (y := ?_) 6 21 ?_ ?_ X6.out ?_); rotate_left 2; (rfl); (rfl); intro w7 xx qf ot; replace X3 := Lib.hid (ot _ _ _ m6_3.out X3.out); replace X5 := Lib.hid (ot _ _ _ m6_5.out X5.out); replace X7 := Lib.hid (ot _ _ _ n7_6.out X7.out); replace QQ := Lib.hid (qf _ QQ.out h6.out); replace X6 := Lib.hid xx; clear xx qf ot) | ((with_reducible refine st_pt (x := ?_) (y := ?_) 7 22 ?_ ?_ X7.out ?_); rotate_left 2; (rfl); (rfl); intro w8 xx qf ot; replace X3 := Lib.hid (ot _ _ _ m7_3.out X3.out); replace X5 := Lib.hid (ot _ _ _ m7_5.out X5.out); replace X6 := Lib.hid (ot _ _ _ m7_6.out X6.out); replace QQ := Lib.hid (qf _ QQ.out h7.out); replace X7 := Lib.hid xx; clear xx qf ot)))
  go_upto_region 6 with (go_big_may; (first | ((with_reducible refine ld_it 5 ?_ X5.out ?_); (rfl)) | (go_at_call 29; ((with_reducible refine (SR.out _).mono ?_); rintro e w9 ⟨rfl, qq⟩; replace X3 := Lib.hid (X3.out.kept qq); replace X5 := Lib.hid (X5.out.kept qq); replace X6 := Lib.hid (X6.out.kept qq); replace X7 := Lib.hid (X7.out.kept qq); replace QQ := Lib.hid (Qw.trans QQ.out qq); clear qq)) | ((with_reducible refine al_pt (dst := some 8) ?_); intro w10 B8 hb xx qq; have n8_3 := Lib.hid (Nat.ne_of_gt (Nat.lt_of_lt_of_le X3.out.lt hb)); have n8_5 := Lib.hid (Nat.ne_of_gt (Nat.lt_of_lt_of_le X5.out.lt hb)); have n8_6 := Lib.hid (Nat.ne_of_gt (Nat.lt_of_lt_of_le X6.out.lt hb)); have n8_7 := Lib.hid (Nat.ne_of_gt (Nat.lt_of_lt_of_le X7.out.lt hb)); have m8_3 := Lib.hid (Nat.ne_of_lt (Nat.lt_of_lt_of_le X3.out.lt hb)); have m8_5 := Lib.hid (Nat.ne_of_lt (Nat.lt_of_lt_of_le X5.out.lt hb)); have m8_6 := Lib.hid (Nat.ne_of_lt (Nat.lt_of_lt_of_le X6.out.lt hb)); have m8_7 := Lib.hid (Nat.ne_of_lt (Nat.lt_of_lt_of_le X7.out.lt hb)); have h8 := Lib.hid (Nat.le_trans QQ.out.size hb); replace X3 := Lib.hid (X3.out.kept qq); replace X5 := Lib.hid (X5.out.kept qq); replace X6 := Lib.hid (X6.out.kept qq); replace X7 := Lib.hid (X7.out.kept qq); replace QQ := Lib.hid (Qw.trans QQ.out qq); have X8 := Lib.hid xx; clear xx qq hb) | ((with_reducible refine al_pt (dst := some 9) ?_); intro w11 B9 hb xx qq; have n9_3 := Lib.hid (Nat.ne_of_gt (Nat.lt_of_lt_of_le X3.out.lt hb)); have n9_5 := Lib.hid (Nat.ne_of_gt (Nat.lt_of_lt_of_le X5.out.lt hb)); have n9_6 := Lib.hid (Nat.ne_of_gt (Nat.lt_of_lt_of_le X6.out.lt hb)); have n9_7 := Lib.hid (Nat.ne_of_gt (Nat.lt_of_lt_of_le X7.out.lt hb)); have n9_8 := Lib.hid (Nat.ne_of_gt (Nat.lt_of_lt_of_le X8.out.lt hb)); have m9_3 := Lib.hid (Nat.ne_of_lt (Nat.lt_of_lt_of_le X3.out.lt hb)); have m9_5 := Lib.hid (Nat.ne_of_lt (Nat.lt_of_lt_of_le X5.out.lt hb)); have m9_6 := Lib.hid (Nat.ne_of_lt (Nat.lt_of_lt_of_le X6.out.lt hb)); have m9_7 := Lib.hid (Nat.ne_of_lt (Nat.lt_of_lt_of_le X7.out.lt hb)); have m9_8 := Lib.hid (Nat.ne_of_lt (Nat.lt_of_lt_of_le X8.out.lt hb)); have h9 := Lib.hid (Nat.le_trans QQ.out.size hb); replace X3 := Lib.hid (X3.out.kept qq); replace X5 := Lib.hid (X5.out.kept qq); replace X6 := Lib.hid (X6.out.kept qq); replace X7 := Lib.hid (X7.out.kept qq); replace X8 := Lib.hid (X8.out.kept qq); replace QQ := Lib.hid (Qw.trans QQ.out qq); have X9 := Lib.hid xx; clear xx qq hb) | ((with_reducible refine st_pt (x := ?_) (y := ?_) 8 26 ?_ ?_ X8.out ?_); rotate_left 2; (rfl); (rfl); intro w12 xx qf ot; replace X3 := Lib.hid (ot _ _ _ m8_3.out X3.out); replace X5 := Lib.hid (ot _ _ _ m8_5.out X5.out); replace X6 := Lib.hid (ot _ _ _ m8_6.out X6.out); replace X7 := Lib.hid (ot _ _ _ m8_7.out X7.out); replace X9 := Lib.hid (ot _ _ _ n9_8.out X9.out); replace QQ := Lib.hid (qf _ QQ.out h8.out); replace X8 := Lib.hid xx; clear xx qf ot) | ((with_reducible refine st_pt (x := ?_) (y := ?_) 9 27 ?_ ?_ X9.out ?_); rotate_left 2; (rfl); (rfl); intro w13 xx qf ot; replace X3 := Lib.hid (ot _ _ _ m9_3.out X3.out); replace X5 := Lib.hid (ot _ _ _ m9_5.out X5.out); replace X6 := Lib.hid (ot _ _ _ m9_6.out X6.out); replace X7 := Lib.hid (ot _ _ _ m9_7.out X7.out); replace X8 := Lib.hid (ot _ _ _ m9_8.out X8.out); replace QQ := Lib.hid (qf _ QQ.out h9.out); replace X9 := Lib.hid xx; clear xx qf ot)))
  have cb0 := fun w => sameQ (betweenW x (-4194304) 4194304 x1 x2 (by decide) (by decide) (by decide) (by decide) w)
  have cb1 := fun w => sameQ (betweenW y (-4194304) 4194304 y1 y2 (by decide) (by decide) (by decide) (by decide) w)
  have mb0 := vbtwA x (-4194304) 4194304 (by decide)
  have mb1 := vbtwA y (-4194304) 4194304 (by decide)
  generalize -4194304 + x % (4194304 - -4194304 + 1) = m0 at *
  generalize -4194304 + y % (4194304 - -4194304 + 1) = m1 at *
  have CB0 := Lib.hid cb0
  have CB1 := Lib.hid cb1
  clear cb0 cb1
  have c3_0 := X3.out.kp0
  have c3_1 := X3.out.kp1
  try simp only [List.getElem_toArray, List.getElem_cons_succ, List.getElem_cons_zero, Act.put, List.setIfInBounds_toArray, List.set_cons_zero, List.set_cons_succ]
  refine region_kept_tail 7 (by kernel_rfl) (by kernel_rfl) ?_
  simp only [List.take_succ_cons, List.take_zero, List.drop_succ_cons, List.drop_zero]
  repeat (go_big_quiet_step (first | (go_at_call 17; with_reducible exact Kept.call (CB0.out _)) | (go_at_call 17; with_reducible exact Kept.call (CB1.out _))))
  refine wpQuiet_nil ?_
  intro w14 qq
  clear c3_0 c3_1
  replace X3 := Lib.hid (X3.out.kept qq)
  replace X5 := Lib.hid (X5.out.kept qq)
  replace X6 := Lib.hid (X6.out.kept qq)
  replace X7 := Lib.hid (X7.out.kept qq)
  replace X8 := Lib.hid (X8.out.kept qq)
  replace X9 := Lib.hid (X9.out.kept qq)
  replace QQ := Lib.hid (Qw.trans QQ.out qq)
  clear qq
  go_upto_region 7 with (go_big_may; ((with_reducible refine st_pt (x := ?_) (y := ?_) 3 34 ?_ ?_ X3.out ?_); rotate_left 2; (rfl); (rfl); intro w15 xx qf ot; replace X5 := Lib.hid (ot _ _ _ n5_3.out X5.out); replace X6 := Lib.hid (ot _ _ _ n6_3.out X6.out); replace X7 := Lib.hid (ot _ _ _ n7_3.out X7.out); replace X8 := Lib.hid (ot _ _ _ n8_3.out X8.out); replace X9 := Lib.hid (ot _ _ _ n9_3.out X9.out); replace QQ := Lib.hid (qf _ QQ.out h3.out); replace X3 := Lib.hid xx; clear xx qf ot))
  obtain ⟨⟨ma, mb⟩, mc, md⟩ := And.intro mb0 mb1
  clear CB0 CB1 mb0 mb1
  have cd0 := fun w => sameQ (betweenW m0 (-2) 2 (by omega) (by omega) (by decide) (by decide) (by decide) (by decide) w)
  have cd1 := fun w => sameQ (betweenW m1 (-2) 2 (by omega) (by omega) (by decide) (by decide) (by decide) (by decide) w)
  have nb0 := vbtwA m0 (-2) 2 (by decide)
  have nb1 := vbtwA m1 (-2) 2 (by decide)
  generalize -2 + m0 % (2 - -2 + 1) = q0 at *
  generalize -2 + m1 % (2 - -2 + 1) = q1 at *
  have CD0 := Lib.hid cd0
  have CD1 := Lib.hid cd1
  clear cd0 cd1
  obtain ⟨⟨na, nb⟩, nc, nd⟩ := And.intro nb0 nb1
  clear nb0 nb1
  obtain ⟨pz, hpz, EP⟩ := eq_pt m0 m1
  obtain ⟨qz, hqz, EQ⟩ := eq_pt q0 q1
  try simp only [List.getElem_toArray, List.getElem_cons_succ, List.getElem_cons_zero, Act.put, List.setIfInBounds_toArray, List.set_cons_zero, List.set_cons_succ]
  refine wp_region_M (fun wS => Qw w15 wS) 8 (by kernel_rfl) ?_
  have hSS : Qw w15 (World.drew w15) := qw_drew1 w15
  generalize World.drew w15 = wd at *
  refine wpAnyM_take (i := 0) (v := ?_) rfl (by kernel_rfl) (fun _ _ _ h => h) (Or.inl ⟨by rfl, ?_⟩) hSS ?_
  rotate_left 1
  · intro wS hwS
    go_simp
    try with_reducible rfl
  simp only [List.getElem_toArray, List.getElem_cons_succ, List.getElem_cons_zero, Act.put, List.setIfInBounds_toArray, List.set_cons_zero, List.set_cons_succ]
  refine wpAnyM_take (i := 1) (v := ?_) rfl (by kernel_rfl) (fun _ _ _ h => h) (Or.inl ⟨by rfl, ?_⟩) hSS ?_
  rotate_left 1
  · intro wS hwS
    have y0 := (X3.out.kept hwS).p0; go_simp
    try with_reducible rfl
  simp only [List.getElem_toArray, List.getElem_cons_succ, List.getElem_cons_zero, Act.put, List.setIfInBounds_toArray, List.set_cons_zero, List.set_cons_succ]
  refine wpAnyM_take (i := 3) (v := ?_) rfl (by kernel_rfl) (fun _ _ _ h => h) (Or.inl ⟨by rfl, ?_⟩) hSS ?_
  rotate_left 1
  · intro wS hwS
    go_simp
    try with_reducible rfl
  simp only [List.getElem_toArray, List.getElem_cons_succ, List.getElem_cons_zero, Act.put, List.setIfInBounds_toArray, List.set_cons_zero, List.set_cons_succ]
  refine wpAnyM_take (i := 4) (v := ?_) rfl (by kernel_rfl) (fun _ _ _ h => h) (Or.inl ⟨by rfl, ?_⟩) hSS ?_
  rotate_left 1
  · intro wS hwS
    have y1 := (X3.out.kept hwS).p1; go_simp
    try with_reducible rfl
  simp only [List.getElem_toArray, List.getElem_cons_succ, List.getElem_cons_zero, Act.put, List.setIfInBounds_toArray, List.set_cons_zero, List.set_cons_succ]
  refine wpAnyM_two (i := 2) (j := 7) rfl rfl (by kernel_rfl) rfl rfl (fun K hK => ?_) (fun K hK => ?_)
  · go_simp
    with_reducible refine (CD0.out _).mono ?_
    rintro e wE ⟨rfl, qq⟩
    have m2 := Qw.trans hSS qq
    refine hK _ _ (fun _ => m2) ?_
    clear hK K hSS qq
    have hSS := m2
    clear m2
    try simp only [List.getElem_toArray, List.getElem_cons_succ, List.getElem_cons_zero, Act.put, List.setIfInBounds_toArray, List.set_cons_zero, List.set_cons_succ]
    refine wpAnyM_two (i := 5) (j := 7) rfl rfl (by kernel_rfl) rfl rfl (fun K hK => ?_) (fun K hK => ?_)
    · go_simp
      with_reducible refine (CD1.out _).mono ?_
      rintro e wE ⟨rfl, qq⟩
      have m2 := Qw.trans hSS qq
      refine hK _ _ (fun _ => m2) ?_
      clear hK K hSS qq
      have hSS := m2
      clear m2
      try simp only [List.getElem_toArray, List.getElem_cons_succ, List.getElem_cons_zero, Act.put, List.setIfInBounds_toArray, List.set_cons_zero, List.set_cons_succ]
      refine wpAnyM_take (i := 6) (v := ?_) rfl (by kernel_rfl) (fun _ _ _ h => h) (Or.inl ⟨by rfl, ?_⟩) hSS ?_
      rotate_left 1
      · intro wS hwS
        go_simp
        try with_reducible rfl
      simp only [List.getElem_toArray, List.getElem_cons_succ, List.getElem_cons_zero, Act.put, List.setIfInBounds_toArray, List.set_cons_zero, List.set_cons_succ]
      refine wpAnyM_one (i := 7) rfl (by kernel_rfl) rfl (fun K hK => ?_)
      go_simp
      refine hK _ _ (fun _ => Qw.al hSS _) ?_
      obtain ⟨wn, B10, en, eN, hb, m2, xx, mm⟩ := al_namedA hSS #[.int .i64 0, .int .i64 0] 32
      have g10 := Lib.hid hb
      have X10 := Lib.hid xx
      rw [en, eN]
      clear hK K hSS en eN mm xx hb
      have hSS := m2
      clear m2
      try simp only [List.getElem_toArray, List.getElem_cons_succ, List.getElem_cons_zero, Act.put, List.setIfInBounds_toArray, List.set_cons_zero, List.set_cons_succ]
      refine wpAnyM_one (i := 8) rfl (by kernel_rfl) rfl (fun K hK => ?_)
      have z0 := X10.out.p0
      have y0 := X10.out.free 0
      have z1 := X10.out.p1
      have y1 := X10.out.free 1
      go_simp
      have hZ := X10.out.st2 (.int .i64 q0) (.int .i64 q1)
      have m2 := Qw.stA2 hSS g10.out (.int .i64 q0) (.int .i64 q1)
      replace X10 := Lib.hid hZ
      refine hK _ _ (fun h => absurd h (by decide)) ?_
      clear hK K hSS hZ z0 y0 z1 y1
      have hSS := m2
      clear m2
      try simp only [List.getElem_toArray, List.getElem_cons_succ, List.getElem_cons_zero, Act.put, List.setIfInBounds_toArray, List.set_cons_zero, List.set_cons_succ]
      refine wpAnyM_done (by kernel_rfl) ?_ _
      have n10_3 := Lib.hid (Nat.ne_of_gt (Nat.lt_of_lt_of_le X3.out.lt g10.out))
      have m10_3 := Lib.hid (Nat.ne_of_lt (Nat.lt_of_lt_of_le X3.out.lt g10.out))
      have n10_5 := Lib.hid (Nat.ne_of_gt (Nat.lt_of_lt_of_le X5.out.lt g10.out))
      have m10_5 := Lib.hid (Nat.ne_of_lt (Nat.lt_of_lt_of_le X5.out.lt g10.out))
      have n10_6 := Lib.hid (Nat.ne_of_gt (Nat.lt_of_lt_of_le X6.out.lt g10.out))
      have m10_6 := Lib.hid (Nat.ne_of_lt (Nat.lt_of_lt_of_le X6.out.lt g10.out))
      have n10_7 := Lib.hid (Nat.ne_of_gt (Nat.lt_of_lt_of_le X7.out.lt g10.out))
      have m10_7 := Lib.hid (Nat.ne_of_lt (Nat.lt_of_lt_of_le X7.out.lt g10.out))
      have n10_8 := Lib.hid (Nat.ne_of_gt (Nat.lt_of_lt_of_le X8.out.lt g10.out))
      have m10_8 := Lib.hid (Nat.ne_of_lt (Nat.lt_of_lt_of_le X8.out.lt g10.out))
      have n10_9 := Lib.hid (Nat.ne_of_gt (Nat.lt_of_lt_of_le X9.out.lt g10.out))
      have m10_9 := Lib.hid (Nat.ne_of_lt (Nat.lt_of_lt_of_le X9.out.lt g10.out))
      replace X3 := Lib.hid (X3.out.kept hSS)
      replace X5 := Lib.hid (X5.out.kept hSS)
      replace X6 := Lib.hid (X6.out.kept hSS)
      replace X7 := Lib.hid (X7.out.kept hSS)
      replace X8 := Lib.hid (X8.out.kept hSS)
      replace X9 := Lib.hid (X9.out.kept hSS)
      have h10 := Lib.hid (Nat.le_trans QQ.out.size g10.out)
      replace QQ := Lib.hid (Qw.trans QQ.out hSS)
      clear hSS
      cases pz
      · cases qz
        · have hp : ¬ (m0 = 0 ∧ m1 = 0) := fun h => by have := hpz.2 h; cases this
          have hq : ¬ (q0 = 0 ∧ q1 = 0) := fun h => by have := hqz.2 h; cases this
          have v1 := fun w' => apInside i GD.out m0 m1 (by omega) (by omega) (by omega) (by omega) hp w'
          have v2 := fun w' => arInside i GD.out.near GD.out.d m0 m1 (by omega) (by omega) (by omega) (by omega) w'
          have v3 := fun w' => apInside i GD.out q0 q1 (by omega) (by omega) (by omega) (by omega) hq w'
          have v4 := fun w' => arInside i GD.out.near GD.out.d q0 q1 (by omega) (by omega) (by omega) (by omega) w'
          generalize Ac.ins i m0 m1 = R1 at *
          generalize Ac.ins i q0 q1 = R2 at *
          have V1 := Lib.hid v1
          have V2 := Lib.hid v2
          have V3 := Lib.hid v3
          have V4 := Lib.hid v4
          clear v1 v2 v3 v4 hp hq hpz hqz
          have c10_0 := X10.out.p0
          have c10_1 := X10.out.p1
          go_upto_region 10 with (go_big_may; ((with_reducible refine ld_pt 3 ?_ X3.out ?_); (rfl)))
          clear c10_0 c10_1
          have e0 : (A0 == A0) = true := by simp
          have e1 : (A1 == A1) = true := by simp
          have e2 : (A2 == A2) = true := by simp
          have e3 : (A3 == A3) = true := by simp
          have e4 : (R1 == R1) = true := by simp
          have e5 : (R2 == R2) = true := by simp
          have c6_0 := X6.out.kp0
          have c6_1 := X6.out.kp1
          have c8_0 := X8.out.kp0
          have c8_1 := X8.out.kp1
          have c7_0 := X7.out.kp0
          have c7_1 := X7.out.kp1
          have c9_0 := X9.out.kp0
          have c9_1 := X9.out.kp1
          have c3_0 := X3.out.kp0
          have c3_1 := X3.out.kp1
          have c10_0 := X10.out.kp0
          have c10_1 := X10.out.kp1
          have IX5 := Lib.hid X5.out.kall
          try simp only [List.getElem_toArray, List.getElem_cons_succ, List.getElem_cons_zero, Act.put, List.setIfInBounds_toArray, List.set_cons_zero, List.set_cons_succ]
          refine region_kept (by kernel_rfl) (by kernel_rfl) ?_
          repeat (first | ((with_reducible refine q_it 5 ?_ ?_ IX5.out ?_); (first | rfl | (simp [Region.wanted, yielded]; done)); (rfl); try simp only [List.getElem_toArray, List.getElem_cons_succ, List.getElem_cons_zero, Act.put, List.setIfInBounds_toArray, List.set_cons_zero, List.set_cons_succ]) | go_big_quiet_step (first | (go_at_call 20; with_reducible exact Kept.call (AW.out _)) | (go_at_call 30; with_reducible exact Kept.call (V1.out _)) | (go_at_call 31; with_reducible exact Kept.call (V2.out _)) | (go_at_call 30; with_reducible exact Kept.call (V3.out _)) | (go_at_call 31; with_reducible exact Kept.call (V4.out _))))
          refine wpQuiet_nil ?_
          intro w16 qq
          clear c6_0 c6_1 c8_0 c8_1 c7_0 c7_1 c9_0 c9_1 c3_0 c3_1 c10_0 c10_1 IX5
          replace X3 := Lib.hid (X3.out.kept qq)
          replace X5 := Lib.hid (X5.out.kept qq)
          replace X6 := Lib.hid (X6.out.kept qq)
          replace X7 := Lib.hid (X7.out.kept qq)
          replace X8 := Lib.hid (X8.out.kept qq)
          replace X9 := Lib.hid (X9.out.kept qq)
          replace X10 := Lib.hid (X10.out.kept qq)
          replace QQ := Lib.hid (Qw.trans QQ.out qq)
          clear qq
          go_wp2
          go_ret
          first | exact ⟨rfl, QQ.out⟩ | exact ⟨ret_bl (by simp [*]), QQ.out⟩
        · clear hpz hqz
          have c10_0 := X10.out.p0
          have c10_1 := X10.out.p1
          go_upto_region 9 with (go_big_may; ((with_reducible refine ld_pt 3 ?_ X3.out ?_); (rfl)))
          clear c10_0 c10_1
          go_wp2_with (go_at_call 20; ((with_reducible refine (AW.out _).mono ?_); rintro e w16 ⟨rfl, qq⟩; replace X3 := Lib.hid (X3.out.kept qq); replace X5 := Lib.hid (X5.out.kept qq); replace X6 := Lib.hid (X6.out.kept qq); replace X7 := Lib.hid (X7.out.kept qq); replace X8 := Lib.hid (X8.out.kept qq); replace X9 := Lib.hid (X9.out.kept qq); replace X10 := Lib.hid (X10.out.kept qq); replace QQ := Lib.hid (Qw.trans QQ.out qq); clear qq))
          go_ret
          exact ⟨rfl, QQ.out⟩
      · clear hpz hqz
        have c10_0 := X10.out.p0
        have c10_1 := X10.out.p1
        go_upto_region 9 with (go_big_may; ((with_reducible refine ld_pt 3 ?_ X3.out ?_); (rfl)))
        clear c10_0 c10_1
        go_wp2_with (go_at_call 20; ((with_reducible refine (AW.out _).mono ?_); rintro e w16 ⟨rfl, qq⟩; replace X3 := Lib.hid (X3.out.kept qq); replace X5 := Lib.hid (X5.out.kept qq); replace X6 := Lib.hid (X6.out.kept qq); replace X7 := Lib.hid (X7.out.kept qq); replace X8 := Lib.hid (X8.out.kept qq); replace X9 := Lib.hid (X9.out.kept qq); replace X10 := Lib.hid (X10.out.kept qq); replace QQ := Lib.hid (Qw.trans QQ.out qq); clear qq))
        go_ret
        exact ⟨rfl, QQ.out⟩
    · go_simp
      refine hK _ _ (fun _ => Qw.al hSS _) ?_
      obtain ⟨wn, B10, en, eN, hb, m2, xx, mm⟩ := al_namedA hSS #[.int .i64 0, .int .i64 0] 32
      have g10 := Lib.hid hb
      have X10 := Lib.hid xx
      rw [en, eN]
      clear hK K hSS en eN mm xx hb
      have hSS := m2
      clear m2
      try simp only [List.getElem_toArray, List.getElem_cons_succ, List.getElem_cons_zero, Act.put, List.setIfInBounds_toArray, List.set_cons_zero, List.set_cons_succ]
      refine wpAnyM_one (i := 5) rfl (by kernel_rfl) rfl (fun K hK => ?_)
      go_simp
      with_reducible refine (CD1.out _).mono ?_
      rintro e wE ⟨rfl, qq⟩
      replace X10 := Lib.hid (X10.out.kept qq)
      have m2 := Qw.trans hSS qq
      refine hK _ _ (fun _ => m2) ?_
      clear hK K hSS qq
      have hSS := m2
      clear m2
      try simp only [List.getElem_toArray, List.getElem_cons_succ, List.getElem_cons_zero, Act.put, List.setIfInBounds_toArray, List.set_cons_zero, List.set_cons_succ]
      refine wpAnyM_take (i := 6) (v := ?_) rfl (by kernel_rfl) (fun _ _ _ h => h) (Or.inl ⟨by rfl, ?_⟩) hSS ?_
      rotate_left 1
      · intro wS hwS
        go_simp
        try with_reducible rfl
      simp only [List.getElem_toArray, List.getElem_cons_succ, List.getElem_cons_zero, Act.put, List.setIfInBounds_toArray, List.set_cons_zero, List.set_cons_succ]
      refine wpAnyM_one (i := 8) rfl (by kernel_rfl) rfl (fun K hK => ?_)
      have z0 := X10.out.p0
      have y0 := X10.out.free 0
      have z1 := X10.out.p1
      have y1 := X10.out.free 1
      go_simp
      have hZ := X10.out.st2 (.int .i64 q0) (.int .i64 q1)
      have m2 := Qw.stA2 hSS g10.out (.int .i64 q0) (.int .i64 q1)
      replace X10 := Lib.hid hZ
      refine hK _ _ (fun h => absurd h (by decide)) ?_
      clear hK K hSS hZ z0 y0 z1 y1
      have hSS := m2
      clear m2
      try simp only [List.getElem_toArray, List.getElem_cons_succ, List.getElem_cons_zero, Act.put, List.setIfInBounds_toArray, List.set_cons_zero, List.set_cons_succ]
      refine wpAnyM_done (by kernel_rfl) ?_ _
      have n10_3 := Lib.hid (Nat.ne_of_gt (Nat.lt_of_lt_of_le X3.out.lt g10.out))
      have m10_3 := Lib.hid (Nat.ne_of_lt (Nat.lt_of_lt_of_le X3.out.lt g10.out))
      have n10_5 := Lib.hid (Nat.ne_of_gt (Nat.lt_of_lt_of_le X5.out.lt g10.out))
      have m10_5 := Lib.hid (Nat.ne_of_lt (Nat.lt_of_lt_of_le X5.out.lt g10.out))
      have n10_6 := Lib.hid (Nat.ne_of_gt (Nat.lt_of_lt_of_le X6.out.lt g10.out))
      have m10_6 := Lib.hid (Nat.ne_of_lt (Nat.lt_of_lt_of_le X6.out.lt g10.out))
      have n10_7 := Lib.hid (Nat.ne_of_gt (Nat.lt_of_lt_of_le X7.out.lt g10.out))
      have m10_7 := Lib.hid (Nat.ne_of_lt (Nat.lt_of_lt_of_le X7.out.lt g10.out))
      have n10_8 := Lib.hid (Nat.ne_of_gt (Nat.lt_of_lt_of_le X8.out.lt g10.out))
      have m10_8 := Lib.hid (Nat.ne_of_lt (Nat.lt_of_lt_of_le X8.out.lt g10.out))
      have n10_9 := Lib.hid (Nat.ne_of_gt (Nat.lt_of_lt_of_le X9.out.lt g10.out))
      have m10_9 := Lib.hid (Nat.ne_of_lt (Nat.lt_of_lt_of_le X9.out.lt g10.out))
      replace X3 := Lib.hid (X3.out.kept hSS)
      replace X5 := Lib.hid (X5.out.kept hSS)
      replace X6 := Lib.hid (X6.out.kept hSS)
      replace X7 := Lib.hid (X7.out.kept hSS)
      replace X8 := Lib.hid (X8.out.kept hSS)
      replace X9 := Lib.hid (X9.out.kept hSS)
      have h10 := Lib.hid (Nat.le_trans QQ.out.size g10.out)
      replace QQ := Lib.hid (Qw.trans QQ.out hSS)
      clear hSS
      cases pz
      · cases qz
        · have hp : ¬ (m0 = 0 ∧ m1 = 0) := fun h => by have := hpz.2 h; cases this
          have hq : ¬ (q0 = 0 ∧ q1 = 0) := fun h => by have := hqz.2 h; cases this
          have v1 := fun w' => apInside i GD.out m0 m1 (by omega) (by omega) (by omega) (by omega) hp w'
          have v2 := fun w' => arInside i GD.out.near GD.out.d m0 m1 (by omega) (by omega) (by omega) (by omega) w'
          have v3 := fun w' => apInside i GD.out q0 q1 (by omega) (by omega) (by omega) (by omega) hq w'
          have v4 := fun w' => arInside i GD.out.near GD.out.d q0 q1 (by omega) (by omega) (by omega) (by omega) w'
          generalize Ac.ins i m0 m1 = R1 at *
          generalize Ac.ins i q0 q1 = R2 at *
          have V1 := Lib.hid v1
          have V2 := Lib.hid v2
          have V3 := Lib.hid v3
          have V4 := Lib.hid v4
          clear v1 v2 v3 v4 hp hq hpz hqz
          have c10_0 := X10.out.p0
          have c10_1 := X10.out.p1
          go_upto_region 10 with (go_big_may; ((with_reducible refine ld_pt 3 ?_ X3.out ?_); (rfl)))
          clear c10_0 c10_1
          have e0 : (A0 == A0) = true := by simp
          have e1 : (A1 == A1) = true := by simp
          have e2 : (A2 == A2) = true := by simp
          have e3 : (A3 == A3) = true := by simp
          have e4 : (R1 == R1) = true := by simp
          have e5 : (R2 == R2) = true := by simp
          have c6_0 := X6.out.kp0
          have c6_1 := X6.out.kp1
          have c8_0 := X8.out.kp0
          have c8_1 := X8.out.kp1
          have c7_0 := X7.out.kp0
          have c7_1 := X7.out.kp1
          have c9_0 := X9.out.kp0
          have c9_1 := X9.out.kp1
          have c3_0 := X3.out.kp0
          have c3_1 := X3.out.kp1
          have c10_0 := X10.out.kp0
          have c10_1 := X10.out.kp1
          have IX5 := Lib.hid X5.out.kall
          try simp only [List.getElem_toArray, List.getElem_cons_succ, List.getElem_cons_zero, Act.put, List.setIfInBounds_toArray, List.set_cons_zero, List.set_cons_succ]
          refine region_kept (by kernel_rfl) (by kernel_rfl) ?_
          repeat (first | ((with_reducible refine q_it 5 ?_ ?_ IX5.out ?_); (first | rfl | (simp [Region.wanted, yielded]; done)); (rfl); try simp only [List.getElem_toArray, List.getElem_cons_succ, List.getElem_cons_zero, Act.put, List.setIfInBounds_toArray, List.set_cons_zero, List.set_cons_succ]) | go_big_quiet_step (first | (go_at_call 20; with_reducible exact Kept.call (AW.out _)) | (go_at_call 30; with_reducible exact Kept.call (V1.out _)) | (go_at_call 31; with_reducible exact Kept.call (V2.out _)) | (go_at_call 30; with_reducible exact Kept.call (V3.out _)) | (go_at_call 31; with_reducible exact Kept.call (V4.out _))))
          refine wpQuiet_nil ?_
          intro w16 qq
          clear c6_0 c6_1 c8_0 c8_1 c7_0 c7_1 c9_0 c9_1 c3_0 c3_1 c10_0 c10_1 IX5
          replace X3 := Lib.hid (X3.out.kept qq)
          replace X5 := Lib.hid (X5.out.kept qq)
          replace X6 := Lib.hid (X6.out.kept qq)
          replace X7 := Lib.hid (X7.out.kept qq)
          replace X8 := Lib.hid (X8.out.kept qq)
          replace X9 := Lib.hid (X9.out.kept qq)
          replace X10 := Lib.hid (X10.out.kept qq)
          replace QQ := Lib.hid (Qw.trans QQ.out qq)
          clear qq
          go_wp2
          go_ret
          first | exact ⟨rfl, QQ.out⟩ | exact ⟨ret_bl (by simp [*]), QQ.out⟩
        · clear hpz hqz
          have c10_0 := X10.out.p0
          have c10_1 := X10.out.p1
          go_upto_region 9 with (go_big_may; ((with_reducible refine ld_pt 3 ?_ X3.out ?_); (rfl)))
          clear c10_0 c10_1
          go_wp2_with (go_at_call 20; ((with_reducible refine (AW.out _).mono ?_); rintro e w16 ⟨rfl, qq⟩; replace X3 := Lib.hid (X3.out.kept qq); replace X5 := Lib.hid (X5.out.kept qq); replace X6 := Lib.hid (X6.out.kept qq); replace X7 := Lib.hid (X7.out.kept qq); replace X8 := Lib.hid (X8.out.kept qq); replace X9 := Lib.hid (X9.out.kept qq); replace X10 := Lib.hid (X10.out.kept qq); replace QQ := Lib.hid (Qw.trans QQ.out qq); clear qq))
          go_ret
          exact ⟨rfl, QQ.out⟩
      · clear hpz hqz
        have c10_0 := X10.out.p0
        have c10_1 := X10.out.p1
        go_upto_region 9 with (go_big_may; ((with_reducible refine ld_pt 3 ?_ X3.out ?_); (rfl)))
        clear c10_0 c10_1
        go_wp2_with (go_at_call 20; ((with_reducible refine (AW.out _).mono ?_); rintro e w16 ⟨rfl, qq⟩; replace X3 := Lib.hid (X3.out.kept qq); replace X5 := Lib.hid (X5.out.kept qq); replace X6 := Lib.hid (X6.out.kept qq); replace X7 := Lib.hid (X7.out.kept qq); replace X8 := Lib.hid (X8.out.kept qq); replace X9 := Lib.hid (X9.out.kept qq); replace X10 := Lib.hid (X10.out.kept qq); replace QQ := Lib.hid (Qw.trans QQ.out qq); clear qq))
        go_ret
        exact ⟨rfl, QQ.out⟩
  · go_simp
    refine hK _ _ (fun _ => Qw.al hSS _) ?_
    obtain ⟨wn, B10, en, eN, hb, m2, xx, mm⟩ := al_namedA hSS #[.int .i64 0, .int .i64 0] 32
    have g10 := Lib.hid hb
    have X10 := Lib.hid xx
    rw [en, eN]
    clear hK K hSS en eN mm xx hb
    have hSS := m2
    clear m2
    try simp only [List.getElem_toArray, List.getElem_cons_succ, List.getElem_cons_zero, Act.put, List.setIfInBounds_toArray, List.set_cons_zero, List.set_cons_succ]
    refine wpAnyM_one (i := 2) rfl (by kernel_rfl) rfl (fun K hK => ?_)
    go_simp
    with_reducible refine (CD0.out _).mono ?_
    rintro e wE ⟨rfl, qq⟩
    replace X10 := Lib.hid (X10.out.kept qq)
    have m2 := Qw.trans hSS qq
    refine hK _ _ (fun _ => m2) ?_
    clear hK K hSS qq
    have hSS := m2
    clear m2
    try simp only [List.getElem_toArray, List.getElem_cons_succ, List.getElem_cons_zero, Act.put, List.setIfInBounds_toArray, List.set_cons_zero, List.set_cons_succ]
    refine wpAnyM_one (i := 5) rfl (by kernel_rfl) rfl (fun K hK => ?_)
    go_simp
    with_reducible refine (CD1.out _).mono ?_
    rintro e wE ⟨rfl, qq⟩
    replace X10 := Lib.hid (X10.out.kept qq)
    have m2 := Qw.trans hSS qq
    refine hK _ _ (fun _ => m2) ?_
    clear hK K hSS qq
    have hSS := m2
    clear m2
    try simp only [List.getElem_toArray, List.getElem_cons_succ, List.getElem_cons_zero, Act.put, List.setIfInBounds_toArray, List.set_cons_zero, List.set_cons_succ]
    refine wpAnyM_take (i := 6) (v := ?_) rfl (by kernel_rfl) (fun _ _ _ h => h) (Or.inl ⟨by rfl, ?_⟩) hSS ?_
    rotate_left 1
    · intro wS hwS
      go_simp
      try with_reducible rfl
    simp only [List.getElem_toArray, List.getElem_cons_succ, List.getElem_cons_zero, Act.put, List.setIfInBounds_toArray, List.set_cons_zero, List.set_cons_succ]
    refine wpAnyM_one (i := 8) rfl (by kernel_rfl) rfl (fun K hK => ?_)
    have z0 := X10.out.p0
    have y0 := X10.out.free 0
    have z1 := X10.out.p1
    have y1 := X10.out.free 1
    go_simp
    have hZ := X10.out.st2 (.int .i64 q0) (.int .i64 q1)
    have m2 := Qw.stA2 hSS g10.out (.int .i64 q0) (.int .i64 q1)
    replace X10 := Lib.hid hZ
    refine hK _ _ (fun h => absurd h (by decide)) ?_
    clear hK K hSS hZ z0 y0 z1 y1
    have hSS := m2
    clear m2
    try simp only [List.getElem_toArray, List.getElem_cons_succ, List.getElem_cons_zero, Act.put, List.setIfInBounds_toArray, List.set_cons_zero, List.set_cons_succ]
    refine wpAnyM_done (by kernel_rfl) ?_ _
    have n10_3 := Lib.hid (Nat.ne_of_gt (Nat.lt_of_lt_of_le X3.out.lt g10.out))
    have m10_3 := Lib.hid (Nat.ne_of_lt (Nat.lt_of_lt_of_le X3.out.lt g10.out))
    have n10_5 := Lib.hid (Nat.ne_of_gt (Nat.lt_of_lt_of_le X5.out.lt g10.out))
    have m10_5 := Lib.hid (Nat.ne_of_lt (Nat.lt_of_lt_of_le X5.out.lt g10.out))
    have n10_6 := Lib.hid (Nat.ne_of_gt (Nat.lt_of_lt_of_le X6.out.lt g10.out))
    have m10_6 := Lib.hid (Nat.ne_of_lt (Nat.lt_of_lt_of_le X6.out.lt g10.out))
    have n10_7 := Lib.hid (Nat.ne_of_gt (Nat.lt_of_lt_of_le X7.out.lt g10.out))
    have m10_7 := Lib.hid (Nat.ne_of_lt (Nat.lt_of_lt_of_le X7.out.lt g10.out))
    have n10_8 := Lib.hid (Nat.ne_of_gt (Nat.lt_of_lt_of_le X8.out.lt g10.out))
    have m10_8 := Lib.hid (Nat.ne_of_lt (Nat.lt_of_lt_of_le X8.out.lt g10.out))
    have n10_9 := Lib.hid (Nat.ne_of_gt (Nat.lt_of_lt_of_le X9.out.lt g10.out))
    have m10_9 := Lib.hid (Nat.ne_of_lt (Nat.lt_of_lt_of_le X9.out.lt g10.out))
    replace X3 := Lib.hid (X3.out.kept hSS)
    replace X5 := Lib.hid (X5.out.kept hSS)
    replace X6 := Lib.hid (X6.out.kept hSS)
    replace X7 := Lib.hid (X7.out.kept hSS)
    replace X8 := Lib.hid (X8.out.kept hSS)
    replace X9 := Lib.hid (X9.out.kept hSS)
    have h10 := Lib.hid (Nat.le_trans QQ.out.size g10.out)
    replace QQ := Lib.hid (Qw.trans QQ.out hSS)
    clear hSS
    cases pz
    · cases qz
      · have hp : ¬ (m0 = 0 ∧ m1 = 0) := fun h => by have := hpz.2 h; cases this
        have hq : ¬ (q0 = 0 ∧ q1 = 0) := fun h => by have := hqz.2 h; cases this
        have v1 := fun w' => apInside i GD.out m0 m1 (by omega) (by omega) (by omega) (by omega) hp w'
        have v2 := fun w' => arInside i GD.out.near GD.out.d m0 m1 (by omega) (by omega) (by omega) (by omega) w'
        have v3 := fun w' => apInside i GD.out q0 q1 (by omega) (by omega) (by omega) (by omega) hq w'
        have v4 := fun w' => arInside i GD.out.near GD.out.d q0 q1 (by omega) (by omega) (by omega) (by omega) w'
        generalize Ac.ins i m0 m1 = R1 at *
        generalize Ac.ins i q0 q1 = R2 at *
        have V1 := Lib.hid v1
        have V2 := Lib.hid v2
        have V3 := Lib.hid v3
        have V4 := Lib.hid v4
        clear v1 v2 v3 v4 hp hq hpz hqz
        have c10_0 := X10.out.p0
        have c10_1 := X10.out.p1
        go_upto_region 10 with (go_big_may; ((with_reducible refine ld_pt 3 ?_ X3.out ?_); (rfl)))
        clear c10_0 c10_1
        have e0 : (A0 == A0) = true := by simp
        have e1 : (A1 == A1) = true := by simp
        have e2 : (A2 == A2) = true := by simp
        have e3 : (A3 == A3) = true := by simp
        have e4 : (R1 == R1) = true := by simp
        have e5 : (R2 == R2) = true := by simp
        have c6_0 := X6.out.kp0
        have c6_1 := X6.out.kp1
        have c8_0 := X8.out.kp0
        have c8_1 := X8.out.kp1
        have c7_0 := X7.out.kp0
        have c7_1 := X7.out.kp1
        have c9_0 := X9.out.kp0
        have c9_1 := X9.out.kp1
        have c3_0 := X3.out.kp0
        have c3_1 := X3.out.kp1
        have c10_0 := X10.out.kp0
        have c10_1 := X10.out.kp1
        have IX5 := Lib.hid X5.out.kall
        try simp only [List.getElem_toArray, List.getElem_cons_succ, List.getElem_cons_zero, Act.put, List.setIfInBounds_toArray, List.set_cons_zero, List.set_cons_succ]
        refine region_kept (by kernel_rfl) (by kernel_rfl) ?_
        repeat (first | ((with_reducible refine q_it 5 ?_ ?_ IX5.out ?_); (first | rfl | (simp [Region.wanted, yielded]; done)); (rfl); try simp only [List.getElem_toArray, List.getElem_cons_succ, List.getElem_cons_zero, Act.put, List.setIfInBounds_toArray, List.set_cons_zero, List.set_cons_succ]) | go_big_quiet_step (first | (go_at_call 20; with_reducible exact Kept.call (AW.out _)) | (go_at_call 30; with_reducible exact Kept.call (V1.out _)) | (go_at_call 31; with_reducible exact Kept.call (V2.out _)) | (go_at_call 30; with_reducible exact Kept.call (V3.out _)) | (go_at_call 31; with_reducible exact Kept.call (V4.out _))))
        refine wpQuiet_nil ?_
        intro w16 qq
        clear c6_0 c6_1 c8_0 c8_1 c7_0 c7_1 c9_0 c9_1 c3_0 c3_1 c10_0 c10_1 IX5
        replace X3 := Lib.hid (X3.out.kept qq)
        replace X5 := Lib.hid (X5.out.kept qq)
        replace X6 := Lib.hid (X6.out.kept qq)
        replace X7 := Lib.hid (X7.out.kept qq)
        replace X8 := Lib.hid (X8.out.kept qq)
        replace X9 := Lib.hid (X9.out.kept qq)
        replace X10 := Lib.hid (X10.out.kept qq)
        replace QQ := Lib.hid (Qw.trans QQ.out qq)
        clear qq
        go_wp2
        go_ret
        first | exact ⟨rfl, QQ.out⟩ | exact ⟨ret_bl (by simp [*]), QQ.out⟩
      · clear hpz hqz
        have c10_0 := X10.out.p0
        have c10_1 := X10.out.p1
        go_upto_region 9 with (go_big_may; ((with_reducible refine ld_pt 3 ?_ X3.out ?_); (rfl)))
        clear c10_0 c10_1
        go_wp2_with (go_at_call 20; ((with_reducible refine (AW.out _).mono ?_); rintro e w16 ⟨rfl, qq⟩; replace X3 := Lib.hid (X3.out.kept qq); replace X5 := Lib.hid (X5.out.kept qq); replace X6 := Lib.hid (X6.out.kept qq); replace X7 := Lib.hid (X7.out.kept qq); replace X8 := Lib.hid (X8.out.kept qq); replace X9 := Lib.hid (X9.out.kept qq); replace X10 := Lib.hid (X10.out.kept qq); replace QQ := Lib.hid (Qw.trans QQ.out qq); clear qq))
        go_ret
        exact ⟨rfl, QQ.out⟩
    · clear hpz hqz
      have c10_0 := X10.out.p0
      have c10_1 := X10.out.p1
      go_upto_region 9 with (go_big_may; ((with_reducible refine ld_pt 3 ?_ X3.out ?_); (rfl)))
      clear c10_0 c10_1
      go_wp2_with (go_at_call 20; ((with_reducible refine (AW.out _).mono ?_); rintro e w16 ⟨rfl, qq⟩; replace X3 := Lib.hid (X3.out.kept qq); replace X5 := Lib.hid (X5.out.kept qq); replace X6 := Lib.hid (X6.out.kept qq); replace X7 := Lib.hid (X7.out.kept qq); replace X8 := Lib.hid (X8.out.kept qq); replace X9 := Lib.hid (X9.out.kept qq); replace X10 := Lib.hid (X10.out.kept qq); replace QQ := Lib.hid (Qw.trans QQ.out qq); clear qq))
      go_ret
      exact ⟨rfl, QQ.out⟩

/-! ### the row -/
theorem own_arcInside : ownKnob Try.prog.godebug = none := by kernel_rfl
set_option maxRecDepth 100000 in
theorem lifted_arcInside (os : Os) (started : os.Started) (H : Type) (enc : TypeId × Value → H) :
    ReturnsInHanded {} Try.checked os 6 .any (Rows.arcInsideSpec.pre6 enc Try.prog Try.f6 Rows.arcInsideRow.domain false) (Rows.arcInsideSpec.post enc Try.prog Try.f6 false true false false) := by
  refine returnsInHanded_of_change (C := Try.checked) own_arcInside started (by kernel_rfl) Try.func6
    (ChangeSpec.witness6 (enc := enc) (C := Try.checked) false ⟨#[], #[.slice none 0 0, .agg #[.int .i64 0, .int .i64 0]], []⟩ 8 (by kernel_rfl) (by kernel_rfl) (by kernel_rfl) (by kernel_rfl)) ?_
  intro W base args ds gs before hval0 hW hcnd _
  have hval : ∀ (j : Nat) t v, Try.f6.params[j]? = some t → args[j]? = some v → Value.okWide Try.prog W .any base t v := hval0
  have hW' := hW
  obtain ⟨p, q, hA0, hV, rfl, hfz, hnd⟩ := hW
  have hA : DataW.TrodAll enc Try.prog W 0 (fun _ => true) true Try.f6.params.toList args.toList ds p := hA0
  rw [Try.params6] at hA hval
  obtain ⟨v0, vs0, d0, ds0, p0, q0, hargs, rfl, rfl, h0, r0⟩ := trodAll_cons hA
  obtain ⟨v1, vs1, d1, ds1, p1, q1, rfl, rfl, rfl, h1, r1⟩ := trodAll_cons r0
  obtain ⟨rfl, rfl, rfl⟩ := trodAll_nil r1
  obtain rfl : args = #[v0, v1] := by cases args; simp_all
  obtain ⟨rfl, rfl⟩ := trodVars_none hV
  obtain ⟨u0, hu0⟩ := inM_ints (hval 0 40 v0 rfl rfl) h0
  obtain ⟨a1_0, a1_1, rfl, rfl, rfl, w1_0, w1_1⟩ := open_pt (hval 1 32 v1 rfl rfl) h1
  obtain ⟨x1_0, y1_0⟩ := wfM w1_0
  obtain ⟨x1_1, y1_1⟩ := wfM w1_1
  clear hA0 hval0
  simp only [List.append_nil] at hW'
  refine (walk_arcInside v0 u0 a1_0 x1_0 y1_0 a1_1 x1_1 y1_1 W hu0).mono fun e W' ⟨he, bel⟩ => ?_
  subst he
  exact ⟨_, rfl, _, _, _, [], _, [], hW', trodAll_mk1 (shut_bool Try.underlying4 _), (trodAll_cons_mk (outM_ints h0 bel (fun x hx => hW'.lt x (by first | exact hx | simp [hx]))) (trodAll_cons_mk (shut_pt w1_0 w1_1) trodAll_mk0)), rfl, Below.frame bel _, fun h => by cases h⟩

/-- The statement. -/
theorem arcInside_holds : Rows.ArcInsideSaid :=
  OpenClaim.holds_of_wide 6 Try.f6 rfl rfl rfl rfl rfl rfl rfl ⟨rfl, rfl, rfl, rfl, rfl⟩ rfl rfl rfl rfl rfl (by kernel_rfl) Try.func6 (by kernel_rfl)
    (of_decide_eq_true (by kernel_rfl)) (by unfold Func.isWrapper; first | (rw [if_pos (by decide +kernel)]; kernel_rfl) | (rw [if_neg (by decide +kernel)]; exact ⟨rfl, rfl⟩))
    (fun os started H enc _ => lifted_arcInside os started H enc)

end Go.Proofs.Ytihmifdadikhaaa
