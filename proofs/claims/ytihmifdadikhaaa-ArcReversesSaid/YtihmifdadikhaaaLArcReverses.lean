
/- ArcReverses: An arc from its end to its beginning in the opposite direction is right and passes the same directions.
   Conditions: none; every input. -/
import Derived.Test.YtihmifdadikhaaaRows
import Derived.Test.YtihmifdadikhaaaGR
import Derived.Test.YtihmifdadikhaaaGI
import Derived.Test.YtihmifdadikhaaaGG
set_option linter.unusedVariables false
set_option linter.unusedSimpArgs false
namespace Go.Proofs.Ytihmifdadikhaaa
open Go.ChangeShapes Go.WideShapes Go.ChangeAt Go.RowKit

theorem Bx.kall {W : World} {b : Nat} {cs : Array Value} {t : TypeId} (h : Bx W b cs t) : ∀ w', (∃ p : Kept W, w' = p.v) → Bx w' b cs t := fun _ ⟨p, e⟩ => e ▸ h.kept p.h
theorem arcN2_arcReverses {w w1 : World} {B : Nat} {v : Value} {zs : List Int} (h : TapeAt w1 B v zs 0) (q : Qw w w1) (hB : w.heap.size ≤ B) : Calls Try.prog 24 #[.pointer (some ⟨B, 0, none⟩)] w1 fun e w' => (∃ i : Ac.I, e = .returned (.agg (itc i)) ∧ Ac.Gd i) ∧ Qw w w' ∧ w1.grownBy w' (some B) :=
  (arcD B v zs w1 w1 (Tm.of h)).mono fun _ _ ⟨hf, _, g⟩ => ⟨hf, q.gb hB g, g⟩
theorem vbtwR (v l h : Int) (lh : l ≤ h) : l ≤ l + v % (h - l + 1) ∧ l + v % (h - l + 1) ≤ h := by
  have := Int.emod_nonneg v (show h - l + 1 ≠ 0 by omega)
  have := Int.emod_lt_of_pos v (show 0 < h - l + 1 by omega)
  omega
theorem wfR {i : Ac.I} (h : Ac.Gd i) : Ac.Wf i := by
  obtain ⟨k, p1, p2, d, ⟨a1, a2⟩, ⟨a3, a4⟩, ⟨a5, a6⟩, ⟨a7, a8⟩, ⟨a9, a10⟩, ⟨a11, a12⟩, ⟨a13, a14⟩, ⟨a15, a16⟩, ⟨a17, a18⟩, _, _, _⟩ := h
  refine ⟨?_, ?_, ?_, ?_, ?_, ?_, ?_, ?_, ?_, ?_, ?_, ?_⟩ <;> (unfold Ac.w64; omega)
/-- The arc back, with the center where it was. -/
def Ac.rv1 (i : Ac.I) : Ac.I := ⟨i.k, i.b, i.tx, i.ty, i.tz, i.fx, i.fy, i.fz, i.p, i.cx, i.cy, i.cz, -i.d, i.u, i.e, i.r, i.s, i.g, i.l, i.n, i.v, i.o⟩
set_option maxRecDepth 100000 in
set_option maxHeartbeats 8000000 in
theorem walk_arcReverses (v1 : Value) (z1 : List Int) (x : Int) (x1 : -9223372036854775808 ≤ x) (x2 : x ≤ 9223372036854775807) (y : Int) (y1 : -9223372036854775808 ≤ y) (y2 : y ≤ 9223372036854775807) (w : World) (h1 : IntsB w.heap.size w v1 z1) : Calls Try.prog 10 #[v1, .agg #[.int .i64 x, .int .i64 y]] w fun e w' => e = .returned (.bool true) ∧ Below w.heap.size w w' := by
  have AW := Lib.hid awakeA
  cases k1 : decide (z1.length ≤ 120)
  · have L1 := Lib.hid (fun (w' : World) (q : Qw w w') => lightN h1 q k1)
    clear k1 h1
    have QQ : Hid (Qw w w) := Lib.hid (Qw.refl w)
    go_enter Try.func10, Try.ntmps10
    go_upto_region 1 with (go_big_may; ((with_reducible refine box_pt (x := ?_) (y := ?_) 1 ?_ ?_); rotate_left 2; (rfl); intro w1 B3 hb xx qq; have h3 := Lib.hid (Nat.le_trans QQ.out.size hb); replace QQ := Lib.hid (Qw.trans QQ.out qq); have X3 := Lib.hid xx; clear xx qq hb))
    go_upto_region 2 with (go_big_may; (go_at_call 23; ((with_reducible refine (L1.out _ QQ.out).mono ?_); rintro e w' ⟨rfl, rfl⟩)))
    go_wp2_with (go_at_call 20; ((with_reducible refine (AW.out _).mono ?_); rintro e w2 ⟨rfl, qq⟩; replace X3 := Lib.hid (X3.out.kept qq); replace QQ := Lib.hid (Qw.trans QQ.out qq); clear qq))
    go_ret
    exact ⟨rfl, QQ.out⟩
  have L1 := Lib.hid (fun (w' : World) (q : Qw w w') => lightN h1 q k1)
  have H1 := Lib.hid h1
  clear k1 h1
  have QQ : Hid (Qw w w) := Lib.hid (Qw.refl w)
  go_enter Try.func10, Try.ntmps10
  go_upto_region 1 with (go_big_may; ((with_reducible refine box_pt (x := ?_) (y := ?_) 1 ?_ ?_); rotate_left 2; (rfl); intro w1 B3 hb xx qq; have h3 := Lib.hid (Nat.le_trans QQ.out.size hb); replace QQ := Lib.hid (Qw.trans QQ.out qq); have X3 := Lib.hid xx; clear xx qq hb))
  go_upto_region 3 with (go_big_may; (go_at_call 23; ((with_reducible refine (L1.out _ QQ.out).mono ?_); rintro e w' ⟨rfl, rfl⟩)))
  go_upto_region 4 with (go_big_may; (first | ((with_reducible refine al_it (dst := some 5) ?_); intro w2 B5 hb xx qq; have n5_3 := Lib.hid (Nat.ne_of_gt (Nat.lt_of_lt_of_le X3.out.lt hb)); have m5_3 := Lib.hid (Nat.ne_of_lt (Nat.lt_of_lt_of_le X3.out.lt hb)); have h5 := Lib.hid (Nat.le_trans QQ.out.size hb); replace X3 := Lib.hid (X3.out.kept qq); replace QQ := Lib.hid (Qw.trans QQ.out qq); have X5 := Lib.hid xx; clear xx qq hb) | ((with_reducible refine st_itO (g := ?_) 5 13 ?_ ?_ X5.out ?_); rotate_left 1; (rfl); (rfl); intro w3 xx qf ot; replace X3 := Lib.hid (ot _ _ _ m5_3.out X3.out); replace QQ := Lib.hid (qf _ QQ.out h5.out); replace X5 := Lib.hid xx; clear xx qf ot) | (go_at_call 25; ((with_reducible refine (newN H1.out QQ.out).mono ?_); rintro e wT ⟨rfl, t, qq⟩; have T1 := Lib.hid t; have hB := Lib.hid QQ.out.size; have nT := Lib.hid (Nat.ne_of_lt X3.out.lt); replace X3 := Lib.hid (X3.out.kept qq); replace QQ := Lib.hid (Qw.trans QQ.out qq); clear t qq)) | (go_at_call 24; ((with_reducible refine (arcN2_arcReverses T1.out QQ.out hB.out).mono ?_); rintro e wA ⟨⟨i, rfl, gd⟩, qq, gg⟩; have GD := Lib.hid gd; replace X3 := Lib.hid (X3.out.grM gg nT.out); replace QQ := Lib.hid qq; clear qq gd gg T1 nT))))
  have hd0 := GD.out.d
  obtain ⟨hd1, hd2⟩ : -1 ≤ i.d ∧ i.d ≤ 1 := by omega
  clear hd0 L1 H1 hB
  go_upto_region 5 with (go_big_may; (first | ((with_reducible refine ld_it 5 ?_ X5.out ?_); (rfl)) | ((with_reducible refine al_it (dst := some 6) ?_); intro w4 B6 hb xx qq; have n6_3 := Lib.hid (Nat.ne_of_gt (Nat.lt_of_lt_of_le X3.out.lt hb)); have n6_5 := Lib.hid (Nat.ne_of_gt (Nat.lt_of_lt_of_le X5.out.lt hb)); have m6_3 := Lib.hid (Nat.ne_of_lt (Nat.lt_of_lt_of_le X3.out.lt hb)); have m6_5 := Lib.hid (Nat.ne_of_lt (Nat.lt_of_lt_of_le X5.out.lt hb)); have h6 := Lib.hid (Nat.le_trans QQ.out.size hb); replace X3 := Lib.hid (X3.out.kept qq); replace X5 := Lib.hid (X5.out.kept qq); replace QQ := Lib.hid (Qw.trans QQ.out qq); have X6 := Lib.hid xx; clear xx qq hb) | ((with_reducible refine st_itO (g := ?_) 6 14 ?_ ?_ X6.out ?_); rotate_left 1; (rfl); (rfl); intro w5 xx qf ot; replace X3 := Lib.hid (ot _ _ _ m6_3.out X3.out); replace X5 := Lib.hid (ot _ _ _ m6_5.out X5.out); replace QQ := Lib.hid (qf _ QQ.out h6.out); replace X6 := Lib.hid xx; clear xx qf ot)))
  try simp only [List.getElem_toArray, List.getElem_cons_succ, List.getElem_cons_zero, Act.put, List.setIfInBounds_toArray, List.set_cons_zero, List.set_cons_succ]
  have NG := Lib.hid (IntWalk.i64_in (-i.d) (by omega))
  refine wp_region_M (fun wS => Bx wS B5 (itc i) IT) 12 (by kernel_rfl) ?_
  refine wpM_named (S' := fun w' => Bx w' B3 #[.int .i64 x, .int .i64 y] 32 ∧ Bx w' B5 (itc i) IT ∧ Bx w' B6 (itc i) IT ∧ Qw w w') ⟨X3.out.kept (qw_drew1 _), X5.out.kept (qw_drew1 _), X6.out.kept (qw_drew1 _), Qw.dr QQ.out⟩ ?_
  clear X3 X5 X6 QQ
  rintro wd ⟨x3, hSS, x6, qq⟩
  have X3 := Lib.hid x3
  have X6 := Lib.hid x6
  have QQ := Lib.hid qq
  clear x3 x6 qq
  refine wpAnyM_take (i := 0) (v := ?_) rfl (by kernel_rfl) (fun _ _ _ h => h) (Or.inl ⟨by rfl, ?_⟩) hSS ?_
  rotate_left 1
  · intro wS hwS
    go_simp
    try with_reducible rfl
  simp only [List.getElem_toArray, List.getElem_cons_succ, List.getElem_cons_zero, Act.put, List.setIfInBounds_toArray, List.set_cons_zero, List.set_cons_succ]
  refine wpAnyM_take (i := 1) (v := ?_) rfl (by kernel_rfl) (fun _ _ _ h => h) (Or.inl ⟨by rfl, ?_⟩) hSS ?_
  rotate_left 1
  · intro wS hwS
    have y5 := hwS.i5; have y6 := hwS.i6; have y7 := hwS.i7; go_simp
    try with_reducible rfl
  simp only [List.getElem_toArray, List.getElem_cons_succ, List.getElem_cons_zero, Act.put, List.setIfInBounds_toArray, List.set_cons_zero, List.set_cons_succ]
  refine wpAnyM_take (i := 2) (v := ?_) rfl (by kernel_rfl) (fun _ _ _ h => h) (Or.inl ⟨by rfl, ?_⟩) hSS ?_
  rotate_left 1
  · intro wS hwS
    go_simp
    try with_reducible rfl
  simp only [List.getElem_toArray, List.getElem_cons_succ, List.getElem_cons_zero, Act.put, List.setIfInBounds_toArray, List.set_cons_zero, List.set_cons_succ]
  refine wpAnyM_take (i := 3) (v := ?_) rfl (by kernel_rfl) (fun _ _ _ h => h) (Or.inl ⟨by rfl, ?_⟩) hSS ?_
  rotate_left 1
  · intro wS hwS
    have y2 := hwS.i2; have y3 := hwS.i3; have y4 := hwS.i4; go_simp
    try with_reducible rfl
  simp only [List.getElem_toArray, List.getElem_cons_succ, List.getElem_cons_zero, Act.put, List.setIfInBounds_toArray, List.set_cons_zero, List.set_cons_succ]
  refine wpAnyM_take (i := 4) (v := ?_) rfl (by kernel_rfl) (fun _ _ _ h => h) (Or.inl ⟨by rfl, ?_⟩) hSS ?_
  rotate_left 1
  · intro wS hwS
    go_simp
    try with_reducible rfl
  simp only [List.getElem_toArray, List.getElem_cons_succ, List.getElem_cons_zero, Act.put, List.setIfInBounds_toArray, List.set_cons_zero, List.set_cons_succ]
  refine wpAnyM_take (i := 5) (v := ?_) rfl (by kernel_rfl) (fun _ _ _ h => h) (Or.inl ⟨by rfl, ?_⟩) hSS ?_
  rotate_left 1
  · intro wS hwS
    have y := hwS.i12; go_simp
    try with_reducible rfl
  simp only [List.getElem_toArray, List.getElem_cons_succ, List.getElem_cons_zero, Act.put, List.setIfInBounds_toArray, List.set_cons_zero, List.set_cons_succ]
  refine wpAnyM_take (i := 6) (v := ?_) rfl (by kernel_rfl) (fun _ _ _ h => h) (Or.inl ⟨by rfl, ?_⟩) hSS ?_
  rotate_left 1
  · intro wS hwS
    have ew := NG.out; go_simp
    try with_reducible rfl
  simp only [List.getElem_toArray, List.getElem_cons_succ, List.getElem_cons_zero, Act.put, List.setIfInBounds_toArray, List.set_cons_zero, List.set_cons_succ]
  refine wpAnyM_take (i := 7) (v := ?_) rfl (by kernel_rfl) (fun _ _ _ h => h) (Or.inl ⟨by rfl, ?_⟩) hSS ?_
  rotate_left 1
  · intro wS hwS
    go_simp
    try with_reducible rfl
  simp only [List.getElem_toArray, List.getElem_cons_succ, List.getElem_cons_zero, Act.put, List.setIfInBounds_toArray, List.set_cons_zero, List.set_cons_succ]
  refine wpAnyM_one (i := 8) rfl (by kernel_rfl) rfl (fun K hK => ?_)
  have z2 := X6.out.cell' 2 (.int .i64 i.fx) rfl
  have y2 := X6.out.free 2
  have z3 := X6.out.cell' 3 (.int .i64 i.fy) rfl
  have y3 := X6.out.free 3
  have z4 := X6.out.cell' 4 (.int .i64 i.fz) rfl
  have y4 := X6.out.free 4
  go_simp
  have m2 := (((hSS.other (a := ⟨B6, 2, none⟩) m6_5.out (.int .i64 i.tx)).other (a := ⟨B6, 3, none⟩) m6_5.out (.int .i64 i.ty)).other (a := ⟨B6, 4, none⟩) m6_5.out (.int .i64 i.tz))
  have m3 := Lib.hid ((((X3.out.other (a := ⟨B6, 2, none⟩) m6_3.out (.int .i64 i.tx)).other (a := ⟨B6, 3, none⟩) m6_3.out (.int .i64 i.ty)).other (a := ⟨B6, 4, none⟩) m6_3.out (.int .i64 i.tz)))
  have m6 := Lib.hid ((((X6.out.set 2 (.int .i64 i.tx)).set 3 (.int .i64 i.ty)).set 4 (.int .i64 i.tz)))
  have mq := Lib.hid ((((QQ.out.sc (p := ⟨B6, 2, none⟩) h6.out (.int .i64 i.tx)).sc (p := ⟨B6, 3, none⟩) h6.out (.int .i64 i.ty)).sc (p := ⟨B6, 4, none⟩) h6.out (.int .i64 i.tz)))
  refine hK _ _ (fun _ => m2) ?_
  clear hK K hSS X3 X6 QQ z2 y2 z3 y3 z4 y4
  have hSS := m2
  have X3 := m3
  have X6 := m6
  have QQ := mq
  clear m2 m3 m6 mq
  try simp only [List.getElem_toArray, List.getElem_cons_succ, List.getElem_cons_zero, Act.put, List.setIfInBounds_toArray, List.set_cons_zero, List.set_cons_succ]
  refine wpAnyM_take (i := 9) (v := ?_) rfl (by kernel_rfl) (fun _ _ _ h => h) (Or.inl ⟨by rfl, ?_⟩) hSS ?_
  rotate_left 1
  · intro wS hwS
    go_simp
    try with_reducible rfl
  simp only [List.getElem_toArray, List.getElem_cons_succ, List.getElem_cons_zero, Act.put, List.setIfInBounds_toArray, List.set_cons_zero, List.set_cons_succ]
  refine wpAnyM_one (i := 10) rfl (by kernel_rfl) rfl (fun K hK => ?_)
  have z5 := X6.out.cell' 5 (.int .i64 i.tx) rfl
  have y5 := X6.out.free 5
  have z6 := X6.out.cell' 6 (.int .i64 i.ty) rfl
  have y6 := X6.out.free 6
  have z7 := X6.out.cell' 7 (.int .i64 i.tz) rfl
  have y7 := X6.out.free 7
  go_simp
  have m2 := (((hSS.other (a := ⟨B6, 5, none⟩) m6_5.out (.int .i64 i.fx)).other (a := ⟨B6, 6, none⟩) m6_5.out (.int .i64 i.fy)).other (a := ⟨B6, 7, none⟩) m6_5.out (.int .i64 i.fz))
  have m3 := Lib.hid ((((X3.out.other (a := ⟨B6, 5, none⟩) m6_3.out (.int .i64 i.fx)).other (a := ⟨B6, 6, none⟩) m6_3.out (.int .i64 i.fy)).other (a := ⟨B6, 7, none⟩) m6_3.out (.int .i64 i.fz)))
  have m6 := Lib.hid ((((X6.out.set 5 (.int .i64 i.fx)).set 6 (.int .i64 i.fy)).set 7 (.int .i64 i.fz)))
  have mq := Lib.hid ((((QQ.out.sc (p := ⟨B6, 5, none⟩) h6.out (.int .i64 i.fx)).sc (p := ⟨B6, 6, none⟩) h6.out (.int .i64 i.fy)).sc (p := ⟨B6, 7, none⟩) h6.out (.int .i64 i.fz)))
  refine hK _ _ (fun _ => m2) ?_
  clear hK K hSS X3 X6 QQ z5 y5 z6 y6 z7 y7
  have hSS := m2
  have X3 := m3
  have X6 := m6
  have QQ := mq
  clear m2 m3 m6 mq
  try simp only [List.getElem_toArray, List.getElem_cons_succ, List.getElem_cons_zero, Act.put, List.setIfInBounds_toArray, List.set_cons_zero, List.set_cons_succ]
  refine wpAnyM_take (i := 11) (v := ?_) rfl (by kernel_rfl) (fun _ _ _ h => h) (Or.inl ⟨by rfl, ?_⟩) hSS ?_
  rotate_left 1
  · intro wS hwS
    go_simp
    try with_reducible rfl
  simp only [List.getElem_toArray, List.getElem_cons_succ, List.getElem_cons_zero, Act.put, List.setIfInBounds_toArray, List.set_cons_zero, List.set_cons_succ]
  refine wpAnyM_one (i := 12) rfl (by kernel_rfl) rfl (fun K hK => ?_)
  have z12 := X6.out.cell' 12 (.int .i64 i.d) rfl
  have y12 := X6.out.free 12
  go_simp
  have m2 := (hSS.other (a := ⟨B6, 12, none⟩) m6_5.out (.int .i64 (-i.d)))
  have m3 := Lib.hid ((X3.out.other (a := ⟨B6, 12, none⟩) m6_3.out (.int .i64 (-i.d))))
  have m6 := Lib.hid ((X6.out.set 12 (.int .i64 (-i.d))))
  have mq := Lib.hid ((QQ.out.sc (p := ⟨B6, 12, none⟩) h6.out (.int .i64 (-i.d))))
  refine hK _ _ (fun h => absurd h (by decide)) ?_
  clear hK K hSS X3 X6 QQ z12 y12
  have hSS := m2
  have X3 := m3
  have X6 := m6
  have QQ := mq
  clear m2 m3 m6 mq
  try simp only [List.getElem_toArray, List.getElem_cons_succ, List.getElem_cons_zero, Act.put, List.setIfInBounds_toArray, List.set_cons_zero, List.set_cons_succ]
  refine wpAnyM_done (by kernel_rfl) ?_ _
  go_upto_region 6 with fail
  have hI : ((((((((itc i).setIfInBounds 2 (.int .i64 i.tx)).setIfInBounds 3 (.int .i64 i.ty)).setIfInBounds 4 (.int .i64 i.tz)).setIfInBounds 5 (.int .i64 i.fx)).setIfInBounds 6 (.int .i64 i.fy)).setIfInBounds 7 (.int .i64 i.fz)).setIfInBounds 12 (.int .i64 (-i.d))) = itc (Ac.rv1 i) := by simp [itc, Ac.rv1]
  refine code_of (fun w' => Bx w' B3 #[.int .i64 x, .int .i64 y] 32 ∧ Bx w' B5 (itc i) IT ∧ Bx w' B6 (itc (Ac.rv1 i)) IT ∧ Qw w w') ⟨X3.out, hSS, hI ▸ X6.out, QQ.out⟩ ?_
  clear X3 X6 QQ hSS hI NG hd1 hd2
  rintro wG ⟨x3, x5, x6, qq⟩
  have X3 := Lib.hid x3
  have X5 := Lib.hid x5
  have X6 := Lib.hid x6
  have QQ := Lib.hid qq
  clear x3 x5 x6 qq
  have P1 := Lib.hid (fun w' => arPt i.p i.cx i.cy i.cz GD.out.near.p.1 GD.out.near.p.2 w')
  have P2 := Lib.hid (fun w' => arHeight i.p i.tx i.ty i.tz GD.out.near.p.1 GD.out.near.p.2 w')
  have P3 := Lib.hid (fun w' => arAt i.p (fu i.p i.cx i.cy i.cz) (fw i.p i.cx i.cy i.cz) (fh i.p i.tx i.ty i.tz) GD.out.near.p.1 GD.out.near.p.2 w')
  have c5_5 := X5.out.ki5
  have c5_6 := X5.out.ki6
  have c5_7 := X5.out.ki7
  have c5_8 := X5.out.ki8
  have c5_9 := X5.out.ki9
  have c5_10 := X5.out.ki10
  have c5_11 := X5.out.ki11
  try simp only [List.getElem_toArray, List.getElem_cons_succ, List.getElem_cons_zero, Act.put, List.setIfInBounds_toArray, List.set_cons_zero, List.set_cons_succ]
  refine region_kept_tail 13 (by kernel_rfl) (by kernel_rfl) ?_
  simp only [List.take_succ_cons, List.take_zero, List.drop_succ_cons, List.drop_zero]
  repeat (go_big_quiet_step (first | (go_at_call 19; with_reducible exact Kept.call (P1.out _)) | (go_at_call 41; with_reducible exact Kept.call (P2.out _)) | (go_at_call 18; with_reducible exact Kept.call (P3.out _))))
  refine wpQuiet_nil ?_
  intro wH qq
  clear c5_5 c5_6 c5_7 c5_8 c5_9 c5_10 c5_11
  replace X3 := Lib.hid (X3.out.kept qq)
  replace X5 := Lib.hid (X5.out.kept qq)
  replace X6 := Lib.hid (X6.out.kept qq)
  replace QQ := Lib.hid (Qw.trans QQ.out qq)
  clear qq P1 P2 P3
  have z9 := X6.out.cell' 9 (.int .i64 i.cx) rfl
  have y9 := X6.out.free 9
  have z10 := X6.out.cell' 10 (.int .i64 i.cy) rfl
  have y10 := X6.out.free 10
  have z11 := X6.out.cell' 11 (.int .i64 i.cz) rfl
  have y11 := X6.out.free 11
  go_upto_region 7 with fail
  have hI : (((itc (Ac.rv1 i)).setIfInBounds 9 (.int .i64 (sx i.p (fu i.p i.cx i.cy i.cz) (fw i.p i.cx i.cy i.cz) (fh i.p i.tx i.ty i.tz)))).setIfInBounds 10 (.int .i64 (sy i.p (fu i.p i.cx i.cy i.cz) (fw i.p i.cx i.cy i.cz) (fh i.p i.tx i.ty i.tz)))).setIfInBounds 11 (.int .i64 (sz i.p (fu i.p i.cx i.cy i.cz) (fw i.p i.cx i.cy i.cz) (fh i.p i.tx i.ty i.tz))) = itc (Ac.rev i) := by simp [itc, Ac.rv1, Ac.rev]
  refine code_of (fun w' => Bx w' B3 #[.int .i64 x, .int .i64 y] 32 ∧ Bx w' B5 (itc i) IT ∧ Bx w' B6 (itc (Ac.rev i)) IT ∧ Qw w w') ⟨((X3.out.other m6_3.out _).other m6_3.out _).other m6_3.out _, ((X5.out.other m6_5.out _).other m6_5.out _).other m6_5.out _, hI ▸ (((X6.out.set 9 _).set 10 _).set 11 _), ((QQ.out.sc h6.out _).sc h6.out _).sc h6.out _⟩ ?_
  clear X3 X5 X6 QQ hI z9 z10 z11 y9 y10 y11
  rintro wK ⟨x3, x5, x6, qq⟩
  have X3 := Lib.hid x3
  have X5 := Lib.hid x5
  have X6 := Lib.hid x6
  have QQ := Lib.hid qq
  clear x3 x5 x6 qq
  have cb0 := fun w => sameQ (betweenW x (-9000) 9000 x1 x2 (by decide) (by decide) (by decide) (by decide) w)
  have cb1 := fun w => sameQ (betweenW y (-9000) 9000 y1 y2 (by decide) (by decide) (by decide) (by decide) w)
  have mb0 := vbtwR x (-9000) 9000 (by decide)
  have mb1 := vbtwR y (-9000) 9000 (by decide)
  generalize -9000 + x % (9000 - -9000 + 1) = m0 at *
  generalize -9000 + y % (9000 - -9000 + 1) = m1 at *
  have CB0 := Lib.hid cb0
  have CB1 := Lib.hid cb1
  clear cb0 cb1
  have c3_0 := X3.out.kp0
  have c3_1 := X3.out.kp1
  try simp only [List.getElem_toArray, List.getElem_cons_succ, List.getElem_cons_zero, Act.put, List.setIfInBounds_toArray, List.set_cons_zero, List.set_cons_succ]
  refine region_kept_tail 7 (by kernel_rfl) (by kernel_rfl) ?_
  simp only [List.take_succ_cons, List.take_zero, List.drop_succ_cons, List.drop_zero]
  repeat (go_big_quiet_step (first | (go_at_call 17; with_reducible exact Kept.call (CB0.out _)) | (go_at_call 17; with_reducible exact Kept.call (CB1.out _))))
  refine wpQuiet_nil ?_
  intro w6 qq
  clear c3_0 c3_1
  replace X3 := Lib.hid (X3.out.kept qq)
  replace X5 := Lib.hid (X5.out.kept qq)
  replace X6 := Lib.hid (X6.out.kept qq)
  replace QQ := Lib.hid (Qw.trans QQ.out qq)
  clear qq
  go_upto_region 8 with (go_big_may; ((with_reducible refine st_pt (x := ?_) (y := ?_) 3 45 ?_ ?_ X3.out ?_); rotate_left 2; (rfl); (rfl); intro w7 xx qf ot; replace X5 := Lib.hid (ot _ _ _ n5_3.out X5.out); replace X6 := Lib.hid (ot _ _ _ n6_3.out X6.out); replace QQ := Lib.hid (qf _ QQ.out h3.out); replace X3 := Lib.hid xx; clear xx qf ot))
  obtain ⟨⟨ma, mb⟩, mc, md⟩ := And.intro mb0 mb1
  clear CB0 CB1 mb0 mb1
  obtain ⟨pz, hpz, EP⟩ := eq_pt m0 m1
  cases pz
  · have hp : ¬ (m0 = 0 ∧ m1 = 0) := fun h => by have := hpz.2 h; cases this
    have v1 := fun w' => apInside i GD.out m0 m1 (by omega) (by omega) (by omega) (by omega) hp w'
    have v2 := fun w' => apInside (Ac.rev i) (Ac.rev_gd GD.out) m0 m1 (by omega) (by omega) (by omega) (by omega) hp w'
    rw [Ac.rev_ins GD.out hp] at v2
    have v3 := fun w' => apCheck (Ac.rev i) (wfR (Ac.rev_gd GD.out)) w'
    rw [(Ac.rev_gd GD.out).chk] at v3
    generalize Ac.ins i m0 m1 = R1 at *
    have V1 := Lib.hid v1
    have V2 := Lib.hid v2
    have V3 := Lib.hid v3
    clear v1 v2 v3 hp hpz
    have e1 : (R1 == R1) = true := by simp
    go_upto_region 10 with (go_big_may; ((with_reducible refine ld_pt 3 ?_ X3.out ?_); (rfl)))
    have c3_0 := X3.out.kp0
    have c3_1 := X3.out.kp1
    have IX5 := Lib.hid X5.out.kall
    have IX6 := Lib.hid X6.out.kall
    try simp only [List.getElem_toArray, List.getElem_cons_succ, List.getElem_cons_zero, Act.put, List.setIfInBounds_toArray, List.set_cons_zero, List.set_cons_succ]
    refine region_kept (by kernel_rfl) (by kernel_rfl) ?_
    repeat (first | ((with_reducible refine q_it 5 ?_ ?_ IX5.out ?_); (first | rfl | (simp [Region.wanted, yielded]; done)); (rfl); try simp only [List.getElem_toArray, List.getElem_cons_succ, List.getElem_cons_zero, Act.put, List.setIfInBounds_toArray, List.set_cons_zero, List.set_cons_succ]) | ((with_reducible refine q_it 6 ?_ ?_ IX6.out ?_); (first | rfl | (simp [Region.wanted, yielded]; done)); (rfl); try simp only [List.getElem_toArray, List.getElem_cons_succ, List.getElem_cons_zero, Act.put, List.setIfInBounds_toArray, List.set_cons_zero, List.set_cons_succ]) | go_big_quiet_step (first | (go_at_call 20; with_reducible exact Kept.call (AW.out _)) | (go_at_call 26; with_reducible exact Kept.call (V3.out _)) | (go_at_call 30; with_reducible exact Kept.call (V2.out _)) | (go_at_call 30; with_reducible exact Kept.call (V1.out _))))
    refine wpQuiet_nil ?_
    intro w8 qq
    clear c3_0 c3_1 IX5 IX6
    replace X3 := Lib.hid (X3.out.kept qq)
    replace X5 := Lib.hid (X5.out.kept qq)
    replace X6 := Lib.hid (X6.out.kept qq)
    replace QQ := Lib.hid (Qw.trans QQ.out qq)
    clear qq
    go_wp2
    go_ret
    first | exact ⟨rfl, QQ.out⟩ | exact ⟨ret_bl (by simp [*]), QQ.out⟩
  · clear hpz
    go_upto_region 9 with (go_big_may; ((with_reducible refine ld_pt 3 ?_ X3.out ?_); (rfl)))
    go_wp2_with (go_at_call 20; ((with_reducible refine (AW.out _).mono ?_); rintro e w8 ⟨rfl, qq⟩; replace X3 := Lib.hid (X3.out.kept qq); replace X5 := Lib.hid (X5.out.kept qq); replace X6 := Lib.hid (X6.out.kept qq); replace QQ := Lib.hid (Qw.trans QQ.out qq); clear qq))
    go_ret
    exact ⟨rfl, QQ.out⟩

/-! ### the row -/
theorem own_arcReverses : ownKnob Try.prog.godebug = none := by kernel_rfl
set_option maxRecDepth 100000 in
theorem lifted_arcReverses (os : Os) (started : os.Started) (H : Type) (enc : TypeId × Value → H) :
    ReturnsInHanded {} Try.checked os 10 .any (Rows.arcReversesSpec.pre6 enc Try.prog Try.f10 Rows.arcReversesRow.domain false) (Rows.arcReversesSpec.post enc Try.prog Try.f10 false true false false) := by
  refine returnsInHanded_of_change (C := Try.checked) own_arcReverses started (by kernel_rfl) Try.func10
    (ChangeSpec.witness6 (enc := enc) (C := Try.checked) false ⟨#[], #[.slice none 0 0, .agg #[.int .i64 0, .int .i64 0]], []⟩ 8 (by kernel_rfl) (by kernel_rfl) (by kernel_rfl) (by kernel_rfl)) ?_
  intro W base args ds gs before hval0 hW hcnd _
  have hval : ∀ (j : Nat) t v, Try.f10.params[j]? = some t → args[j]? = some v → Value.okWide Try.prog W .any base t v := hval0
  have hW' := hW
  obtain ⟨p, q, hA0, hV, rfl, hfz, hnd⟩ := hW
  have hA : DataW.TrodAll enc Try.prog W 0 (fun _ => true) true Try.f10.params.toList args.toList ds p := hA0
  rw [Try.params10] at hA hval
  obtain ⟨v0, vs0, d0, ds0, p0, q0, hargs, rfl, rfl, h0, r0⟩ := trodAll_cons hA
  obtain ⟨v1, vs1, d1, ds1, p1, q1, rfl, rfl, rfl, h1, r1⟩ := trodAll_cons r0
  obtain ⟨rfl, rfl, rfl⟩ := trodAll_nil r1
  obtain rfl : args = #[v0, v1] := by cases args; simp_all
  obtain ⟨rfl, rfl⟩ := trodVars_none hV
  obtain ⟨u0, hu0⟩ := inM_ints (hval 0 40 v0 rfl rfl) h0
  obtain ⟨a1_0, a1_1, rfl, rfl, rfl, w1_0, w1_1⟩ := open_pt (hval 1 32 v1 rfl rfl) h1
  obtain ⟨x1_0, y1_0⟩ := wfM w1_0
  obtain ⟨x1_1, y1_1⟩ := wfM w1_1
  clear hA0 hval0
  simp only [List.append_nil] at hW'
  refine (walk_arcReverses v0 u0 a1_0 x1_0 y1_0 a1_1 x1_1 y1_1 W hu0).mono fun e W' ⟨he, bel⟩ => ?_
  subst he
  exact ⟨_, rfl, _, _, _, [], _, [], hW', trodAll_mk1 (shut_bool Try.underlying4 _), (trodAll_cons_mk (outM_ints h0 bel (fun x hx => hW'.lt x (by first | exact hx | simp [hx]))) (trodAll_cons_mk (shut_pt w1_0 w1_1) trodAll_mk0)), rfl, Below.frame bel _, fun h => by cases h⟩

/-- The statement. -/
theorem arcReverses_holds : Rows.ArcReversesSaid :=
  OpenClaim.holds_of_wide 10 Try.f10 rfl rfl rfl rfl rfl rfl rfl ⟨rfl, rfl, rfl, rfl, rfl⟩ rfl rfl rfl rfl rfl (by kernel_rfl) Try.func10 (by kernel_rfl)
    (of_decide_eq_true (by kernel_rfl)) (by unfold Func.isWrapper; first | (rw [if_pos (by decide +kernel)]; kernel_rfl) | (rw [if_neg (by decide +kernel)]; exact ⟨rfl, rfl⟩))
    (fun os started H enc _ => lifted_arcReverses os started H enc)

end Go.Proofs.Ytihmifdadikhaaa
