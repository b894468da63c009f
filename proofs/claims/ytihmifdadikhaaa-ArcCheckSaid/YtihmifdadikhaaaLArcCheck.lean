
/- ArcCheck: Which arcs are right: Check is as the specification says, for any items and for right arcs with one change; and a drawn arc is right.
   Conditions: none; every input. -/
import Derived.Test.YtihmifdadikhaaaRows
import Derived.Test.YtihmifdadikhaaaGR
import Derived.Test.YtihmifdadikhaaaGI
import Derived.Test.YtihmifdadikhaaaGG
set_option linter.unusedVariables false
set_option linter.unusedSimpArgs false
namespace Go.Proofs.Ytihmifdadikhaaa
open Go.ChangeShapes Go.WideShapes Go.ChangeAt Go.RowKit

theorem Bx.kall {W : World} {b : Nat} {cs : Array Value} {t : TypeId} (h : Bx W b cs t) : ∀ w', (∃ p : Kept W, w' = p.v) → Bx w' b cs t := fun _ ⟨p, e⟩ => e ▸ h.kept p.h
theorem arcN2_arcCheck {w w1 : World} {B : Nat} {v : Value} {zs : List Int} (h : TapeAt w1 B v zs 0) (q : Qw w w1) (hB : w.heap.size ≤ B) : Calls Try.prog 24 #[.pointer (some ⟨B, 0, none⟩)] w1 fun e w' => (∃ i : Ac.I, e = .returned (.agg (itc i)) ∧ Ac.Gd i) ∧ Qw w w' ∧ w1.grownBy w' (some B) :=
  (arcD B v zs w1 w1 (Tm.of h)).mono fun _ _ ⟨hf, _, g⟩ => ⟨hf, q.gb hB g, g⟩
theorem vbtwC (v l h : Int) (lh : l ≤ h) : l ≤ l + v % (h - l + 1) ∧ l + v % (h - l + 1) ≤ h := by
  have := Int.emod_nonneg v (show h - l + 1 ≠ 0 by omega)
  have := Int.emod_lt_of_pos v (show 0 < h - l + 1 by omega)
  omega
theorem Ac.Gd.wf {i : Ac.I} (h : Ac.Gd i) : Ac.Wf i := by
  obtain ⟨k, p1, p2, d, ⟨a1, a2⟩, ⟨a3, a4⟩, ⟨a5, a6⟩, ⟨a7, a8⟩, ⟨a9, a10⟩, ⟨a11, a12⟩, ⟨a13, a14⟩, ⟨a15, a16⟩, ⟨a17, a18⟩, _, _, _⟩ := h
  refine ⟨?_, ?_, ?_, ?_, ?_, ?_, ?_, ?_, ?_, ?_, ?_, ?_⟩ <;> (unfold Ac.w64; omega)
set_option maxRecDepth 100000 in
set_option maxHeartbeats 16000000 in
theorem walk_arcCheck (r : Ac.I) (v1 : Value) (z1 : List Int) (a : Int) (a1 : -9223372036854775808 ≤ a) (a2 : a ≤ 9223372036854775807) (b : Int) (b1 : -9223372036854775808 ≤ b) (b2 : b ≤ 9223372036854775807) (w : World) (hr : Ac.Wf r) (h1 : IntsB w.heap.size w v1 z1) : Calls Try.prog 5 #[.agg (itc r), v1, .int .i64 a, .int .i64 b] w fun e w' => e = .returned (.bool true) ∧ Below w.heap.size w w' := by
  have AW := Lib.hid awakeA
  cases k1 : decide (z1.length ≤ 120)
  · have L1 := Lib.hid (fun (w' : World) (q : Qw w w') => lightN h1 q k1)
    clear k1 h1
    have QQ : Hid (Qw w w) := Lib.hid (Qw.refl w)
    go_enter Try.func5, Try.ntmps5
    go_upto_region 1 with (go_big_may; ((with_reducible refine box_it (f := ?_) 0 ?_ ?_); rotate_left 1; (rfl); intro w1 B4 hb xx qq; have h4 := Lib.hid (Nat.le_trans QQ.out.size hb); replace QQ := Lib.hid (Qw.trans QQ.out qq); have X4 := Lib.hid xx; clear xx qq hb))
    go_upto_region 2 with (go_big_may; (go_at_call 23; ((with_reducible refine (L1.out _ QQ.out).mono ?_); rintro e w' ⟨rfl, rfl⟩)))
    go_wp2_with (go_at_call 20; ((with_reducible refine (AW.out _).mono ?_); rintro e w2 ⟨rfl, qq⟩; replace X4 := Lib.hid (X4.out.kept qq); replace QQ := Lib.hid (Qw.trans QQ.out qq); clear qq))
    go_ret
    exact ⟨rfl, QQ.out⟩
  have L1 := Lib.hid (fun (w' : World) (q : Qw w w') => lightN h1 q k1)
  have H1 := Lib.hid h1
  clear k1 h1
  have QQ : Hid (Qw w w) := Lib.hid (Qw.refl w)
  go_enter Try.func5, Try.ntmps5
  go_upto_region 1 with (go_big_may; ((with_reducible refine box_it (f := ?_) 0 ?_ ?_); rotate_left 1; (rfl); intro w1 B4 hb xx qq; have h4 := Lib.hid (Nat.le_trans QQ.out.size hb); replace QQ := Lib.hid (Qw.trans QQ.out qq); have X4 := Lib.hid xx; clear xx qq hb))
  go_upto_region 3 with (go_big_may; (go_at_call 23; ((with_reducible refine (L1.out _ QQ.out).mono ?_); rintro e w' ⟨rfl, rfl⟩)))
  go_upto_region 4 with (go_big_may; (first | ((with_reducible refine al_it (dst := some 9) ?_); intro w2 B9 hb xx qq; have n9_4 := Lib.hid (Nat.ne_of_gt (Nat.lt_of_lt_of_le X4.out.lt hb)); have m9_4 := Lib.hid (Nat.ne_of_lt (Nat.lt_of_lt_of_le X4.out.lt hb)); have h9 := Lib.hid (Nat.le_trans QQ.out.size hb); replace X4 := Lib.hid (X4.out.kept qq); replace QQ := Lib.hid (Qw.trans QQ.out qq); have X9 := Lib.hid xx; clear xx qq hb) | ((with_reducible refine st_itO (g := ?_) 9 18 ?_ ?_ X9.out ?_); rotate_left 1; (rfl); (rfl); intro w3 xx qf ot; replace X4 := Lib.hid (ot _ _ _ m9_4.out X4.out); replace QQ := Lib.hid (qf _ QQ.out h9.out); replace X9 := Lib.hid xx; clear xx qf ot) | (go_at_call 25; ((with_reducible refine (newN H1.out QQ.out).mono ?_); rintro e wT ⟨rfl, t, qq⟩; have T1 := Lib.hid t; have hB := Lib.hid QQ.out.size; have nT := Lib.hid (Nat.ne_of_lt X4.out.lt); replace X4 := Lib.hid (X4.out.kept qq); replace QQ := Lib.hid (Qw.trans QQ.out qq); clear t qq)) | (go_at_call 24; ((with_reducible refine (arcN2_arcCheck T1.out QQ.out hB.out).mono ?_); rintro e wA ⟨⟨i, rfl, gd⟩, qq, gg⟩; have GD := Lib.hid gd; replace X4 := Lib.hid (X4.out.grM gg nT.out); replace QQ := Lib.hid qq; clear qq gd gg T1 nT))))
  have cb := fun w => sameQ (betweenW b (-12) 12 b1 b2 (by decide) (by decide) (by decide) (by decide) w)
  have db := vbtwC b (-12) 12 (by decide)
  generalize -12 + b % (12 - -12 + 1) = dd at *
  have cm := fun w => sameQ (modW a 10 a1 a2 (by decide) (by decide) w)
  have mb : 0 ≤ a % 10 ∧ a % 10 < 10 := by omega
  generalize a % 10 = n at *
  obtain ⟨⟨db1, db2⟩, mb1, mb2⟩ := And.intro db mb
  have CB := Lib.hid cb
  have CM := Lib.hid cm
  clear cb cm db mb L1 H1 hB a1 a2
  go_upto_region 5 with (go_big_may; (go_at_call 17; ((with_reducible refine (CB.out _).mono ?_); rintro e w4 ⟨rfl, qq⟩; replace X4 := Lib.hid (X4.out.kept qq); replace X9 := Lib.hid (X9.out.kept qq); replace QQ := Lib.hid (Qw.trans QQ.out qq); clear qq)))
  go_upto_region 6 with (go_big_may; (first | ((with_reducible refine ld_it 9 ?_ X9.out ?_); (rfl)) | ((with_reducible refine al_it (dst := some 11) ?_); intro w5 B11 hb xx qq; have n11_4 := Lib.hid (Nat.ne_of_gt (Nat.lt_of_lt_of_le X4.out.lt hb)); have n11_9 := Lib.hid (Nat.ne_of_gt (Nat.lt_of_lt_of_le X9.out.lt hb)); have m11_4 := Lib.hid (Nat.ne_of_lt (Nat.lt_of_lt_of_le X4.out.lt hb)); have m11_9 := Lib.hid (Nat.ne_of_lt (Nat.lt_of_lt_of_le X9.out.lt hb)); have h11 := Lib.hid (Nat.le_trans QQ.out.size hb); replace X4 := Lib.hid (X4.out.kept qq); replace X9 := Lib.hid (X9.out.kept qq); replace QQ := Lib.hid (Qw.trans QQ.out qq); have X11 := Lib.hid xx; clear xx qq hb) | ((with_reducible refine st_itO (g := ?_) 11 21 ?_ ?_ X11.out ?_); rotate_left 1; (rfl); (rfl); intro w6 xx qf ot; replace X4 := Lib.hid (ot _ _ _ m11_4.out X4.out); replace X9 := Lib.hid (ot _ _ _ m11_9.out X9.out); replace QQ := Lib.hid (qf _ QQ.out h11.out); replace X11 := Lib.hid xx; clear xx qf ot)))
  go_upto_region 8 with (go_big_may; (go_at_call 16; ((with_reducible refine (CM.out _).mono ?_); rintro e w7 ⟨rfl, qq⟩; replace X4 := Lib.hid (X4.out.kept qq); replace X9 := Lib.hid (X9.out.kept qq); replace X11 := Lib.hid (X11.out.kept qq); replace QQ := Lib.hid (Qw.trans QQ.out qq); clear qq)))
  clear CB CM
  have n10 : n = 0 ∨ n = 1 ∨ n = 2 ∨ n = 3 ∨ n = 4 ∨ n = 5 ∨ n = 6 ∨ n = 7 ∨ n = 8 ∨ n = 9 := by omega
  clear mb1 mb2
  have cf := GD.out.cx
  have tf := GD.out.ty
  have ff := GD.out.fz
  obtain ⟨⟨f1, f2⟩, ⟨f3, f4⟩, f5, f6⟩ := And.intro cf (And.intro tf ff)
  clear cf tf ff
  rcases n10 with rfl | rfl | rfl | rfl | rfl | rfl | rfl | rfl | rfl | rfl
  · obtain ⟨J, hJ⟩ : ∃ J : Ac.I, J = { i with p := b } := ⟨_, rfl⟩
    have eJ : (itc i).setIfInBounds 8 (.int .i64 b) = itc ({ i with p := b }) := by simp [itc]
    rw [← hJ] at eJ
    have wJ : Ac.Wf J := by rw [hJ]; have h := GD.out.wf; exact ⟨h.k, h.fx, h.fy, h.fz, h.tx, h.ty, h.tz, (show Ac.w64 (b) from ⟨by omega, by omega⟩), h.cx, h.cy, h.cz, h.d⟩
    have EJ := Lib.hid eJ
    clear eJ hJ
    have z8 := X11.out.i8
    have y8 := X11.out.free 8
    go_upto_region 26 with fail
    refine code_of (fun w' => Bx w' B4 (itc r) IT ∧ Bx w' B9 (itc i) IT ∧ Bx w' B11 (itc J) IT ∧ Qw w w') ⟨X4.out.other m11_4.out _, X9.out.other m11_9.out _, EJ.out ▸ (X11.out.set 8 _), QQ.out.sc h11.out _⟩ ?_
    clear X4 X9 X11 QQ EJ z8 y8
    rintro wG ⟨x4, x9, x11, qq⟩
    have X4 := Lib.hid x4
    have X9 := Lib.hid x9
    have X11 := Lib.hid x11
    have QQ := Lib.hid qq
    clear x4 x9 x11 qq
    have u1 := fun w' => apCheck r hr w'
    have u2 := fun w' => arCheck r hr w'
    have u3 := fun w' => apCheck i GD.out.wf w'
    rw [GD.out.chk] at u3
    have u4 := fun w' => apCheck J wJ w'
    have u5 := fun w' => arCheck J wJ w'
    generalize Ac.chk r = E1 at *
    generalize Ac.chk J = E3 at *
    have U1 := Lib.hid u1
    have U2 := Lib.hid u2
    have U3 := Lib.hid u3
    have U4 := Lib.hid u4
    have U5 := Lib.hid u5
    clear u1 u2 u3 u4 u5 wJ
    have e1 : (E1 == E1) = true := by simp
    have e3 : (E3 == E3) = true := by simp
    have IX4 := Lib.hid X4.out.kall
    have IX9 := Lib.hid X9.out.kall
    have IX11 := Lib.hid X11.out.kall
    try simp only [List.getElem_toArray, List.getElem_cons_succ, List.getElem_cons_zero, Act.put, List.setIfInBounds_toArray, List.set_cons_zero, List.set_cons_succ]
    refine region_kept (by kernel_rfl) (by kernel_rfl) ?_
    repeat (first | ((with_reducible refine q_it 4 ?_ ?_ IX4.out ?_); (first | rfl | (simp [Region.wanted, yielded]; done)); (rfl); try simp only [List.getElem_toArray, List.getElem_cons_succ, List.getElem_cons_zero, Act.put, List.setIfInBounds_toArray, List.set_cons_zero, List.set_cons_succ]) | ((with_reducible refine q_it 9 ?_ ?_ IX9.out ?_); (first | rfl | (simp [Region.wanted, yielded]; done)); (rfl); try simp only [List.getElem_toArray, List.getElem_cons_succ, List.getElem_cons_zero, Act.put, List.setIfInBounds_toArray, List.set_cons_zero, List.set_cons_succ]) | ((with_reducible refine q_it 11 ?_ ?_ IX11.out ?_); (first | rfl | (simp [Region.wanted, yielded]; done)); (rfl); try simp only [List.getElem_toArray, List.getElem_cons_succ, List.getElem_cons_zero, Act.put, List.setIfInBounds_toArray, List.set_cons_zero, List.set_cons_succ]) | go_big_quiet_step (first | (go_at_call 20; with_reducible exact Kept.call (AW.out _)) | (go_at_call 26; with_reducible exact Kept.call (U1.out _)) | (go_at_call 27; with_reducible exact Kept.call (U2.out _)) | (go_at_call 26; with_reducible exact Kept.call (U3.out _)) | (go_at_call 26; with_reducible exact Kept.call (U4.out _)) | (go_at_call 27; with_reducible exact Kept.call (U5.out _))))
    refine wpQuiet_nil ?_
    intro w8 qq
    clear IX4 IX9 IX11
    replace X4 := Lib.hid (X4.out.kept qq)
    replace X9 := Lib.hid (X9.out.kept qq)
    replace X11 := Lib.hid (X11.out.kept qq)
    replace QQ := Lib.hid (Qw.trans QQ.out qq)
    clear qq
    go_wp2
    go_ret
    first | exact ⟨rfl, QQ.out⟩ | exact ⟨ret_bl (by simp [*]), QQ.out⟩
  · obtain ⟨J, hJ⟩ : ∃ J : Ac.I, J = { i with d := b } := ⟨_, rfl⟩
    have eJ : (itc i).setIfInBounds 12 (.int .i64 b) = itc ({ i with d := b }) := by simp [itc]
    rw [← hJ] at eJ
    have wJ : Ac.Wf J := by rw [hJ]; have h := GD.out.wf; exact ⟨h.k, h.fx, h.fy, h.fz, h.tx, h.ty, h.tz, h.p, h.cx, h.cy, h.cz, (show Ac.w64 (b) from ⟨by omega, by omega⟩)⟩
    have EJ := Lib.hid eJ
    clear eJ hJ
    have z12 := X11.out.i12
    have y12 := X11.out.free 12
    go_upto_region 26 with fail
    refine code_of (fun w' => Bx w' B4 (itc r) IT ∧ Bx w' B9 (itc i) IT ∧ Bx w' B11 (itc J) IT ∧ Qw w w') ⟨X4.out.other m11_4.out _, X9.out.other m11_9.out _, EJ.out ▸ (X11.out.set 12 _), QQ.out.sc h11.out _⟩ ?_
    clear X4 X9 X11 QQ EJ z12 y12
    rintro wG ⟨x4, x9, x11, qq⟩
    have X4 := Lib.hid x4
    have X9 := Lib.hid x9
    have X11 := Lib.hid x11
    have QQ := Lib.hid qq
    clear x4 x9 x11 qq
    have u1 := fun w' => apCheck r hr w'
    have u2 := fun w' => arCheck r hr w'
    have u3 := fun w' => apCheck i GD.out.wf w'
    rw [GD.out.chk] at u3
    have u4 := fun w' => apCheck J wJ w'
    have u5 := fun w' => arCheck J wJ w'
    generalize Ac.chk r = E1 at *
    generalize Ac.chk J = E3 at *
    have U1 := Lib.hid u1
    have U2 := Lib.hid u2
    have U3 := Lib.hid u3
    have U4 := Lib.hid u4
    have U5 := Lib.hid u5
    clear u1 u2 u3 u4 u5 wJ
    have e1 : (E1 == E1) = true := by simp
    have e3 : (E3 == E3) = true := by simp
    have IX4 := Lib.hid X4.out.kall
    have IX9 := Lib.hid X9.out.kall
    have IX11 := Lib.hid X11.out.kall
    try simp only [List.getElem_toArray, List.getElem_cons_succ, List.getElem_cons_zero, Act.put, List.setIfInBounds_toArray, List.set_cons_zero, List.set_cons_succ]
    refine region_kept (by kernel_rfl) (by kernel_rfl) ?_
    repeat (first | ((with_reducible refine q_it 4 ?_ ?_ IX4.out ?_); (first | rfl | (simp [Region.wanted, yielded]; done)); (rfl); try simp only [List.getElem_toArray, List.getElem_cons_succ, List.getElem_cons_zero, Act.put, List.setIfInBounds_toArray, List.set_cons_zero, List.set_cons_succ]) | ((with_reducible refine q_it 9 ?_ ?_ IX9.out ?_); (first | rfl | (simp [Region.wanted, yielded]; done)); (rfl); try simp only [List.getElem_toArray, List.getElem_cons_succ, List.getElem_cons_zero, Act.put, List.setIfInBounds_toArray, List.set_cons_zero, List.set_cons_succ]) | ((with_reducible refine q_it 11 ?_ ?_ IX11.out ?_); (first | rfl | (simp [Region.wanted, yielded]; done)); (rfl); try simp only [List.getElem_toArray, List.getElem_cons_succ, List.getElem_cons_zero, Act.put, List.setIfInBounds_toArray, List.set_cons_zero, List.set_cons_succ]) | go_big_quiet_step (first | (go_at_call 20; with_reducible exact Kept.call (AW.out _)) | (go_at_call 26; with_reducible exact Kept.call (U1.out _)) | (go_at_call 27; with_reducible exact Kept.call (U2.out _)) | (go_at_call 26; with_reducible exact Kept.call (U3.out _)) | (go_at_call 26; with_reducible exact Kept.call (U4.out _)) | (go_at_call 27; with_reducible exact Kept.call (U5.out _))))
    refine wpQuiet_nil ?_
    intro w8 qq
    clear IX4 IX9 IX11
    replace X4 := Lib.hid (X4.out.kept qq)
    replace X9 := Lib.hid (X9.out.kept qq)
    replace X11 := Lib.hid (X11.out.kept qq)
    replace QQ := Lib.hid (Qw.trans QQ.out qq)
    clear qq
    go_wp2
    go_ret
    first | exact ⟨rfl, QQ.out⟩ | exact ⟨ret_bl (by simp [*]), QQ.out⟩
  · obtain ⟨J, hJ⟩ : ∃ J : Ac.I, J = { i with u := (!i.u) } := ⟨_, rfl⟩
    have eJ : (itc i).setIfInBounds 13 (.bool (!i.u)) = itc ({ i with u := (!i.u) }) := by simp [itc]
    rw [← hJ] at eJ
    have wJ : Ac.Wf J := by rw [hJ]; have h := GD.out.wf; exact ⟨h.k, h.fx, h.fy, h.fz, h.tx, h.ty, h.tz, h.p, h.cx, h.cy, h.cz, h.d⟩
    have EJ := Lib.hid eJ
    clear eJ hJ
    have z13 := X11.out.i13
    have y13 := X11.out.free 13
    go_upto_region 26 with fail
    refine code_of (fun w' => Bx w' B4 (itc r) IT ∧ Bx w' B9 (itc i) IT ∧ Bx w' B11 (itc J) IT ∧ Qw w w') ⟨X4.out.other m11_4.out _, X9.out.other m11_9.out _, EJ.out ▸ (X11.out.set 13 _), QQ.out.sc h11.out _⟩ ?_
    clear X4 X9 X11 QQ EJ z13 y13
    rintro wG ⟨x4, x9, x11, qq⟩
    have X4 := Lib.hid x4
    have X9 := Lib.hid x9
    have X11 := Lib.hid x11
    have QQ := Lib.hid qq
    clear x4 x9 x11 qq
    have u1 := fun w' => apCheck r hr w'
    have u2 := fun w' => arCheck r hr w'
    have u3 := fun w' => apCheck i GD.out.wf w'
    rw [GD.out.chk] at u3
    have u4 := fun w' => apCheck J wJ w'
    have u5 := fun w' => arCheck J wJ w'
    generalize Ac.chk r = E1 at *
    generalize Ac.chk J = E3 at *
    have U1 := Lib.hid u1
    have U2 := Lib.hid u2
    have U3 := Lib.hid u3
    have U4 := Lib.hid u4
    have U5 := Lib.hid u5
    clear u1 u2 u3 u4 u5 wJ
    have e1 : (E1 == E1) = true := by simp
    have e3 : (E3 == E3) = true := by simp
    have IX4 := Lib.hid X4.out.kall
    have IX9 := Lib.hid X9.out.kall
    have IX11 := Lib.hid X11.out.kall
    try simp only [List.getElem_toArray, List.getElem_cons_succ, List.getElem_cons_zero, Act.put, List.setIfInBounds_toArray, List.set_cons_zero, List.set_cons_succ]
    refine region_kept (by kernel_rfl) (by kernel_rfl) ?_
    repeat (first | ((with_reducible refine q_it 4 ?_ ?_ IX4.out ?_); (first | rfl | (simp [Region.wanted, yielded]; done)); (rfl); try simp only [List.getElem_toArray, List.getElem_cons_succ, List.getElem_cons_zero, Act.put, List.setIfInBounds_toArray, List.set_cons_zero, List.set_cons_succ]) | ((with_reducible refine q_it 9 ?_ ?_ IX9.out ?_); (first | rfl | (simp [Region.wanted, yielded]; done)); (rfl); try simp only [List.getElem_toArray, List.getElem_cons_succ, List.getElem_cons_zero, Act.put, List.setIfInBounds_toArray, List.set_cons_zero, List.set_cons_succ]) | ((with_reducible refine q_it 11 ?_ ?_ IX11.out ?_); (first | rfl | (simp [Region.wanted, yielded]; done)); (rfl); try simp only [List.getElem_toArray, List.getElem_cons_succ, List.getElem_cons_zero, Act.put, List.setIfInBounds_toArray, List.set_cons_zero, List.set_cons_succ]) | go_big_quiet_step (first | (go_at_call 20; with_reducible exact Kept.call (AW.out _)) | (go_at_call 26; with_reducible exact Kept.call (U1.out _)) | (go_at_call 27; with_reducible exact Kept.call (U2.out _)) | (go_at_call 26; with_reducible exact Kept.call (U3.out _)) | (go_at_call 26; with_reducible exact Kept.call (U4.out _)) | (go_at_call 27; with_reducible exact Kept.call (U5.out _))))
    refine wpQuiet_nil ?_
    intro w8 qq
    clear IX4 IX9 IX11
    replace X4 := Lib.hid (X4.out.kept qq)
    replace X9 := Lib.hid (X9.out.kept qq)
    replace X11 := Lib.hid (X11.out.kept qq)
    replace QQ := Lib.hid (Qw.trans QQ.out qq)
    clear qq
    go_wp2
    go_ret
    first | exact ⟨rfl, QQ.out⟩ | exact ⟨ret_bl (by simp [*]), QQ.out⟩
  · obtain ⟨J, hJ⟩ : ∃ J : Ac.I, J = { i with cx := (i.cx + dd) } := ⟨_, rfl⟩
    have eJ : (itc i).setIfInBounds 9 (.int .i64 (i.cx + dd)) = itc ({ i with cx := (i.cx + dd) }) := by simp [itc]
    rw [← hJ] at eJ
    have wJ : Ac.Wf J := by rw [hJ]; have h := GD.out.wf; exact ⟨h.k, h.fx, h.fy, h.fz, h.tx, h.ty, h.tz, h.p, (show Ac.w64 ((i.cx + dd)) from ⟨by omega, by omega⟩), h.cy, h.cz, h.d⟩
    have EJ := Lib.hid eJ
    clear eJ hJ
    have z9 := X11.out.i9
    have y9 := X11.out.free 9
    go_upto_region 26 with fail
    refine code_of (fun w' => Bx w' B4 (itc r) IT ∧ Bx w' B9 (itc i) IT ∧ Bx w' B11 (itc J) IT ∧ Qw w w') ⟨X4.out.other m11_4.out _, X9.out.other m11_9.out _, EJ.out ▸ (X11.out.set 9 _), QQ.out.sc h11.out _⟩ ?_
    clear X4 X9 X11 QQ EJ z9 y9
    rintro wG ⟨x4, x9, x11, qq⟩
    have X4 := Lib.hid x4
    have X9 := Lib.hid x9
    have X11 := Lib.hid x11
    have QQ := Lib.hid qq
    clear x4 x9 x11 qq
    have u1 := fun w' => apCheck r hr w'
    have u2 := fun w' => arCheck r hr w'
    have u3 := fun w' => apCheck i GD.out.wf w'
    rw [GD.out.chk] at u3
    have u4 := fun w' => apCheck J wJ w'
    have u5 := fun w' => arCheck J wJ w'
    generalize Ac.chk r = E1 at *
    generalize Ac.chk J = E3 at *
    have U1 := Lib.hid u1
    have U2 := Lib.hid u2
    have U3 := Lib.hid u3
    have U4 := Lib.hid u4
    have U5 := Lib.hid u5
    clear u1 u2 u3 u4 u5 wJ
    have e1 : (E1 == E1) = true := by simp
    have e3 : (E3 == E3) = true := by simp
    have IX4 := Lib.hid X4.out.kall
    have IX9 := Lib.hid X9.out.kall
    have IX11 := Lib.hid X11.out.kall
    try simp only [List.getElem_toArray, List.getElem_cons_succ, List.getElem_cons_zero, Act.put, List.setIfInBounds_toArray, List.set_cons_zero, List.set_cons_succ]
    refine region_kept (by kernel_rfl) (by kernel_rfl) ?_
    repeat (first | ((with_reducible refine q_it 4 ?_ ?_ IX4.out ?_); (first | rfl | (simp [Region.wanted, yielded]; done)); (rfl); try simp only [List.getElem_toArray, List.getElem_cons_succ, List.getElem_cons_zero, Act.put, List.setIfInBounds_toArray, List.set_cons_zero, List.set_cons_succ]) | ((with_reducible refine q_it 9 ?_ ?_ IX9.out ?_); (first | rfl | (simp [Region.wanted, yielded]; done)); (rfl); try simp only [List.getElem_toArray, List.getElem_cons_succ, List.getElem_cons_zero, Act.put, List.setIfInBounds_toArray, List.set_cons_zero, List.set_cons_succ]) | ((with_reducible refine q_it 11 ?_ ?_ IX11.out ?_); (first | rfl | (simp [Region.wanted, yielded]; done)); (rfl); try simp only [List.getElem_toArray, List.getElem_cons_succ, List.getElem_cons_zero, Act.put, List.setIfInBounds_toArray, List.set_cons_zero, List.set_cons_succ]) | go_big_quiet_step (first | (go_at_call 20; with_reducible exact Kept.call (AW.out _)) | (go_at_call 26; with_reducible exact Kept.call (U1.out _)) | (go_at_call 27; with_reducible exact Kept.call (U2.out _)) | (go_at_call 26; with_reducible exact Kept.call (U3.out _)) | (go_at_call 26; with_reducible exact Kept.call (U4.out _)) | (go_at_call 27; with_reducible exact Kept.call (U5.out _))))
    refine wpQuiet_nil ?_
    intro w8 qq
    clear IX4 IX9 IX11
    replace X4 := Lib.hid (X4.out.kept qq)
    replace X9 := Lib.hid (X9.out.kept qq)
    replace X11 := Lib.hid (X11.out.kept qq)
    replace QQ := Lib.hid (Qw.trans QQ.out qq)
    clear qq
    go_wp2
    go_ret
    first | exact ⟨rfl, QQ.out⟩ | exact ⟨ret_bl (by simp [*]), QQ.out⟩
  · obtain ⟨J, hJ⟩ : ∃ J : Ac.I, J = { i with ty := (i.ty + dd) } := ⟨_, rfl⟩
    have eJ : (itc i).setIfInBounds 6 (.int .i64 (i.ty + dd)) = itc ({ i with ty := (i.ty + dd) }) := by simp [itc]
    rw [← hJ] at eJ
    have wJ : Ac.Wf J := by rw [hJ]; have h := GD.out.wf; exact ⟨h.k, h.fx, h.fy, h.fz, h.tx, (show Ac.w64 ((i.ty + dd)) from ⟨by omega, by omega⟩), h.tz, h.p, h.cx, h.cy, h.cz, h.d⟩
    have EJ := Lib.hid eJ
    clear eJ hJ
    have z6 := X11.out.i6
    have y6 := X11.out.free 6
    go_upto_region 26 with fail
    refine code_of (fun w' => Bx w' B4 (itc r) IT ∧ Bx w' B9 (itc i) IT ∧ Bx w' B11 (itc J) IT ∧ Qw w w') ⟨X4.out.other m11_4.out _, X9.out.other m11_9.out _, EJ.out ▸ (X11.out.set 6 _), QQ.out.sc h11.out _⟩ ?_
    clear X4 X9 X11 QQ EJ z6 y6
    rintro wG ⟨x4, x9, x11, qq⟩
    have X4 := Lib.hid x4
    have X9 := Lib.hid x9
    have X11 := Lib.hid x11
    have QQ := Lib.hid qq
    clear x4 x9 x11 qq
    have u1 := fun w' => apCheck r hr w'
    have u2 := fun w' => arCheck r hr w'
    have u3 := fun w' => apCheck i GD.out.wf w'
    rw [GD.out.chk] at u3
    have u4 := fun w' => apCheck J wJ w'
    have u5 := fun w' => arCheck J wJ w'
    generalize Ac.chk r = E1 at *
    generalize Ac.chk J = E3 at *
    have U1 := Lib.hid u1
    have U2 := Lib.hid u2
    have U3 := Lib.hid u3
    have U4 := Lib.hid u4
    have U5 := Lib.hid u5
    clear u1 u2 u3 u4 u5 wJ
    have e1 : (E1 == E1) = true := by simp
    have e3 : (E3 == E3) = true := by simp
    have IX4 := Lib.hid X4.out.kall
    have IX9 := Lib.hid X9.out.kall
    have IX11 := Lib.hid X11.out.kall
    try simp only [List.getElem_toArray, List.getElem_cons_succ, List.getElem_cons_zero, Act.put, List.setIfInBounds_toArray, List.set_cons_zero, List.set_cons_succ]
    refine region_kept (by kernel_rfl) (by kernel_rfl) ?_
    repeat (first | ((with_reducible refine q_it 4 ?_ ?_ IX4.out ?_); (first | rfl | (simp [Region.wanted, yielded]; done)); (rfl); try simp only [List.getElem_toArray, List.getElem_cons_succ, List.getElem_cons_zero, Act.put, List.setIfInBounds_toArray, List.set_cons_zero, List.set_cons_succ]) | ((with_reducible refine q_it 9 ?_ ?_ IX9.out ?_); (first | rfl | (simp [Region.wanted, yielded]; done)); (rfl); try simp only [List.getElem_toArray, List.getElem_cons_succ, List.getElem_cons_zero, Act.put, List.setIfInBounds_toArray, List.set_cons_zero, List.set_cons_succ]) | ((with_reducible refine q_it 11 ?_ ?_ IX11.out ?_); (first | rfl | (simp [Region.wanted, yielded]; done)); (rfl); try simp only [List.getElem_toArray, List.getElem_cons_succ, List.getElem_cons_zero, Act.put, List.setIfInBounds_toArray, List.set_cons_zero, List.set_cons_succ]) | go_big_quiet_step (first | (go_at_call 20; with_reducible exact Kept.call (AW.out _)) | (go_at_call 26; with_reducible exact Kept.call (U1.out _)) | (go_at_call 27; with_reducible exact Kept.call (U2.out _)) | (go_at_call 26; with_reducible exact Kept.call (U3.out _)) | (go_at_call 26; with_reducible exact Kept.call (U4.out _)) | (go_at_call 27; with_reducible exact Kept.call (U5.out _))))
    refine wpQuiet_nil ?_
    intro w8 qq
    clear IX4 IX9 IX11
    replace X4 := Lib.hid (X4.out.kept qq)
    replace X9 := Lib.hid (X9.out.kept qq)
    replace X11 := Lib.hid (X11.out.kept qq)
    replace QQ := Lib.hid (Qw.trans QQ.out qq)
    clear qq
    go_wp2
    go_ret
    first | exact ⟨rfl, QQ.out⟩ | exact ⟨ret_bl (by simp [*]), QQ.out⟩
  · obtain ⟨J, hJ⟩ : ∃ J : Ac.I, J = { i with fz := (i.fz + dd) } := ⟨_, rfl⟩
    have eJ : (itc i).setIfInBounds 4 (.int .i64 (i.fz + dd)) = itc ({ i with fz := (i.fz + dd) }) := by simp [itc]
    rw [← hJ] at eJ
    have wJ : Ac.Wf J := by rw [hJ]; have h := GD.out.wf; exact ⟨h.k, h.fx, h.fy, (show Ac.w64 ((i.fz + dd)) from ⟨by omega, by omega⟩), h.tx, h.ty, h.tz, h.p, h.cx, h.cy, h.cz, h.d⟩
    have EJ := Lib.hid eJ
    clear eJ hJ
    have z4 := X11.out.i4
    have y4 := X11.out.free 4
    go_upto_region 26 with fail
    refine code_of (fun w' => Bx w' B4 (itc r) IT ∧ Bx w' B9 (itc i) IT ∧ Bx w' B11 (itc J) IT ∧ Qw w w') ⟨X4.out.other m11_4.out _, X9.out.other m11_9.out _, EJ.out ▸ (X11.out.set 4 _), QQ.out.sc h11.out _⟩ ?_
    clear X4 X9 X11 QQ EJ z4 y4
    rintro wG ⟨x4, x9, x11, qq⟩
    have X4 := Lib.hid x4
    have X9 := Lib.hid x9
    have X11 := Lib.hid x11
    have QQ := Lib.hid qq
    clear x4 x9 x11 qq
    have u1 := fun w' => apCheck r hr w'
    have u2 := fun w' => arCheck r hr w'
    have u3 := fun w' => apCheck i GD.out.wf w'
    rw [GD.out.chk] at u3
    have u4 := fun w' => apCheck J wJ w'
    have u5 := fun w' => arCheck J wJ w'
    generalize Ac.chk r = E1 at *
    generalize Ac.chk J = E3 at *
    have U1 := Lib.hid u1
    have U2 := Lib.hid u2
    have U3 := Lib.hid u3
    have U4 := Lib.hid u4
    have U5 := Lib.hid u5
    clear u1 u2 u3 u4 u5 wJ
    have e1 : (E1 == E1) = true := by simp
    have e3 : (E3 == E3) = true := by simp
    have IX4 := Lib.hid X4.out.kall
    have IX9 := Lib.hid X9.out.kall
    have IX11 := Lib.hid X11.out.kall
    try simp only [List.getElem_toArray, List.getElem_cons_succ, List.getElem_cons_zero, Act.put, List.setIfInBounds_toArray, List.set_cons_zero, List.set_cons_succ]
    refine region_kept (by kernel_rfl) (by kernel_rfl) ?_
    repeat (first | ((with_reducible refine q_it 4 ?_ ?_ IX4.out ?_); (first | rfl | (simp [Region.wanted, yielded]; done)); (rfl); try simp only [List.getElem_toArray, List.getElem_cons_succ, List.getElem_cons_zero, Act.put, List.setIfInBounds_toArray, List.set_cons_zero, List.set_cons_succ]) | ((with_reducible refine q_it 9 ?_ ?_ IX9.out ?_); (first | rfl | (simp [Region.wanted, yielded]; done)); (rfl); try simp only [List.getElem_toArray, List.getElem_cons_succ, List.getElem_cons_zero, Act.put, List.setIfInBounds_toArray, List.set_cons_zero, List.set_cons_succ]) | ((with_reducible refine q_it 11 ?_ ?_ IX11.out ?_); (first | rfl | (simp [Region.wanted, yielded]; done)); (rfl); try simp only [List.getElem_toArray, List.getElem_cons_succ, List.getElem_cons_zero, Act.put, List.setIfInBounds_toArray, List.set_cons_zero, List.set_cons_succ]) | go_big_quiet_step (first | (go_at_call 20; with_reducible exact Kept.call (AW.out _)) | (go_at_call 26; with_reducible exact Kept.call (U1.out _)) | (go_at_call 27; with_reducible exact Kept.call (U2.out _)) | (go_at_call 26; with_reducible exact Kept.call (U3.out _)) | (go_at_call 26; with_reducible exact Kept.call (U4.out _)) | (go_at_call 27; with_reducible exact Kept.call (U5.out _))))
    refine wpQuiet_nil ?_
    intro w8 qq
    clear IX4 IX9 IX11
    replace X4 := Lib.hid (X4.out.kept qq)
    replace X9 := Lib.hid (X9.out.kept qq)
    replace X11 := Lib.hid (X11.out.kept qq)
    replace QQ := Lib.hid (Qw.trans QQ.out qq)
    clear qq
    go_wp2
    go_ret
    first | exact ⟨rfl, QQ.out⟩ | exact ⟨ret_bl (by simp [*]), QQ.out⟩
  · obtain ⟨J, hJ⟩ : ∃ J : Ac.I, J = { i with tx := i.fx, ty := i.fy, tz := i.fz } := ⟨_, rfl⟩
    have eJ : (((itc i).setIfInBounds 5 (.int .i64 i.fx)).setIfInBounds 6 (.int .i64 i.fy)).setIfInBounds 7 (.int .i64 i.fz) = itc ({ i with tx := i.fx, ty := i.fy, tz := i.fz }) := by simp [itc]
    rw [← hJ] at eJ
    have wJ : Ac.Wf J := by rw [hJ]; have h := GD.out.wf; exact ⟨h.k, h.fx, h.fy, h.fz, h.fx, h.fy, h.fz, h.p, h.cx, h.cy, h.cz, h.d⟩
    have EJ := Lib.hid eJ
    clear eJ hJ
    have z2 := X11.out.i2
    have z3 := X11.out.i3
    have z4 := X11.out.i4
    have z5 := X11.out.i5
    have z6 := X11.out.i6
    have z7 := X11.out.i7
    have y5 := X11.out.free 5
    have y6 := X11.out.free 6
    have y7 := X11.out.free 7
    go_upto_region 26 with fail
    refine code_of (fun w' => Bx w' B4 (itc r) IT ∧ Bx w' B9 (itc i) IT ∧ Bx w' B11 (itc J) IT ∧ Qw w w') ⟨((X4.out.other m11_4.out _).other m11_4.out _).other m11_4.out _, ((X9.out.other m11_9.out _).other m11_9.out _).other m11_9.out _, EJ.out ▸ (((X11.out.set 5 _).set 6 _).set 7 _), ((QQ.out.sc h11.out _).sc h11.out _).sc h11.out _⟩ ?_
    clear X4 X9 X11 QQ EJ z2 z3 z4 z5 z6 z7 y5 y6 y7
    rintro wG ⟨x4, x9, x11, qq⟩
    have X4 := Lib.hid x4
    have X9 := Lib.hid x9
    have X11 := Lib.hid x11
    have QQ := Lib.hid qq
    clear x4 x9 x11 qq
    have u1 := fun w' => apCheck r hr w'
    have u2 := fun w' => arCheck r hr w'
    have u3 := fun w' => apCheck i GD.out.wf w'
    rw [GD.out.chk] at u3
    have u4 := fun w' => apCheck J wJ w'
    have u5 := fun w' => arCheck J wJ w'
    generalize Ac.chk r = E1 at *
    generalize Ac.chk J = E3 at *
    have U1 := Lib.hid u1
    have U2 := Lib.hid u2
    have U3 := Lib.hid u3
    have U4 := Lib.hid u4
    have U5 := Lib.hid u5
    clear u1 u2 u3 u4 u5 wJ
    have e1 : (E1 == E1) = true := by simp
    have e3 : (E3 == E3) = true := by simp
    have IX4 := Lib.hid X4.out.kall
    have IX9 := Lib.hid X9.out.kall
    have IX11 := Lib.hid X11.out.kall
    try simp only [List.getElem_toArray, List.getElem_cons_succ, List.getElem_cons_zero, Act.put, List.setIfInBounds_toArray, List.set_cons_zero, List.set_cons_succ]
    refine region_kept (by kernel_rfl) (by kernel_rfl) ?_
    repeat (first | ((with_reducible refine q_it 4 ?_ ?_ IX4.out ?_); (first | rfl | (simp [Region.wanted, yielded]; done)); (rfl); try simp only [List.getElem_toArray, List.getElem_cons_succ, List.getElem_cons_zero, Act.put, List.setIfInBounds_toArray, List.set_cons_zero, List.set_cons_succ]) | ((with_reducible refine q_it 9 ?_ ?_ IX9.out ?_); (first | rfl | (simp [Region.wanted, yielded]; done)); (rfl); try simp only [List.getElem_toArray, List.getElem_cons_succ, List.getElem_cons_zero, Act.put, List.setIfInBounds_toArray, List.set_cons_zero, List.set_cons_succ]) | ((with_reducible refine q_it 11 ?_ ?_ IX11.out ?_); (first | rfl | (simp [Region.wanted, yielded]; done)); (rfl); try simp only [List.getElem_toArray, List.getElem_cons_succ, List.getElem_cons_zero, Act.put, List.setIfInBounds_toArray, List.set_cons_zero, List.set_cons_succ]) | go_big_quiet_step (first | (go_at_call 20; with_reducible exact Kept.call (AW.out _)) | (go_at_call 26; with_reducible exact Kept.call (U1.out _)) | (go_at_call 27; with_reducible exact Kept.call (U2.out _)) | (go_at_call 26; with_reducible exact Kept.call (U3.out _)) | (go_at_call 26; with_reducible exact Kept.call (U4.out _)) | (go_at_call 27; with_reducible exact Kept.call (U5.out _))))
    refine wpQuiet_nil ?_
    intro w8 qq
    clear IX4 IX9 IX11
    replace X4 := Lib.hid (X4.out.kept qq)
    replace X9 := Lib.hid (X9.out.kept qq)
    replace X11 := Lib.hid (X11.out.kept qq)
    replace QQ := Lib.hid (Qw.trans QQ.out qq)
    clear qq
    go_wp2
    go_ret
    first | exact ⟨rfl, QQ.out⟩ | exact ⟨ret_bl (by simp [*]), QQ.out⟩
  · obtain ⟨J, hJ⟩ : ∃ J : Ac.I, J = { i with k := b } := ⟨_, rfl⟩
    have eJ : (itc i).setIfInBounds 0 (.int .i64 b) = itc ({ i with k := b }) := by simp [itc]
    rw [← hJ] at eJ
    have wJ : Ac.Wf J := by rw [hJ]; have h := GD.out.wf; exact ⟨(show Ac.w64 (b) from ⟨by omega, by omega⟩), h.fx, h.fy, h.fz, h.tx, h.ty, h.tz, h.p, h.cx, h.cy, h.cz, h.d⟩
    have EJ := Lib.hid eJ
    clear eJ hJ
    have z0 := X11.out.i0
    have y0 := X11.out.free 0
    go_upto_region 26 with fail
    refine code_of (fun w' => Bx w' B4 (itc r) IT ∧ Bx w' B9 (itc i) IT ∧ Bx w' B11 (itc J) IT ∧ Qw w w') ⟨X4.out.other m11_4.out _, X9.out.other m11_9.out _, EJ.out ▸ (X11.out.set 0 _), QQ.out.sc h11.out _⟩ ?_
    clear X4 X9 X11 QQ EJ z0 y0
    rintro wG ⟨x4, x9, x11, qq⟩
    have X4 := Lib.hid x4
    have X9 := Lib.hid x9
    have X11 := Lib.hid x11
    have QQ := Lib.hid qq
    clear x4 x9 x11 qq
    have u1 := fun w' => apCheck r hr w'
    have u2 := fun w' => arCheck r hr w'
    have u3 := fun w' => apCheck i GD.out.wf w'
    rw [GD.out.chk] at u3
    have u4 := fun w' => apCheck J wJ w'
    have u5 := fun w' => arCheck J wJ w'
    generalize Ac.chk r = E1 at *
    generalize Ac.chk J = E3 at *
    have U1 := Lib.hid u1
    have U2 := Lib.hid u2
    have U3 := Lib.hid u3
    have U4 := Lib.hid u4
    have U5 := Lib.hid u5
    clear u1 u2 u3 u4 u5 wJ
    have e1 : (E1 == E1) = true := by simp
    have e3 : (E3 == E3) = true := by simp
    have IX4 := Lib.hid X4.out.kall
    have IX9 := Lib.hid X9.out.kall
    have IX11 := Lib.hid X11.out.kall
    try simp only [List.getElem_toArray, List.getElem_cons_succ, List.getElem_cons_zero, Act.put, List.setIfInBounds_toArray, List.set_cons_zero, List.set_cons_succ]
    refine region_kept (by kernel_rfl) (by kernel_rfl) ?_
    repeat (first | ((with_reducible refine q_it 4 ?_ ?_ IX4.out ?_); (first | rfl | (simp [Region.wanted, yielded]; done)); (rfl); try simp only [List.getElem_toArray, List.getElem_cons_succ, List.getElem_cons_zero, Act.put, List.setIfInBounds_toArray, List.set_cons_zero, List.set_cons_succ]) | ((with_reducible refine q_it 9 ?_ ?_ IX9.out ?_); (first | rfl | (simp [Region.wanted, yielded]; done)); (rfl); try simp only [List.getElem_toArray, List.getElem_cons_succ, List.getElem_cons_zero, Act.put, List.setIfInBounds_toArray, List.set_cons_zero, List.set_cons_succ]) | ((with_reducible refine q_it 11 ?_ ?_ IX11.out ?_); (first | rfl | (simp [Region.wanted, yielded]; done)); (rfl); try simp only [List.getElem_toArray, List.getElem_cons_succ, List.getElem_cons_zero, Act.put, List.setIfInBounds_toArray, List.set_cons_zero, List.set_cons_succ]) | go_big_quiet_step (first | (go_at_call 20; with_reducible exact Kept.call (AW.out _)) | (go_at_call 26; with_reducible exact Kept.call (U1.out _)) | (go_at_call 27; with_reducible exact Kept.call (U2.out _)) | (go_at_call 26; with_reducible exact Kept.call (U3.out _)) | (go_at_call 26; with_reducible exact Kept.call (U4.out _)) | (go_at_call 27; with_reducible exact Kept.call (U5.out _))))
    refine wpQuiet_nil ?_
    intro w8 qq
    clear IX4 IX9 IX11
    replace X4 := Lib.hid (X4.out.kept qq)
    replace X9 := Lib.hid (X9.out.kept qq)
    replace X11 := Lib.hid (X11.out.kept qq)
    replace QQ := Lib.hid (Qw.trans QQ.out qq)
    clear qq
    go_wp2
    go_ret
    first | exact ⟨rfl, QQ.out⟩ | exact ⟨ret_bl (by simp [*]), QQ.out⟩
  · obtain ⟨J, hJ⟩ : ∃ J : Ac.I, J = { i with fx := b } := ⟨_, rfl⟩
    have eJ : (itc i).setIfInBounds 2 (.int .i64 b) = itc ({ i with fx := b }) := by simp [itc]
    rw [← hJ] at eJ
    have wJ : Ac.Wf J := by rw [hJ]; have h := GD.out.wf; exact ⟨h.k, (show Ac.w64 (b) from ⟨by omega, by omega⟩), h.fy, h.fz, h.tx, h.ty, h.tz, h.p, h.cx, h.cy, h.cz, h.d⟩
    have EJ := Lib.hid eJ
    clear eJ hJ
    have z2 := X11.out.i2
    have y2 := X11.out.free 2
    go_upto_region 26 with fail
    refine code_of (fun w' => Bx w' B4 (itc r) IT ∧ Bx w' B9 (itc i) IT ∧ Bx w' B11 (itc J) IT ∧ Qw w w') ⟨X4.out.other m11_4.out _, X9.out.other m11_9.out _, EJ.out ▸ (X11.out.set 2 _), QQ.out.sc h11.out _⟩ ?_
    clear X4 X9 X11 QQ EJ z2 y2
    rintro wG ⟨x4, x9, x11, qq⟩
    have X4 := Lib.hid x4
    have X9 := Lib.hid x9
    have X11 := Lib.hid x11
    have QQ := Lib.hid qq
    clear x4 x9 x11 qq
    have u1 := fun w' => apCheck r hr w'
    have u2 := fun w' => arCheck r hr w'
    have u3 := fun w' => apCheck i GD.out.wf w'
    rw [GD.out.chk] at u3
    have u4 := fun w' => apCheck J wJ w'
    have u5 := fun w' => arCheck J wJ w'
    generalize Ac.chk r = E1 at *
    generalize Ac.chk J = E3 at *
    have U1 := Lib.hid u1
    have U2 := Lib.hid u2
    have U3 := Lib.hid u3
    have U4 := Lib.hid u4
    have U5 := Lib.hid u5
    clear u1 u2 u3 u4 u5 wJ
    have e1 : (E1 == E1) = true := by simp
    have e3 : (E3 == E3) = true := by simp
    have IX4 := Lib.hid X4.out.kall
    have IX9 := Lib.hid X9.out.kall
    have IX11 := Lib.hid X11.out.kall
    try simp only [List.getElem_toArray, List.getElem_cons_succ, List.getElem_cons_zero, Act.put, List.setIfInBounds_toArray, List.set_cons_zero, List.set_cons_succ]
    refine region_kept (by kernel_rfl) (by kernel_rfl) ?_
    repeat (first | ((with_reducible refine q_it 4 ?_ ?_ IX4.out ?_); (first | rfl | (simp [Region.wanted, yielded]; done)); (rfl); try simp only [List.getElem_toArray, List.getElem_cons_succ, List.getElem_cons_zero, Act.put, List.setIfInBounds_toArray, List.set_cons_zero, List.set_cons_succ]) | ((with_reducible refine q_it 9 ?_ ?_ IX9.out ?_); (first | rfl | (simp [Region.wanted, yielded]; done)); (rfl); try simp only [List.getElem_toArray, List.getElem_cons_succ, List.getElem_cons_zero, Act.put, List.setIfInBounds_toArray, List.set_cons_zero, List.set_cons_succ]) | ((with_reducible refine q_it 11 ?_ ?_ IX11.out ?_); (first | rfl | (simp [Region.wanted, yielded]; done)); (rfl); try simp only [List.getElem_toArray, List.getElem_cons_succ, List.getElem_cons_zero, Act.put, List.setIfInBounds_toArray, List.set_cons_zero, List.set_cons_succ]) | go_big_quiet_step (first | (go_at_call 20; with_reducible exact Kept.call (AW.out _)) | (go_at_call 26; with_reducible exact Kept.call (U1.out _)) | (go_at_call 27; with_reducible exact Kept.call (U2.out _)) | (go_at_call 26; with_reducible exact Kept.call (U3.out _)) | (go_at_call 26; with_reducible exact Kept.call (U4.out _)) | (go_at_call 27; with_reducible exact Kept.call (U5.out _))))
    refine wpQuiet_nil ?_
    intro w8 qq
    clear IX4 IX9 IX11
    replace X4 := Lib.hid (X4.out.kept qq)
    replace X9 := Lib.hid (X9.out.kept qq)
    replace X11 := Lib.hid (X11.out.kept qq)
    replace QQ := Lib.hid (Qw.trans QQ.out qq)
    clear qq
    go_wp2
    go_ret
    first | exact ⟨rfl, QQ.out⟩ | exact ⟨ret_bl (by simp [*]), QQ.out⟩
  · obtain ⟨J, hJ⟩ : ∃ J : Ac.I, J = { i with cy := b } := ⟨_, rfl⟩
    have eJ : (itc i).setIfInBounds 10 (.int .i64 b) = itc ({ i with cy := b }) := by simp [itc]
    rw [← hJ] at eJ
    have wJ : Ac.Wf J := by rw [hJ]; have h := GD.out.wf; exact ⟨h.k, h.fx, h.fy, h.fz, h.tx, h.ty, h.tz, h.p, h.cx, (show Ac.w64 (b) from ⟨by omega, by omega⟩), h.cz, h.d⟩
    have EJ := Lib.hid eJ
    clear eJ hJ
    have z10 := X11.out.i10
    have y10 := X11.out.free 10
    go_upto_region 26 with fail
    refine code_of (fun w' => Bx w' B4 (itc r) IT ∧ Bx w' B9 (itc i) IT ∧ Bx w' B11 (itc J) IT ∧ Qw w w') ⟨X4.out.other m11_4.out _, X9.out.other m11_9.out _, EJ.out ▸ (X11.out.set 10 _), QQ.out.sc h11.out _⟩ ?_
    clear X4 X9 X11 QQ EJ z10 y10
    rintro wG ⟨x4, x9, x11, qq⟩
    have X4 := Lib.hid x4
    have X9 := Lib.hid x9
    have X11 := Lib.hid x11
    have QQ := Lib.hid qq
    clear x4 x9 x11 qq
    have u1 := fun w' => apCheck r hr w'
    have u2 := fun w' => arCheck r hr w'
    have u3 := fun w' => apCheck i GD.out.wf w'
    rw [GD.out.chk] at u3
    have u4 := fun w' => apCheck J wJ w'
    have u5 := fun w' => arCheck J wJ w'
    generalize Ac.chk r = E1 at *
    generalize Ac.chk J = E3 at *
    have U1 := Lib.hid u1
    have U2 := Lib.hid u2
    have U3 := Lib.hid u3
    have U4 := Lib.hid u4
    have U5 := Lib.hid u5
    clear u1 u2 u3 u4 u5 wJ
    have e1 : (E1 == E1) = true := by simp
    have e3 : (E3 == E3) = true := by simp
    have IX4 := Lib.hid X4.out.kall
    have IX9 := Lib.hid X9.out.kall
    have IX11 := Lib.hid X11.out.kall
    try simp only [List.getElem_toArray, List.getElem_cons_succ, List.getElem_cons_zero, Act.put, List.setIfInBounds_toArray, List.set_cons_zero, List.set_cons_succ]
    refine region_kept (by kernel_rfl) (by kernel_rfl) ?_
    repeat (first | ((with_reducible refine q_it 4 ?_ ?_ IX4.out ?_); (first | rfl | (simp [Region.wanted, yielded]; done)); (rfl); try simp only [List.getElem_toArray, List.getElem_cons_succ, List.getElem_cons_zero, Act.put, List.setIfInBounds_toArray, List.set_cons_zero, List.set_cons_succ]) | ((with_reducible refine q_it 9 ?_ ?_ IX9.out ?_); (first | rfl | (simp [Region.wanted, yielded]; done)); (rfl); try simp only [List.getElem_toArray, List.getElem_cons_succ, List.getElem_cons_zero, Act.put, List.setIfInBounds_toArray, List.set_cons_zero, List.set_cons_succ]) | ((with_reducible refine q_it 11 ?_ ?_ IX11.out ?_); (first | rfl | (simp [Region.wanted, yielded]; done)); (rfl); try simp only [List.getElem_toArray, List.getElem_cons_succ, List.getElem_cons_zero, Act.put, List.setIfInBounds_toArray, List.set_cons_zero, List.set_cons_succ]) | go_big_quiet_step (first | (go_at_call 20; with_reducible exact Kept.call (AW.out _)) | (go_at_call 26; with_reducible exact Kept.call (U1.out _)) | (go_at_call 27; with_reducible exact Kept.call (U2.out _)) | (go_at_call 26; with_reducible exact Kept.call (U3.out _)) | (go_at_call 26; with_reducible exact Kept.call (U4.out _)) | (go_at_call 27; with_reducible exact Kept.call (U5.out _))))
    refine wpQuiet_nil ?_
    intro w8 qq
    clear IX4 IX9 IX11
    replace X4 := Lib.hid (X4.out.kept qq)
    replace X9 := Lib.hid (X9.out.kept qq)
    replace X11 := Lib.hid (X11.out.kept qq)
    replace QQ := Lib.hid (Qw.trans QQ.out qq)
    clear qq
    go_wp2
    go_ret
    first | exact ⟨rfl, QQ.out⟩ | exact ⟨ret_bl (by simp [*]), QQ.out⟩

/-! ### the row -/
theorem own_arcCheck : ownKnob Try.prog.godebug = none := by kernel_rfl
set_option maxRecDepth 100000 in
theorem lifted_arcCheck (os : Os) (started : os.Started) (H : Type) (enc : TypeId × Value → H) :
    ReturnsInHanded {} Try.checked os 5 .any (Rows.arcCheckSpec.pre6 enc Try.prog Try.f5 Rows.arcCheckRow.domain false) (Rows.arcCheckSpec.post enc Try.prog Try.f5 false true false false) := by
  refine returnsInHanded_of_change (C := Try.checked) own_arcCheck started (by kernel_rfl) Try.func5
    (ChangeSpec.witness6 (enc := enc) (C := Try.checked) false ⟨#[], #[.agg #[.int .i64 0, .int .i64 0, .int .i64 0, .int .i64 0, .int .i64 0, .int .i64 0, .int .i64 0, .int .i64 0, .int .i64 0, .int .i64 0, .int .i64 0, .int .i64 0, .int .i64 0, .bool false, .int .i64 0, .bool false, .int .i64 0, .int .i64 0, .int .i64 0, .int .i64 0, .int .i64 0, .bool false], .slice none 0 0, .int .i64 0, .int .i64 0], []⟩ 8 (by kernel_rfl) (by kernel_rfl) (by kernel_rfl) (by kernel_rfl)) ?_
  intro W base args ds gs before hval0 hW hcnd _
  have hval : ∀ (j : Nat) t v, Try.f5.params[j]? = some t → args[j]? = some v → Value.okWide Try.prog W .any base t v := hval0
  have hW' := hW
  obtain ⟨p, q, hA0, hV, rfl, hfz, hnd⟩ := hW
  have hA : DataW.TrodAll enc Try.prog W 0 (fun _ => true) true Try.f5.params.toList args.toList ds p := hA0
  rw [Try.params5] at hA hval
  obtain ⟨v0, vs0, d0, ds0, p0, q0, hargs, rfl, rfl, h0, r0⟩ := trodAll_cons hA
  obtain ⟨v1, vs1, d1, ds1, p1, q1, rfl, rfl, rfl, h1, r1⟩ := trodAll_cons r0
  obtain ⟨v2, vs2, d2, ds2, p2, q2, rfl, rfl, rfl, h2, r2⟩ := trodAll_cons r1
  obtain ⟨v3, vs3, d3, ds3, p3, q3, rfl, rfl, rfl, h3, r3⟩ := trodAll_cons r2
  obtain ⟨rfl, rfl, rfl⟩ := trodAll_nil r3
  obtain rfl : args = #[v0, v1, v2, v3] := by cases args; simp_all
  obtain ⟨rfl, rfl⟩ := trodVars_none hV
  obtain ⟨s0, hs0, hf0⟩ := open_it (hval 0 39 v0 rfl rfl) h0
  subst hs0
  obtain ⟨u1, hu1⟩ := inM_ints (hval 1 40 v1 rfl rfl) h1
  obtain ⟨a2, rfl, rfl, rfl, w2⟩ := open_int Try.underlying3 (hval 2 3 v2 rfl rfl) h2
  obtain ⟨x2, y2⟩ := wfM w2
  obtain ⟨a3, rfl, rfl, rfl, w3⟩ := open_int Try.underlying3 (hval 3 3 v3 rfl rfl) h3
  obtain ⟨x3, y3⟩ := wfM w3
  clear hA0 hval0
  simp only [List.append_nil] at hW'
  refine (walk_arcCheck s0 v1 u1 a2 x2 y2 a3 x3 y3 W hf0 hu1).mono fun e W' ⟨he, bel⟩ => ?_
  subst he
  exact ⟨_, rfl, _, _, _, [], _, [], hW', trodAll_mk1 (shut_bool Try.underlying4 _), (trodAll_cons_mk (out_it h0 bel (fun x hx => hW'.lt x (by first | exact hx | simp [hx]))) (trodAll_cons_mk (outM_ints h1 bel (fun x hx => hW'.lt x (by first | exact hx | simp [hx]))) (trodAll_cons_mk (shut_int Try.underlying3 w2) (trodAll_cons_mk (shut_int Try.underlying3 w3) trodAll_mk0)))), rfl, Below.frame bel _, fun h => by cases h⟩

/-- The statement. -/
theorem arcCheck_holds : Rows.ArcCheckSaid :=
  OpenClaim.holds_of_wide 5 Try.f5 rfl rfl rfl rfl rfl rfl rfl ⟨rfl, rfl, rfl, rfl, rfl⟩ rfl rfl rfl rfl rfl (by kernel_rfl) Try.func5 (by kernel_rfl)
    (of_decide_eq_true (by kernel_rfl)) (by unfold Func.isWrapper; first | (rw [if_pos (by decide +kernel)]; kernel_rfl) | (rw [if_neg (by decide +kernel)]; exact ⟨rfl, rfl⟩))
    (fun os started H enc _ => lifted_arcCheck os started H enc)

end Go.Proofs.Ytihmifdadikhaaa
