
/- ArcSpokes: An arc passes its ends; its opposite passes the other directions; together they pass all.
   Conditions: none; every input. -/
import Derived.Test.YtihmifdadikhaaaRows
import Derived.Test.YtihmifdadikhaaaGR
import Derived.Test.YtihmifdadikhaaaGI
import Derived.Test.YtihmifdadikhaaaGG
set_option linter.unusedVariables false
set_option linter.unusedSimpArgs false
namespace Go.Proofs.Ytihmifdadikhaaa
open Go.ChangeShapes Go.WideShapes Go.ChangeAt Go.RowKit

namespace Ac
/-- The arc in the opposite direction. -/
def ng (i : I) : I := { i with d := -i.d }
theorem ng_gd {i : I} (h : Gd i) : Gd (ng i) := ⟨h.k, h.p1, h.p2, by show -i.d = 1 ∨ -i.d = -1; have := h.d; omega, h.fx, h.fy, h.fz, h.tx, h.ty, h.tz, h.cx, h.cy, h.cz, h.h, h.ft, h.ag⟩
/-- The directions of the ends. -/
def endB (i : I) (x y : Int) : Bool := (decide (cr (au i) (aw i) x y = 0) && decide (0 < inn (au i) (aw i) x y)) || (decide (cr (bu i) (bw i) x y = 0) && decide (0 < inn (bu i) (bw i) x y))
theorem spk_law {i : I} (g : Gd i) {x y : Int} (hp : ¬ (x = 0 ∧ y = 0)) : (i.u = true ∧ ins i x y = true ∧ ins (ng i) x y = true) ∨ (i.u = false ∧ (ins i x y || ins (ng i) x y) = true ∧ (ins i x y && ins (ng i) x y) = endB i x y) := by
  cases hu : i.u
  · refine .inr ⟨rfl, ?_⟩
    have hu' : (ng i).u = false := hu
    have t := g.tri hu hp
    obtain ⟨b1, b2⟩ := both t
    have e1 := g.ins hp
    have e2 := (ng_gd g).ins hp
    rw [if_neg (by rw [hu]; decide)] at e1
    rw [if_neg (by rw [hu']; decide)] at e2
    change ins (ng i) x y = (if -i.d < 0 then pas (bu i) (bw i) x y (au i) (aw i) else pas (au i) (aw i) x y (bu i) (bw i)) at e2
    have b3 : (pas (au i) (aw i) x y (bu i) (bw i) && pas (bu i) (bw i) x y (au i) (aw i)) = endB i x y := by
      rw [Bool.eq_iff_iff, Bool.and_eq_true, b2]
      simp [endB]
    rcases g.d with k | k
    · rw [k, if_neg (by decide)] at e1
      rw [k, if_pos (by decide)] at e2
      rw [e1, e2]
      exact ⟨by simpa using b1, b3⟩
    · rw [k, if_pos (by decide)] at e1
      rw [k, if_neg (by decide)] at e2
      rw [e1, e2]
      exact ⟨by rw [Bool.or_comm]; simpa using b1, by rw [Bool.and_comm]; exact b3⟩
  · exact .inl ⟨rfl, by unfold ins; rw [if_pos hu], by unfold ins; rw [if_pos (show (ng i).u = true from hu)]⟩
theorem spk_ends {i : I} (g : Gd i) : ins i (au i) (aw i) = true ∧ ins i (bu i) (bw i) = true ∧ ¬ (au i = 0 ∧ aw i = 0) ∧ ¬ (bu i = 0 ∧ bw i = 0) := by
  have f := fit_pos g.ft
  have n1 : ¬ (au i = 0 ∧ aw i = 0) := fun h => by have f1 := f.1; rw [h.1, h.2] at f1; exact absurd f1 (by decide)
  have n2 : ¬ (bu i = 0 ∧ bw i = 0) := fun h => by have f1 := f.2; rw [h.1, h.2] at f1; exact absurd f1 (by decide)
  refine ⟨?_, ?_, n1, n2⟩
  · rw [g.ins n1]
    cases hu : i.u
    · have t := g.tri hu n1
      have p1 := pas_ends t.a0 t.b0
      have p2 := pas_ends t.b0 t.a0
      simp only [Bool.false_eq_true, if_false]
      split
      · exact p2.2
      · exact p1.1
    · rfl
  · rw [g.ins n2]
    cases hu : i.u
    · have t := g.tri hu n2
      have p1 := pas_ends t.a0 t.b0
      have p2 := pas_ends t.b0 t.a0
      simp only [Bool.false_eq_true, if_false]
      split
      · exact p2.1
      · exact p1.2
    · rfl
end Ac
theorem itc_ng (i : Ac.I) : (itc i).setIfInBounds 12 (.int .i64 (-i.d)) = itc (Ac.ng i) := by simp [itc, Ac.ng]
section
variable {ops : Array Oper} {rest : List Oper} {dst : Option Tmp} {ty : TypeId} {pos : String} {after : Array Edge} {gd : Option (Nat × Bool)} {a : Act} {w : World} {Q : Exit → Act → World → Prop} {P : Nat} {f : Ac.I}
theorem gd_it (t : Tmp) (hw : Region.wanted ⟨dst, .load IT (.tmp t), ty, pos, after, gd⟩ (yielded ops a.tmps) = true) (hx : a.eval (.tmp t) = .pointer (some ⟨P, 0, none⟩)) (X : Bx w P (itc f) IT)
    (h : wpList Try.prog ops Q rest (a.put dst (.agg (itc f))) w) : wpList Try.prog ops Q (⟨dst, .load IT (.tmp t), ty, pos, after, gd⟩ :: rest) a w :=
  wpList_step fun K hK => by
    rw [if_pos hw]
    unfold Oper.wp execOp
    simp only [hx, Sem.run_bind, run_load_it w P f X, Result.andThen_ok, Sem.run_pure]
    exact hK _ _ h
end
theorem Bx.kall {W : World} {b : Nat} {cs : Array Value} {t : TypeId} (h : Bx W b cs t) : ∀ w', (∃ p : Kept W, w' = p.v) → Bx w' b cs t := fun _ ⟨p, e⟩ => e ▸ h.kept p.h
theorem arcN2_arcSpokes {w w1 : World} {B : Nat} {v : Value} {zs : List Int} (h : TapeAt w1 B v zs 0) (q : Qw w w1) (hB : w.heap.size ≤ B) : Calls Try.prog 24 #[.pointer (some ⟨B, 0, none⟩)] w1 fun e w' => (∃ i : Ac.I, e = .returned (.agg (itc i)) ∧ Ac.Gd i) ∧ Qw w w' ∧ w1.grownBy w' (some B) :=
  (arcD B v zs w1 w1 (Tm.of h)).mono fun _ _ ⟨hf, _, g⟩ => ⟨hf, q.gb hB g, g⟩
theorem vbtwS (v l h : Int) (lh : l ≤ h) : l ≤ l + v % (h - l + 1) ∧ l + v % (h - l + 1) ≤ h := by
  have := Int.emod_nonneg v (show h - l + 1 ≠ 0 by omega)
  have := Int.emod_lt_of_pos v (show 0 < h - l + 1 by omega)
  omega
set_option maxRecDepth 100000 in
set_option maxHeartbeats 8000000 in
theorem walk_arcSpokes (v1 : Value) (z1 : List Int) (x : Int) (x1 : -9223372036854775808 ≤ x) (x2 : x ≤ 9223372036854775807) (y : Int) (y1 : -9223372036854775808 ≤ y) (y2 : y ≤ 9223372036854775807) (w : World) (h1 : IntsB w.heap.size w v1 z1) : Calls Try.prog 9 #[v1, .agg #[.int .i64 x, .int .i64 y]] w fun e w' => e = .returned (.bool true) ∧ Below w.heap.size w w' := by
  have AW := Lib.hid awakeA
  cases k1 : decide (z1.length ≤ 120)
  · have L1 := Lib.hid (fun (w' : World) (q : Qw w w') => lightN h1 q k1)
    clear k1 h1
    have QQ : Hid (Qw w w) := Lib.hid (Qw.refl w)
    go_enter Try.func9, Try.ntmps9
    go_upto_region 1 with (go_big_may; ((with_reducible refine box_pt (x := ?_) (y := ?_) 1 ?_ ?_); rotate_left 2; (rfl); intro w1 B3 hb xx qq; have h3 := Lib.hid (Nat.le_trans QQ.out.size hb); replace QQ := Lib.hid (Qw.trans QQ.out qq); have X3 := Lib.hid xx; clear xx qq hb))
    go_upto_region 2 with (go_big_may; (go_at_call 23; ((with_reducible refine (L1.out _ QQ.out).mono ?_); rintro e w' ⟨rfl, rfl⟩)))
    go_wp2_with (go_at_call 20; ((with_reducible refine (AW.out _).mono ?_); rintro e w2 ⟨rfl, qq⟩; replace X3 := Lib.hid (X3.out.kept qq); replace QQ := Lib.hid (Qw.trans QQ.out qq); clear qq))
    go_ret
    exact ⟨rfl, QQ.out⟩
  have L1 := Lib.hid (fun (w' : World) (q : Qw w w') => lightN h1 q k1)
  have H1 := Lib.hid h1
  clear k1 h1
  have QQ : Hid (Qw w w) := Lib.hid (Qw.refl w)
  go_enter Try.func9, Try.ntmps9
  go_upto_region 1 with (go_big_may; ((with_reducible refine box_pt (x := ?_) (y := ?_) 1 ?_ ?_); rotate_left 2; (rfl); intro w1 B3 hb xx qq; have h3 := Lib.hid (Nat.le_trans QQ.out.size hb); replace QQ := Lib.hid (Qw.trans QQ.out qq); have X3 := Lib.hid xx; clear xx qq hb))
  go_upto_region 3 with (go_big_may; (go_at_call 23; ((with_reducible refine (L1.out _ QQ.out).mono ?_); rintro e w' ⟨rfl, rfl⟩)))
  go_upto_region 4 with (go_big_may; (first | ((with_reducible refine al_it (dst := some 5) ?_); intro w2 B5 hb xx qq; have n5_3 := Lib.hid (Nat.ne_of_gt (Nat.lt_of_lt_of_le X3.out.lt hb)); have m5_3 := Lib.hid (Nat.ne_of_lt (Nat.lt_of_lt_of_le X3.out.lt hb)); have h5 := Lib.hid (Nat.le_trans QQ.out.size hb); replace X3 := Lib.hid (X3.out.kept qq); replace QQ := Lib.hid (Qw.trans QQ.out qq); have X5 := Lib.hid xx; clear xx qq hb) | ((with_reducible refine st_itO (g := ?_) 5 18 ?_ ?_ X5.out ?_); rotate_left 1; (rfl); (rfl); intro w3 xx qf ot; replace X3 := Lib.hid (ot _ _ _ m5_3.out X3.out); replace QQ := Lib.hid (qf _ QQ.out h5.out); replace X5 := Lib.hid xx; clear xx qf ot) | (go_at_call 25; ((with_reducible refine (newN H1.out QQ.out).mono ?_); rintro e wT ⟨rfl, t, qq⟩; have T1 := Lib.hid t; have hB := Lib.hid QQ.out.size; have nT := Lib.hid (Nat.ne_of_lt X3.out.lt); replace X3 := Lib.hid (X3.out.kept qq); replace QQ := Lib.hid (Qw.trans QQ.out qq); clear t qq)) | (go_at_call 24; ((with_reducible refine (arcN2_arcSpokes T1.out QQ.out hB.out).mono ?_); rintro e wA ⟨⟨i, rfl, gd⟩, qq, gg⟩; have GD := Lib.hid gd; replace X3 := Lib.hid (X3.out.grM gg nT.out); replace QQ := Lib.hid qq; clear qq gd gg T1 nT))))
  have SP := Lib.hid (fun w' => apSpokes i GD.out.near w')
  have hd0 := GD.out.d
  obtain ⟨hd1, hd2⟩ : -1 ≤ i.d ∧ i.d ≤ 1 := by omega
  clear hd0 L1 H1 hB
  go_upto_region 5 with (go_big_may; (first | ((with_reducible refine ld_it 5 ?_ X5.out ?_); (rfl)) | (go_at_call 28; ((with_reducible refine (SP.out _).mono ?_); rintro e w4 ⟨rfl, qq⟩; replace X3 := Lib.hid (X3.out.kept qq); replace X5 := Lib.hid (X5.out.kept qq); replace QQ := Lib.hid (Qw.trans QQ.out qq); clear qq)) | ((with_reducible refine al_pt (dst := some 6) ?_); intro w5 B6 hb xx qq; have n6_3 := Lib.hid (Nat.ne_of_gt (Nat.lt_of_lt_of_le X3.out.lt hb)); have n6_5 := Lib.hid (Nat.ne_of_gt (Nat.lt_of_lt_of_le X5.out.lt hb)); have m6_3 := Lib.hid (Nat.ne_of_lt (Nat.lt_of_lt_of_le X3.out.lt hb)); have m6_5 := Lib.hid (Nat.ne_of_lt (Nat.lt_of_lt_of_le X5.out.lt hb)); have h6 := Lib.hid (Nat.le_trans QQ.out.size hb); replace X3 := Lib.hid (X3.out.kept qq); replace X5 := Lib.hid (X5.out.kept qq); replace QQ := Lib.hid (Qw.trans QQ.out qq); have X6 := Lib.hid xx; clear xx qq hb) | ((with_reducible refine al_pt (dst := some 7) ?_); intro w6 B7 hb xx qq; have n7_3 := Lib.hid (Nat.ne_of_gt (Nat.lt_of_lt_of_le X3.out.lt hb)); have n7_5 := Lib.hid (Nat.ne_of_gt (Nat.lt_of_lt_of_le X5.out.lt hb)); have n7_6 := Lib.hid (Nat.ne_of_gt (Nat.lt_of_lt_of_le X6.out.lt hb)); have m7_3 := Lib.hid (Nat.ne_of_lt (Nat.lt_of_lt_of_le X3.out.lt hb)); have m7_5 := Lib.hid (Nat.ne_of_lt (Nat.lt_of_lt_of_le X5.out.lt hb)); have m7_6 := Lib.hid (Nat.ne_of_lt (Nat.lt_of_lt_of_le X6.out.lt hb)); have h7 := Lib.hid (Nat.le_trans QQ.out.size hb); replace X3 := Lib.hid (X3.out.kept qq); replace X5 := Lib.hid (X5.out.kept qq); replace X6 := Lib.hid (X6.out.kept qq); replace QQ := Lib.hid (Qw.trans QQ.out qq); have X7 := Lib.hid xx; clear xx qq hb) | ((with_reducible refine st_pt (x := ?_) (y := ?_) 6 22 ?_ ?_ X6.out ?_); rotate_left 2; (rfl); (rfl); intro w7 xx qf ot; replace X3 := Lib.hid (ot _ _ _ m6_3.out X3.out); replace X5 := Lib.hid (ot _ _ _ m6_5.out X5.out); replace X7 := Lib.hid (ot _ _ _ n7_6.out X7.out); replace QQ := Lib.hid (qf _ QQ.out h6.out); replace X6 := Lib.hid xx; clear xx qf ot) | ((with_reducible refine st_pt (x := ?_) (y := ?_) 7 23 ?_ ?_ X7.out ?_); rotate_left 2; (rfl); (rfl); intro w8 xx qf ot; replace X3 := Lib.hid (ot _ _ _ m7_3.out X3.out); replace X5 := Lib.hid (ot _ _ _ m7_5.out X5.out); replace X6 := Lib.hid (ot _ _ _ m7_6.out X6.out); replace QQ := Lib.hid (qf _ QQ.out h7.out); replace X7 := Lib.hid xx; clear xx qf ot)))
  go_upto_region 6 with (go_big_may; (first | ((with_reducible refine ld_it 5 ?_ X5.out ?_); (rfl)) | ((with_reducible refine al_it (dst := some 8) ?_); intro w9 B8 hb xx qq; have n8_3 := Lib.hid (Nat.ne_of_gt (Nat.lt_of_lt_of_le X3.out.lt hb)); have n8_5 := Lib.hid (Nat.ne_of_gt (Nat.lt_of_lt_of_le X5.out.lt hb)); have n8_6 := Lib.hid (Nat.ne_of_gt (Nat.lt_of_lt_of_le X6.out.lt hb)); have n8_7 := Lib.hid (Nat.ne_of_gt (Nat.lt_of_lt_of_le X7.out.lt hb)); have m8_3 := Lib.hid (Nat.ne_of_lt (Nat.lt_of_lt_of_le X3.out.lt hb)); have m8_5 := Lib.hid (Nat.ne_of_lt (Nat.lt_of_lt_of_le X5.out.lt hb)); have m8_6 := Lib.hid (Nat.ne_of_lt (Nat.lt_of_lt_of_le X6.out.lt hb)); have m8_7 := Lib.hid (Nat.ne_of_lt (Nat.lt_of_lt_of_le X7.out.lt hb)); have h8 := Lib.hid (Nat.le_trans QQ.out.size hb); replace X3 := Lib.hid (X3.out.kept qq); replace X5 := Lib.hid (X5.out.kept qq); replace X6 := Lib.hid (X6.out.kept qq); replace X7 := Lib.hid (X7.out.kept qq); replace QQ := Lib.hid (Qw.trans QQ.out qq); have X8 := Lib.hid xx; clear xx qq hb) | ((with_reducible refine st_itO (g := ?_) 8 24 ?_ ?_ X8.out ?_); rotate_left 1; (rfl); (rfl); intro w10 xx qf ot; replace X3 := Lib.hid (ot _ _ _ m8_3.out X3.out); replace X5 := Lib.hid (ot _ _ _ m8_5.out X5.out); replace X6 := Lib.hid (ot _ _ _ m8_6.out X6.out); replace X7 := Lib.hid (ot _ _ _ m8_7.out X7.out); replace QQ := Lib.hid (qf _ QQ.out h8.out); replace X8 := Lib.hid xx; clear xx qf ot)))
  have c5_12 := X5.out.i12
  have z8 := X8.out.i12
  have f8 := X8.out.free 12
  go_upto_region 7 with fail
  clear c5_12
  clear z8 f8
  refine code_of (fun w' => Bx w' B3 #[.int .i64 x, .int .i64 y] 32 ∧ Bx w' B5 (itc i) IT ∧ Bx w' B6 #[.int .i64 (Ac.au i), .int .i64 (Ac.aw i)] 32 ∧ Bx w' B7 #[.int .i64 (Ac.bu i), .int .i64 (Ac.bw i)] 32 ∧ Bx w' B8 (itc (Ac.ng i)) IT ∧ Qw w w') ⟨X3.out.other m8_3.out _, X5.out.other m8_5.out _, X6.out.other m8_6.out _, X7.out.other m8_7.out _, itc_ng i ▸ X8.out.set 12 _, QQ.out.sc h8.out _⟩ ?_
  clear X3 X5 X6 X7 X8 QQ SP hd1 hd2
  rintro wG ⟨x3, x5, x6, x7, x8, qq⟩
  have X3 := Lib.hid x3
  have X5 := Lib.hid x5
  have X6 := Lib.hid x6
  have X7 := Lib.hid x7
  have X8 := Lib.hid x8
  have QQ := Lib.hid qq
  clear x3 x5 x6 x7 x8 qq
  have cb0 := fun w => sameQ (betweenW x (-9000) 9000 x1 x2 (by decide) (by decide) (by decide) (by decide) w)
  have cb1 := fun w => sameQ (betweenW y (-9000) 9000 y1 y2 (by decide) (by decide) (by decide) (by decide) w)
  have mb0 := vbtwS x (-9000) 9000 (by decide)
  have mb1 := vbtwS y (-9000) 9000 (by decide)
  generalize -9000 + x % (9000 - -9000 + 1) = m0 at *
  generalize -9000 + y % (9000 - -9000 + 1) = m1 at *
  have CB0 := Lib.hid cb0
  have CB1 := Lib.hid cb1
  clear cb0 cb1
  have c3_0 := X3.out.kp0
  have c3_1 := X3.out.kp1
  try simp only [List.getElem_toArray, List.getElem_cons_succ, List.getElem_cons_zero, Act.put, List.setIfInBounds_toArray, List.set_cons_zero, List.set_cons_succ]
  refine region_kept_tail 7 (by kernel_rfl) (by kernel_rfl) ?_
  simp only [List.take_succ_cons, List.take_zero, List.drop_succ_cons, List.drop_zero]
  repeat (go_big_quiet_step (first | (go_at_call 17; with_reducible exact Kept.call (CB0.out _)) | (go_at_call 17; with_reducible exact Kept.call (CB1.out _))))
  refine wpQuiet_nil ?_
  intro w11 qq
  clear c3_0 c3_1
  replace X3 := Lib.hid (X3.out.kept qq)
  replace X5 := Lib.hid (X5.out.kept qq)
  replace X6 := Lib.hid (X6.out.kept qq)
  replace X7 := Lib.hid (X7.out.kept qq)
  replace X8 := Lib.hid (X8.out.kept qq)
  replace QQ := Lib.hid (Qw.trans QQ.out qq)
  clear qq
  go_upto_region 8 with (go_big_may; ((with_reducible refine st_pt (x := ?_) (y := ?_) 3 35 ?_ ?_ X3.out ?_); rotate_left 2; (rfl); (rfl); intro w12 xx qf ot; replace X5 := Lib.hid (ot _ _ _ n5_3.out X5.out); replace X6 := Lib.hid (ot _ _ _ n6_3.out X6.out); replace X7 := Lib.hid (ot _ _ _ n7_3.out X7.out); replace X8 := Lib.hid (ot _ _ _ n8_3.out X8.out); replace QQ := Lib.hid (qf _ QQ.out h3.out); replace X3 := Lib.hid xx; clear xx qf ot))
  obtain ⟨⟨ma, mb⟩, mc, md⟩ := And.intro mb0 mb1
  clear CB0 CB1 mb0 mb1
  obtain ⟨pz, hpz, EP⟩ := eq_pt m0 m1
  cases pz
  · have hp : ¬ (m0 = 0 ∧ m1 = 0) := fun h => by have := hpz.2 h; cases this
    have sl := Ac.spk_law GD.out hp
    obtain ⟨s1, s2, n1, n2⟩ := Ac.spk_ends GD.out
    obtain ⟨⟨a1, a2⟩, ⟨a3, a4⟩, ⟨a5, a6⟩, a7, a8⟩ := GD.out.bd
    have v1 := fun w' => apInside i GD.out m0 m1 (by omega) (by omega) (by omega) (by omega) hp w'
    have v2 := fun w' => apInside (Ac.ng i) (Ac.ng_gd GD.out) m0 m1 (by omega) (by omega) (by omega) (by omega) hp w'
    have v5 := fun w' => apInside i GD.out (Ac.au i) (Ac.aw i) (by omega) (by omega) (by omega) (by omega) n1 w'
    have v6 := fun w' => apInside i GD.out (Ac.bu i) (Ac.bw i) (by omega) (by omega) (by omega) (by omega) n2 w'
    rw [s1] at v5
    rw [s2] at v6
    have k1 := fun w' => vr_cross (Ac.au i) (Ac.aw i) m0 m1 (by omega) (by omega) (by omega) (by omega) (by omega) (by omega) (by omega) (by omega) w'
    have k2 := fun w' => vr_cross (Ac.bu i) (Ac.bw i) m0 m1 (by omega) (by omega) (by omega) (by omega) (by omega) (by omega) (by omega) (by omega) w'
    have o1 := fun w' => vr_inner (Ac.au i) (Ac.aw i) m0 m1 (by omega) (by omega) (by omega) (by omega) (by omega) (by omega) (by omega) (by omega) w'
    have o2 := fun w' => vr_inner (Ac.bu i) (Ac.bw i) m0 m1 (by omega) (by omega) (by omega) (by omega) (by omega) (by omega) (by omega) (by omega) w'
    change ∀ w', Calls Try.prog 40 _ w' fun e w'' => e = .returned (.int .i64 (Ac.cr (Ac.au i) (Ac.aw i) m0 m1)) ∧ Qw w' w'' at k1
    change ∀ w', Calls Try.prog 40 _ w' fun e w'' => e = .returned (.int .i64 (Ac.cr (Ac.bu i) (Ac.bw i) m0 m1)) ∧ Qw w' w'' at k2
    change ∀ w', Calls Try.prog 39 _ w' fun e w'' => e = .returned (.int .i64 (Ac.inn (Ac.au i) (Ac.aw i) m0 m1)) ∧ Qw w' w'' at o1
    change ∀ w', Calls Try.prog 39 _ w' fun e w'' => e = .returned (.int .i64 (Ac.inn (Ac.bu i) (Ac.bw i) m0 m1)) ∧ Qw w' w'' at o2
    unfold Ac.endB at sl
    generalize Ac.ins i m0 m1 = R1 at *
    generalize Ac.ins (Ac.ng i) m0 m1 = R2 at *
    generalize Ac.cr (Ac.au i) (Ac.aw i) m0 m1 = C1 at *
    generalize Ac.cr (Ac.bu i) (Ac.bw i) m0 m1 = C2 at *
    generalize Ac.inn (Ac.au i) (Ac.aw i) m0 m1 = I1 at *
    generalize Ac.inn (Ac.bu i) (Ac.bw i) m0 m1 = I2 at *
    obtain ⟨EE, hE⟩ : ∃ b, b = ((decide (C1 = 0) && decide (0 < I1)) || (decide (C2 = 0) && decide (0 < I2))) := ⟨_, rfl⟩
    rw [← hE] at sl
    have HE := Lib.hid hE
    have SL := Lib.hid sl
    have V1 := Lib.hid v1
    have V2 := Lib.hid v2
    have V5 := Lib.hid v5
    have V6 := Lib.hid v6
    have K1 := Lib.hid k1
    have K2 := Lib.hid k2
    have O1 := Lib.hid o1
    have O2 := Lib.hid o2
    clear v1 v2 v5 v6 k1 k2 o1 o2 hE sl s1 s2 n1 n2 a1 a2 a3 a4 a5 a6 a7 a8 hp hpz
    go_upto_region 10 with (go_big_may; ((with_reducible refine ld_pt 3 ?_ X3.out ?_); (rfl)))
    have c3_0 := X3.out.kp0
    have c3_1 := X3.out.kp1
    have IX5 := Lib.hid X5.out.kall
    have IX8 := Lib.hid X8.out.kall
    try simp only [List.getElem_toArray, List.getElem_cons_succ, List.getElem_cons_zero, Act.put, List.setIfInBounds_toArray, List.set_cons_zero, List.set_cons_succ]
    refine region_kept (by kernel_rfl) (by kernel_rfl) ?_
    repeat (first | ((with_reducible refine q_it 5 ?_ ?_ IX5.out ?_); (first | rfl | (simp [Region.wanted, yielded]; done)); (rfl); try simp only [List.getElem_toArray, List.getElem_cons_succ, List.getElem_cons_zero, Act.put, List.setIfInBounds_toArray, List.set_cons_zero, List.set_cons_succ]) | ((with_reducible refine q_it 8 ?_ ?_ IX8.out ?_); (first | rfl | (simp [Region.wanted, yielded]; done)); (rfl); try simp only [List.getElem_toArray, List.getElem_cons_succ, List.getElem_cons_zero, Act.put, List.setIfInBounds_toArray, List.set_cons_zero, List.set_cons_succ]) | go_big_quiet_step (first | (go_at_call 30; with_reducible exact Kept.call (V1.out _)) | (go_at_call 30; with_reducible exact Kept.call (V2.out _))))
    refine wpQuiet_nil ?_
    intro w13 qq
    clear c3_0 c3_1 IX5 IX8
    replace X3 := Lib.hid (X3.out.kept qq)
    replace X5 := Lib.hid (X5.out.kept qq)
    replace X6 := Lib.hid (X6.out.kept qq)
    replace X7 := Lib.hid (X7.out.kept qq)
    replace X8 := Lib.hid (X8.out.kept qq)
    replace QQ := Lib.hid (Qw.trans QQ.out qq)
    clear qq
    go_upto_region 11 with fail
    go_cut [11] (fun ev wx => ev = .bool EE ∧ Hid (Qw w13 wx))
    case first =>
      have hE := HE.out
      have QR : Hid (Qw w13 w13) := Lib.hid (Qw.refl _)
      clear HE SL V1 V2 V5 V6 AW
      by_cases c1 : C1 = 0
      · have z1 : (C1 == 0) = true := by simpa using c1
        by_cases d1 : 0 < I1
        · skip
          have e : EE = true := by rw [hE]; simp [*]
          subst e
          clear hE
          go_wp2_with (first | ((with_reducible refine ld_pt 6 ?_ X6.out ?_); (rfl)) | ((with_reducible refine ld_pt 3 ?_ X3.out ?_); (rfl)) | (go_at_call 40; ((with_reducible refine (K1.out _).mono ?_); rintro e w14 ⟨rfl, qq⟩; replace X3 := Lib.hid (X3.out.kept qq); replace X5 := Lib.hid (X5.out.kept qq); replace X6 := Lib.hid (X6.out.kept qq); replace X7 := Lib.hid (X7.out.kept qq); replace X8 := Lib.hid (X8.out.kept qq); replace QQ := Lib.hid (Qw.trans QQ.out qq); replace QR := Lib.hid (Qw.trans QR.out qq); have c6_0 := X6.out.p0; have c6_1 := X6.out.p1; have c7_0 := X7.out.p0; have c7_1 := X7.out.p1; have c3_0 := X3.out.p0; have c3_1 := X3.out.p1; clear qq; have c6_0 := X6.out.p0; have c6_1 := X6.out.p1; have c3_0 := X3.out.p0; have c3_1 := X3.out.p1)) | (go_at_call 39; ((with_reducible refine (O1.out _).mono ?_); rintro e w15 ⟨rfl, qq⟩; replace X3 := Lib.hid (X3.out.kept qq); replace X5 := Lib.hid (X5.out.kept qq); replace X6 := Lib.hid (X6.out.kept qq); replace X7 := Lib.hid (X7.out.kept qq); replace X8 := Lib.hid (X8.out.kept qq); replace QQ := Lib.hid (Qw.trans QQ.out qq); replace QR := Lib.hid (Qw.trans QR.out qq); have c6_0 := X6.out.p0; have c6_1 := X6.out.p1; have c7_0 := X7.out.p0; have c7_1 := X7.out.p1; have c3_0 := X3.out.p0; have c3_1 := X3.out.p1; clear qq; have c7_0 := X7.out.p0; have c7_1 := X7.out.p1; have c3_0 := X3.out.p0; have c3_1 := X3.out.p1)) | (go_at_call 40; ((with_reducible refine (K2.out _).mono ?_); rintro e w16 ⟨rfl, qq⟩; replace X3 := Lib.hid (X3.out.kept qq); replace X5 := Lib.hid (X5.out.kept qq); replace X6 := Lib.hid (X6.out.kept qq); replace X7 := Lib.hid (X7.out.kept qq); replace X8 := Lib.hid (X8.out.kept qq); replace QQ := Lib.hid (Qw.trans QQ.out qq); replace QR := Lib.hid (Qw.trans QR.out qq); have c6_0 := X6.out.p0; have c6_1 := X6.out.p1; have c7_0 := X7.out.p0; have c7_1 := X7.out.p1; have c3_0 := X3.out.p0; have c3_1 := X3.out.p1; clear qq; have c7_0 := X7.out.p0; have c7_1 := X7.out.p1; have c3_0 := X3.out.p0; have c3_1 := X3.out.p1)) | (go_at_call 39; ((with_reducible refine (O2.out _).mono ?_); rintro e w17 ⟨rfl, qq⟩; replace X3 := Lib.hid (X3.out.kept qq); replace X5 := Lib.hid (X5.out.kept qq); replace X6 := Lib.hid (X6.out.kept qq); replace X7 := Lib.hid (X7.out.kept qq); replace X8 := Lib.hid (X8.out.kept qq); replace QQ := Lib.hid (Qw.trans QQ.out qq); replace QR := Lib.hid (Qw.trans QR.out qq); have c6_0 := X6.out.p0; have c6_1 := X6.out.p1; have c7_0 := X7.out.p0; have c7_1 := X7.out.p1; have c3_0 := X3.out.p0; have c3_1 := X3.out.p1; clear qq)))
          go_meet
          exact ⟨by first | rfl | (simp [*]; done) | (simp; omega), QR⟩
        · by_cases c2 : C2 = 0
          · have z2 : (C2 == 0) = true := by simpa using c2
            by_cases d2 : 0 < I2
            · skip
              have e : EE = true := by rw [hE]; simp [*]
              subst e
              clear hE
              go_wp2_with (first | ((with_reducible refine ld_pt 6 ?_ X6.out ?_); (rfl)) | ((with_reducible refine ld_pt 3 ?_ X3.out ?_); (rfl)) | (go_at_call 40; ((with_reducible refine (K1.out _).mono ?_); rintro e w14 ⟨rfl, qq⟩; replace X3 := Lib.hid (X3.out.kept qq); replace X5 := Lib.hid (X5.out.kept qq); replace X6 := Lib.hid (X6.out.kept qq); replace X7 := Lib.hid (X7.out.kept qq); replace X8 := Lib.hid (X8.out.kept qq); replace QQ := Lib.hid (Qw.trans QQ.out qq); replace QR := Lib.hid (Qw.trans QR.out qq); have c6_0 := X6.out.p0; have c6_1 := X6.out.p1; have c7_0 := X7.out.p0; have c7_1 := X7.out.p1; have c3_0 := X3.out.p0; have c3_1 := X3.out.p1; clear qq; have c6_0 := X6.out.p0; have c6_1 := X6.out.p1; have c3_0 := X3.out.p0; have c3_1 := X3.out.p1)) | (go_at_call 39; ((with_reducible refine (O1.out _).mono ?_); rintro e w15 ⟨rfl, qq⟩; replace X3 := Lib.hid (X3.out.kept qq); replace X5 := Lib.hid (X5.out.kept qq); replace X6 := Lib.hid (X6.out.kept qq); replace X7 := Lib.hid (X7.out.kept qq); replace X8 := Lib.hid (X8.out.kept qq); replace QQ := Lib.hid (Qw.trans QQ.out qq); replace QR := Lib.hid (Qw.trans QR.out qq); have c6_0 := X6.out.p0; have c6_1 := X6.out.p1; have c7_0 := X7.out.p0; have c7_1 := X7.out.p1; have c3_0 := X3.out.p0; have c3_1 := X3.out.p1; clear qq; have c7_0 := X7.out.p0; have c7_1 := X7.out.p1; have c3_0 := X3.out.p0; have c3_1 := X3.out.p1)) | (go_at_call 40; ((with_reducible refine (K2.out _).mono ?_); rintro e w16 ⟨rfl, qq⟩; replace X3 := Lib.hid (X3.out.kept qq); replace X5 := Lib.hid (X5.out.kept qq); replace X6 := Lib.hid (X6.out.kept qq); replace X7 := Lib.hid (X7.out.kept qq); replace X8 := Lib.hid (X8.out.kept qq); replace QQ := Lib.hid (Qw.trans QQ.out qq); replace QR := Lib.hid (Qw.trans QR.out qq); have c6_0 := X6.out.p0; have c6_1 := X6.out.p1; have c7_0 := X7.out.p0; have c7_1 := X7.out.p1; have c3_0 := X3.out.p0; have c3_1 := X3.out.p1; clear qq; have c7_0 := X7.out.p0; have c7_1 := X7.out.p1; have c3_0 := X3.out.p0; have c3_1 := X3.out.p1)) | (go_at_call 39; ((with_reducible refine (O2.out _).mono ?_); rintro e w17 ⟨rfl, qq⟩; replace X3 := Lib.hid (X3.out.kept qq); replace X5 := Lib.hid (X5.out.kept qq); replace X6 := Lib.hid (X6.out.kept qq); replace X7 := Lib.hid (X7.out.kept qq); replace X8 := Lib.hid (X8.out.kept qq); replace QQ := Lib.hid (Qw.trans QQ.out qq); replace QR := Lib.hid (Qw.trans QR.out qq); have c6_0 := X6.out.p0; have c6_1 := X6.out.p1; have c7_0 := X7.out.p0; have c7_1 := X7.out.p1; have c3_0 := X3.out.p0; have c3_1 := X3.out.p1; clear qq)))
              go_meet
              exact ⟨by first | rfl | (simp [*]; done) | (simp; omega), QR⟩
            · skip
              have e : EE = false := by rw [hE]; simp [*]
              subst e
              clear hE
              go_wp2_with (first | ((with_reducible refine ld_pt 6 ?_ X6.out ?_); (rfl)) | ((with_reducible refine ld_pt 3 ?_ X3.out ?_); (rfl)) | (go_at_call 40; ((with_reducible refine (K1.out _).mono ?_); rintro e w14 ⟨rfl, qq⟩; replace X3 := Lib.hid (X3.out.kept qq); replace X5 := Lib.hid (X5.out.kept qq); replace X6 := Lib.hid (X6.out.kept qq); replace X7 := Lib.hid (X7.out.kept qq); replace X8 := Lib.hid (X8.out.kept qq); replace QQ := Lib.hid (Qw.trans QQ.out qq); replace QR := Lib.hid (Qw.trans QR.out qq); have c6_0 := X6.out.p0; have c6_1 := X6.out.p1; have c7_0 := X7.out.p0; have c7_1 := X7.out.p1; have c3_0 := X3.out.p0; have c3_1 := X3.out.p1; clear qq; have c6_0 := X6.out.p0; have c6_1 := X6.out.p1; have c3_0 := X3.out.p0; have c3_1 := X3.out.p1)) | (go_at_call 39; ((with_reducible refine (O1.out _).mono ?_); rintro e w15 ⟨rfl, qq⟩; replace X3 := Lib.hid (X3.out.kept qq); replace X5 := Lib.hid (X5.out.kept qq); replace X6 := Lib.hid (X6.out.kept qq); replace X7 := Lib.hid (X7.out.kept qq); replace X8 := Lib.hid (X8.out.kept qq); replace QQ := Lib.hid (Qw.trans QQ.out qq); replace QR := Lib.hid (Qw.trans QR.out qq); have c6_0 := X6.out.p0; have c6_1 := X6.out.p1; have c7_0 := X7.out.p0; have c7_1 := X7.out.p1; have c3_0 := X3.out.p0; have c3_1 := X3.out.p1; clear qq; have c7_0 := X7.out.p0; have c7_1 := X7.out.p1; have c3_0 := X3.out.p0; have c3_1 := X3.out.p1)) | (go_at_call 40; ((with_reducible refine (K2.out _).mono ?_); rintro e w16 ⟨rfl, qq⟩; replace X3 := Lib.hid (X3.out.kept qq); replace X5 := Lib.hid (X5.out.kept qq); replace X6 := Lib.hid (X6.out.kept qq); replace X7 := Lib.hid (X7.out.kept qq); replace X8 := Lib.hid (X8.out.kept qq); replace QQ := Lib.hid (Qw.trans QQ.out qq); replace QR := Lib.hid (Qw.trans QR.out qq); have c6_0 := X6.out.p0; have c6_1 := X6.out.p1; have c7_0 := X7.out.p0; have c7_1 := X7.out.p1; have c3_0 := X3.out.p0; have c3_1 := X3.out.p1; clear qq; have c7_0 := X7.out.p0; have c7_1 := X7.out.p1; have c3_0 := X3.out.p0; have c3_1 := X3.out.p1)) | (go_at_call 39; ((with_reducible refine (O2.out _).mono ?_); rintro e w17 ⟨rfl, qq⟩; replace X3 := Lib.hid (X3.out.kept qq); replace X5 := Lib.hid (X5.out.kept qq); replace X6 := Lib.hid (X6.out.kept qq); replace X7 := Lib.hid (X7.out.kept qq); replace X8 := Lib.hid (X8.out.kept qq); replace QQ := Lib.hid (Qw.trans QQ.out qq); replace QR := Lib.hid (Qw.trans QR.out qq); have c6_0 := X6.out.p0; have c6_1 := X6.out.p1; have c7_0 := X7.out.p0; have c7_1 := X7.out.p1; have c3_0 := X3.out.p0; have c3_1 := X3.out.p1; clear qq)))
              go_meet
              exact ⟨by first | rfl | (simp [*]; done) | (simp; omega), QR⟩
          · have z2 : (C2 == 0) = false := beq_eq_false_iff_ne.2 c2
            have e : EE = false := by rw [hE]; simp [*]
            subst e
            clear hE
            go_wp2_with (first | ((with_reducible refine ld_pt 6 ?_ X6.out ?_); (rfl)) | ((with_reducible refine ld_pt 3 ?_ X3.out ?_); (rfl)) | (go_at_call 40; ((with_reducible refine (K1.out _).mono ?_); rintro e w14 ⟨rfl, qq⟩; replace X3 := Lib.hid (X3.out.kept qq); replace X5 := Lib.hid (X5.out.kept qq); replace X6 := Lib.hid (X6.out.kept qq); replace X7 := Lib.hid (X7.out.kept qq); replace X8 := Lib.hid (X8.out.kept qq); replace QQ := Lib.hid (Qw.trans QQ.out qq); replace QR := Lib.hid (Qw.trans QR.out qq); have c6_0 := X6.out.p0; have c6_1 := X6.out.p1; have c7_0 := X7.out.p0; have c7_1 := X7.out.p1; have c3_0 := X3.out.p0; have c3_1 := X3.out.p1; clear qq; have c6_0 := X6.out.p0; have c6_1 := X6.out.p1; have c3_0 := X3.out.p0; have c3_1 := X3.out.p1)) | (go_at_call 39; ((with_reducible refine (O1.out _).mono ?_); rintro e w15 ⟨rfl, qq⟩; replace X3 := Lib.hid (X3.out.kept qq); replace X5 := Lib.hid (X5.out.kept qq); replace X6 := Lib.hid (X6.out.kept qq); replace X7 := Lib.hid (X7.out.kept qq); replace X8 := Lib.hid (X8.out.kept qq); replace QQ := Lib.hid (Qw.trans QQ.out qq); replace QR := Lib.hid (Qw.trans QR.out qq); have c6_0 := X6.out.p0; have c6_1 := X6.out.p1; have c7_0 := X7.out.p0; have c7_1 := X7.out.p1; have c3_0 := X3.out.p0; have c3_1 := X3.out.p1; clear qq; have c7_0 := X7.out.p0; have c7_1 := X7.out.p1; have c3_0 := X3.out.p0; have c3_1 := X3.out.p1)) | (go_at_call 40; ((with_reducible refine (K2.out _).mono ?_); rintro e w16 ⟨rfl, qq⟩; replace X3 := Lib.hid (X3.out.kept qq); replace X5 := Lib.hid (X5.out.kept qq); replace X6 := Lib.hid (X6.out.kept qq); replace X7 := Lib.hid (X7.out.kept qq); replace X8 := Lib.hid (X8.out.kept qq); replace QQ := Lib.hid (Qw.trans QQ.out qq); replace QR := Lib.hid (Qw.trans QR.out qq); have c6_0 := X6.out.p0; have c6_1 := X6.out.p1; have c7_0 := X7.out.p0; have c7_1 := X7.out.p1; have c3_0 := X3.out.p0; have c3_1 := X3.out.p1; clear qq; have c7_0 := X7.out.p0; have c7_1 := X7.out.p1; have c3_0 := X3.out.p0; have c3_1 := X3.out.p1)) | (go_at_call 39; ((with_reducible refine (O2.out _).mono ?_); rintro e w17 ⟨rfl, qq⟩; replace X3 := Lib.hid (X3.out.kept qq); replace X5 := Lib.hid (X5.out.kept qq); replace X6 := Lib.hid (X6.out.kept qq); replace X7 := Lib.hid (X7.out.kept qq); replace X8 := Lib.hid (X8.out.kept qq); replace QQ := Lib.hid (Qw.trans QQ.out qq); replace QR := Lib.hid (Qw.trans QR.out qq); have c6_0 := X6.out.p0; have c6_1 := X6.out.p1; have c7_0 := X7.out.p0; have c7_1 := X7.out.p1; have c3_0 := X3.out.p0; have c3_1 := X3.out.p1; clear qq)))
            go_meet
            exact ⟨by first | rfl | (simp [*]; done) | (simp; omega), QR⟩
      · have z1 : (C1 == 0) = false := beq_eq_false_iff_ne.2 c1
        by_cases c2 : C2 = 0
        · have z2 : (C2 == 0) = true := by simpa using c2
          by_cases d2 : 0 < I2
          · skip
            have e : EE = true := by rw [hE]; simp [*]
            subst e
            clear hE
            go_wp2_with (first | ((with_reducible refine ld_pt 6 ?_ X6.out ?_); (rfl)) | ((with_reducible refine ld_pt 3 ?_ X3.out ?_); (rfl)) | (go_at_call 40; ((with_reducible refine (K1.out _).mono ?_); rintro e w14 ⟨rfl, qq⟩; replace X3 := Lib.hid (X3.out.kept qq); replace X5 := Lib.hid (X5.out.kept qq); replace X6 := Lib.hid (X6.out.kept qq); replace X7 := Lib.hid (X7.out.kept qq); replace X8 := Lib.hid (X8.out.kept qq); replace QQ := Lib.hid (Qw.trans QQ.out qq); replace QR := Lib.hid (Qw.trans QR.out qq); have c6_0 := X6.out.p0; have c6_1 := X6.out.p1; have c7_0 := X7.out.p0; have c7_1 := X7.out.p1; have c3_0 := X3.out.p0; have c3_1 := X3.out.p1; clear qq; have c6_0 := X6.out.p0; have c6_1 := X6.out.p1; have c3_0 := X3.out.p0; have c3_1 := X3.out.p1)) | (go_at_call 39; ((with_reducible refine (O1.out _).mono ?_); rintro e w15 ⟨rfl, qq⟩; replace X3 := Lib.hid (X3.out.kept qq); replace X5 := Lib.hid (X5.out.kept qq); replace X6 := Lib.hid (X6.out.kept qq); replace X7 := Lib.hid (X7.out.kept qq); replace X8 := Lib.hid (X8.out.kept qq); replace QQ := Lib.hid (Qw.trans QQ.out qq); replace QR := Lib.hid (Qw.trans QR.out qq); have c6_0 := X6.out.p0; have c6_1 := X6.out.p1; have c7_0 := X7.out.p0; have c7_1 := X7.out.p1; have c3_0 := X3.out.p0; have c3_1 := X3.out.p1; clear qq; have c7_0 := X7.out.p0; have c7_1 := X7.out.p1; have c3_0 := X3.out.p0; have c3_1 := X3.out.p1)) | (go_at_call 40; ((with_reducible refine (K2.out _).mono ?_); rintro e w16 ⟨rfl, qq⟩; replace X3 := Lib.hid (X3.out.kept qq); replace X5 := Lib.hid (X5.out.kept qq); replace X6 := Lib.hid (X6.out.kept qq); replace X7 := Lib.hid (X7.out.kept qq); replace X8 := Lib.hid (X8.out.kept qq); replace QQ := Lib.hid (Qw.trans QQ.out qq); replace QR := Lib.hid (Qw.trans QR.out qq); have c6_0 := X6.out.p0; have c6_1 := X6.out.p1; have c7_0 := X7.out.p0; have c7_1 := X7.out.p1; have c3_0 := X3.out.p0; have c3_1 := X3.out.p1; clear qq; have c7_0 := X7.out.p0; have c7_1 := X7.out.p1; have c3_0 := X3.out.p0; have c3_1 := X3.out.p1)) | (go_at_call 39; ((with_reducible refine (O2.out _).mono ?_); rintro e w17 ⟨rfl, qq⟩; replace X3 := Lib.hid (X3.out.kept qq); replace X5 := Lib.hid (X5.out.kept qq); replace X6 := Lib.hid (X6.out.kept qq); replace X7 := Lib.hid (X7.out.kept qq); replace X8 := Lib.hid (X8.out.kept qq); replace QQ := Lib.hid (Qw.trans QQ.out qq); replace QR := Lib.hid (Qw.trans QR.out qq); have c6_0 := X6.out.p0; have c6_1 := X6.out.p1; have c7_0 := X7.out.p0; have c7_1 := X7.out.p1; have c3_0 := X3.out.p0; have c3_1 := X3.out.p1; clear qq)))
            go_meet
            exact ⟨by first | rfl | (simp [*]; done) | (simp; omega), QR⟩
          · skip
            have e : EE = false := by rw [hE]; simp [*]
            subst e
            clear hE
            go_wp2_with (first | ((with_reducible refine ld_pt 6 ?_ X6.out ?_); (rfl)) | ((with_reducible refine ld_pt 3 ?_ X3.out ?_); (rfl)) | (go_at_call 40; ((with_reducible refine (K1.out _).mono ?_); rintro e w14 ⟨rfl, qq⟩; replace X3 := Lib.hid (X3.out.kept qq); replace X5 := Lib.hid (X5.out.kept qq); replace X6 := Lib.hid (X6.out.kept qq); replace X7 := Lib.hid (X7.out.kept qq); replace X8 := Lib.hid (X8.out.kept qq); replace QQ := Lib.hid (Qw.trans QQ.out qq); replace QR := Lib.hid (Qw.trans QR.out qq); have c6_0 := X6.out.p0; have c6_1 := X6.out.p1; have c7_0 := X7.out.p0; have c7_1 := X7.out.p1; have c3_0 := X3.out.p0; have c3_1 := X3.out.p1; clear qq; have c6_0 := X6.out.p0; have c6_1 := X6.out.p1; have c3_0 := X3.out.p0; have c3_1 := X3.out.p1)) | (go_at_call 39; ((with_reducible refine (O1.out _).mono ?_); rintro e w15 ⟨rfl, qq⟩; replace X3 := Lib.hid (X3.out.kept qq); replace X5 := Lib.hid (X5.out.kept qq); replace X6 := Lib.hid (X6.out.kept qq); replace X7 := Lib.hid (X7.out.kept qq); replace X8 := Lib.hid (X8.out.kept qq); replace QQ := Lib.hid (Qw.trans QQ.out qq); replace QR := Lib.hid (Qw.trans QR.out qq); have c6_0 := X6.out.p0; have c6_1 := X6.out.p1; have c7_0 := X7.out.p0; have c7_1 := X7.out.p1; have c3_0 := X3.out.p0; have c3_1 := X3.out.p1; clear qq; have c7_0 := X7.out.p0; have c7_1 := X7.out.p1; have c3_0 := X3.out.p0; have c3_1 := X3.out.p1)) | (go_at_call 40; ((with_reducible refine (K2.out _).mono ?_); rintro e w16 ⟨rfl, qq⟩; replace X3 := Lib.hid (X3.out.kept qq); replace X5 := Lib.hid (X5.out.kept qq); replace X6 := Lib.hid (X6.out.kept qq); replace X7 := Lib.hid (X7.out.kept qq); replace X8 := Lib.hid (X8.out.kept qq); replace QQ := Lib.hid (Qw.trans QQ.out qq); replace QR := Lib.hid (Qw.trans QR.out qq); have c6_0 := X6.out.p0; have c6_1 := X6.out.p1; have c7_0 := X7.out.p0; have c7_1 := X7.out.p1; have c3_0 := X3.out.p0; have c3_1 := X3.out.p1; clear qq; have c7_0 := X7.out.p0; have c7_1 := X7.out.p1; have c3_0 := X3.out.p0; have c3_1 := X3.out.p1)) | (go_at_call 39; ((with_reducible refine (O2.out _).mono ?_); rintro e w17 ⟨rfl, qq⟩; replace X3 := Lib.hid (X3.out.kept qq); replace X5 := Lib.hid (X5.out.kept qq); replace X6 := Lib.hid (X6.out.kept qq); replace X7 := Lib.hid (X7.out.kept qq); replace X8 := Lib.hid (X8.out.kept qq); replace QQ := Lib.hid (Qw.trans QQ.out qq); replace QR := Lib.hid (Qw.trans QR.out qq); have c6_0 := X6.out.p0; have c6_1 := X6.out.p1; have c7_0 := X7.out.p0; have c7_1 := X7.out.p1; have c3_0 := X3.out.p0; have c3_1 := X3.out.p1; clear qq)))
            go_meet
            exact ⟨by first | rfl | (simp [*]; done) | (simp; omega), QR⟩
        · have z2 : (C2 == 0) = false := beq_eq_false_iff_ne.2 c2
          have e : EE = false := by rw [hE]; simp [*]
          subst e
          clear hE
          go_wp2_with (first | ((with_reducible refine ld_pt 6 ?_ X6.out ?_); (rfl)) | ((with_reducible refine ld_pt 3 ?_ X3.out ?_); (rfl)) | (go_at_call 40; ((with_reducible refine (K1.out _).mono ?_); rintro e w14 ⟨rfl, qq⟩; replace X3 := Lib.hid (X3.out.kept qq); replace X5 := Lib.hid (X5.out.kept qq); replace X6 := Lib.hid (X6.out.kept qq); replace X7 := Lib.hid (X7.out.kept qq); replace X8 := Lib.hid (X8.out.kept qq); replace QQ := Lib.hid (Qw.trans QQ.out qq); replace QR := Lib.hid (Qw.trans QR.out qq); have c6_0 := X6.out.p0; have c6_1 := X6.out.p1; have c7_0 := X7.out.p0; have c7_1 := X7.out.p1; have c3_0 := X3.out.p0; have c3_1 := X3.out.p1; clear qq; have c6_0 := X6.out.p0; have c6_1 := X6.out.p1; have c3_0 := X3.out.p0; have c3_1 := X3.out.p1)) | (go_at_call 39; ((with_reducible refine (O1.out _).mono ?_); rintro e w15 ⟨rfl, qq⟩; replace X3 := Lib.hid (X3.out.kept qq); replace X5 := Lib.hid (X5.out.kept qq); replace X6 := Lib.hid (X6.out.kept qq); replace X7 := Lib.hid (X7.out.kept qq); replace X8 := Lib.hid (X8.out.kept qq); replace QQ := Lib.hid (Qw.trans QQ.out qq); replace QR := Lib.hid (Qw.trans QR.out qq); have c6_0 := X6.out.p0; have c6_1 := X6.out.p1; have c7_0 := X7.out.p0; have c7_1 := X7.out.p1; have c3_0 := X3.out.p0; have c3_1 := X3.out.p1; clear qq; have c7_0 := X7.out.p0; have c7_1 := X7.out.p1; have c3_0 := X3.out.p0; have c3_1 := X3.out.p1)) | (go_at_call 40; ((with_reducible refine (K2.out _).mono ?_); rintro e w16 ⟨rfl, qq⟩; replace X3 := Lib.hid (X3.out.kept qq); replace X5 := Lib.hid (X5.out.kept qq); replace X6 := Lib.hid (X6.out.kept qq); replace X7 := Lib.hid (X7.out.kept qq); replace X8 := Lib.hid (X8.out.kept qq); replace QQ := Lib.hid (Qw.trans QQ.out qq); replace QR := Lib.hid (Qw.trans QR.out qq); have c6_0 := X6.out.p0; have c6_1 := X6.out.p1; have c7_0 := X7.out.p0; have c7_1 := X7.out.p1; have c3_0 := X3.out.p0; have c3_1 := X3.out.p1; clear qq; have c7_0 := X7.out.p0; have c7_1 := X7.out.p1; have c3_0 := X3.out.p0; have c3_1 := X3.out.p1)) | (go_at_call 39; ((with_reducible refine (O2.out _).mono ?_); rintro e w17 ⟨rfl, qq⟩; replace X3 := Lib.hid (X3.out.kept qq); replace X5 := Lib.hid (X5.out.kept qq); replace X6 := Lib.hid (X6.out.kept qq); replace X7 := Lib.hid (X7.out.kept qq); replace X8 := Lib.hid (X8.out.kept qq); replace QQ := Lib.hid (Qw.trans QQ.out qq); replace QR := Lib.hid (Qw.trans QR.out qq); have c6_0 := X6.out.p0; have c6_1 := X6.out.p1; have c7_0 := X7.out.p0; have c7_1 := X7.out.p1; have c3_0 := X3.out.p0; have c3_1 := X3.out.p1; clear qq)))
          go_meet
          exact ⟨by first | rfl | (simp [*]; done) | (simp; omega), QR⟩
    case rest =>
      clear HE K1 K2 O1 O2 V1 V2
      obtain ⟨rfl, qr⟩ := hcut
      replace X3 := Lib.hid (X3.out.kept qr.out)
      replace X5 := Lib.hid (X5.out.kept qr.out)
      replace X6 := Lib.hid (X6.out.kept qr.out)
      replace X7 := Lib.hid (X7.out.kept qr.out)
      replace X8 := Lib.hid (X8.out.kept qr.out)
      replace QQ := Lib.hid (Qw.trans QQ.out qr.out)
      clear qr
      obtain ⟨hu, e1, e2⟩ | ⟨hu, e1, e2⟩ := SL.out
      · subst e1 e2
        clear SL
        go_wp2_with (first | (go_at_call 20; ((with_reducible refine (AW.out _).mono ?_); rintro e w14 ⟨rfl, qq⟩; replace X3 := Lib.hid (X3.out.kept qq); replace X5 := Lib.hid (X5.out.kept qq); replace X6 := Lib.hid (X6.out.kept qq); replace X7 := Lib.hid (X7.out.kept qq); replace X8 := Lib.hid (X8.out.kept qq); replace QQ := Lib.hid (Qw.trans QQ.out qq); clear qq; have c6_0 := X6.out.p0; have c6_1 := X6.out.p1)) | ((with_reducible refine ld_it 5 ?_ X5.out ?_); (rfl)) | (go_at_call 30; ((with_reducible refine (V5.out _).mono ?_); rintro e w15 ⟨rfl, qq⟩; replace X3 := Lib.hid (X3.out.kept qq); replace X5 := Lib.hid (X5.out.kept qq); replace X6 := Lib.hid (X6.out.kept qq); replace X7 := Lib.hid (X7.out.kept qq); replace X8 := Lib.hid (X8.out.kept qq); replace QQ := Lib.hid (Qw.trans QQ.out qq); clear qq; have c7_0 := X7.out.p0; have c7_1 := X7.out.p1)) | ((with_reducible refine ld_it 5 ?_ X5.out ?_); (rfl)) | (go_at_call 30; ((with_reducible refine (V6.out _).mono ?_); rintro e w16 ⟨rfl, qq⟩; replace X3 := Lib.hid (X3.out.kept qq); replace X5 := Lib.hid (X5.out.kept qq); replace X6 := Lib.hid (X6.out.kept qq); replace X7 := Lib.hid (X7.out.kept qq); replace X8 := Lib.hid (X8.out.kept qq); replace QQ := Lib.hid (Qw.trans QQ.out qq); clear qq; have c5_13 := X5.out.i13)) | ((with_reducible refine gd_it 5 ?_ ?_ X5.out ?_); (first | rfl | (simp [Region.wanted, yielded]; done)); (rfl)))
        go_ret
        first | exact ⟨rfl, QQ.out⟩ | exact ⟨ret_bl (by simp [*]), QQ.out⟩
      · cases R1
        · cases R2
          · exact absurd e1 (by decide)
          · obtain rfl : EE = false := by rw [← e2]; rfl
            clear SL e1 e2
            go_wp2_with (first | (go_at_call 20; ((with_reducible refine (AW.out _).mono ?_); rintro e w14 ⟨rfl, qq⟩; replace X3 := Lib.hid (X3.out.kept qq); replace X5 := Lib.hid (X5.out.kept qq); replace X6 := Lib.hid (X6.out.kept qq); replace X7 := Lib.hid (X7.out.kept qq); replace X8 := Lib.hid (X8.out.kept qq); replace QQ := Lib.hid (Qw.trans QQ.out qq); clear qq; have c6_0 := X6.out.p0; have c6_1 := X6.out.p1)) | ((with_reducible refine ld_it 5 ?_ X5.out ?_); (rfl)) | (go_at_call 30; ((with_reducible refine (V5.out _).mono ?_); rintro e w15 ⟨rfl, qq⟩; replace X3 := Lib.hid (X3.out.kept qq); replace X5 := Lib.hid (X5.out.kept qq); replace X6 := Lib.hid (X6.out.kept qq); replace X7 := Lib.hid (X7.out.kept qq); replace X8 := Lib.hid (X8.out.kept qq); replace QQ := Lib.hid (Qw.trans QQ.out qq); clear qq; have c7_0 := X7.out.p0; have c7_1 := X7.out.p1)) | ((with_reducible refine ld_it 5 ?_ X5.out ?_); (rfl)) | (go_at_call 30; ((with_reducible refine (V6.out _).mono ?_); rintro e w16 ⟨rfl, qq⟩; replace X3 := Lib.hid (X3.out.kept qq); replace X5 := Lib.hid (X5.out.kept qq); replace X6 := Lib.hid (X6.out.kept qq); replace X7 := Lib.hid (X7.out.kept qq); replace X8 := Lib.hid (X8.out.kept qq); replace QQ := Lib.hid (Qw.trans QQ.out qq); clear qq; have c5_13 := X5.out.i13)) | ((with_reducible refine gd_it 5 ?_ ?_ X5.out ?_); (first | rfl | (simp [Region.wanted, yielded]; done)); (rfl)))
            go_ret
            first | exact ⟨rfl, QQ.out⟩ | exact ⟨ret_bl (by simp [*]), QQ.out⟩
        · cases R2
          · obtain rfl : EE = false := by rw [← e2]; rfl
            clear SL e1 e2
            go_wp2_with (first | (go_at_call 20; ((with_reducible refine (AW.out _).mono ?_); rintro e w14 ⟨rfl, qq⟩; replace X3 := Lib.hid (X3.out.kept qq); replace X5 := Lib.hid (X5.out.kept qq); replace X6 := Lib.hid (X6.out.kept qq); replace X7 := Lib.hid (X7.out.kept qq); replace X8 := Lib.hid (X8.out.kept qq); replace QQ := Lib.hid (Qw.trans QQ.out qq); clear qq; have c6_0 := X6.out.p0; have c6_1 := X6.out.p1)) | ((with_reducible refine ld_it 5 ?_ X5.out ?_); (rfl)) | (go_at_call 30; ((with_reducible refine (V5.out _).mono ?_); rintro e w15 ⟨rfl, qq⟩; replace X3 := Lib.hid (X3.out.kept qq); replace X5 := Lib.hid (X5.out.kept qq); replace X6 := Lib.hid (X6.out.kept qq); replace X7 := Lib.hid (X7.out.kept qq); replace X8 := Lib.hid (X8.out.kept qq); replace QQ := Lib.hid (Qw.trans QQ.out qq); clear qq; have c7_0 := X7.out.p0; have c7_1 := X7.out.p1)) | ((with_reducible refine ld_it 5 ?_ X5.out ?_); (rfl)) | (go_at_call 30; ((with_reducible refine (V6.out _).mono ?_); rintro e w16 ⟨rfl, qq⟩; replace X3 := Lib.hid (X3.out.kept qq); replace X5 := Lib.hid (X5.out.kept qq); replace X6 := Lib.hid (X6.out.kept qq); replace X7 := Lib.hid (X7.out.kept qq); replace X8 := Lib.hid (X8.out.kept qq); replace QQ := Lib.hid (Qw.trans QQ.out qq); clear qq; have c5_13 := X5.out.i13)) | ((with_reducible refine gd_it 5 ?_ ?_ X5.out ?_); (first | rfl | (simp [Region.wanted, yielded]; done)); (rfl)))
            go_ret
            first | exact ⟨rfl, QQ.out⟩ | exact ⟨ret_bl (by simp [*]), QQ.out⟩
          · obtain rfl : EE = true := by rw [← e2]; rfl
            clear SL e1 e2
            go_wp2_with (first | (go_at_call 20; ((with_reducible refine (AW.out _).mono ?_); rintro e w14 ⟨rfl, qq⟩; replace X3 := Lib.hid (X3.out.kept qq); replace X5 := Lib.hid (X5.out.kept qq); replace X6 := Lib.hid (X6.out.kept qq); replace X7 := Lib.hid (X7.out.kept qq); replace X8 := Lib.hid (X8.out.kept qq); replace QQ := Lib.hid (Qw.trans QQ.out qq); clear qq; have c6_0 := X6.out.p0; have c6_1 := X6.out.p1)) | ((with_reducible refine ld_it 5 ?_ X5.out ?_); (rfl)) | (go_at_call 30; ((with_reducible refine (V5.out _).mono ?_); rintro e w15 ⟨rfl, qq⟩; replace X3 := Lib.hid (X3.out.kept qq); replace X5 := Lib.hid (X5.out.kept qq); replace X6 := Lib.hid (X6.out.kept qq); replace X7 := Lib.hid (X7.out.kept qq); replace X8 := Lib.hid (X8.out.kept qq); replace QQ := Lib.hid (Qw.trans QQ.out qq); clear qq; have c7_0 := X7.out.p0; have c7_1 := X7.out.p1)) | ((with_reducible refine ld_it 5 ?_ X5.out ?_); (rfl)) | (go_at_call 30; ((with_reducible refine (V6.out _).mono ?_); rintro e w16 ⟨rfl, qq⟩; replace X3 := Lib.hid (X3.out.kept qq); replace X5 := Lib.hid (X5.out.kept qq); replace X6 := Lib.hid (X6.out.kept qq); replace X7 := Lib.hid (X7.out.kept qq); replace X8 := Lib.hid (X8.out.kept qq); replace QQ := Lib.hid (Qw.trans QQ.out qq); clear qq; have c5_13 := X5.out.i13)) | ((with_reducible refine gd_it 5 ?_ ?_ X5.out ?_); (first | rfl | (simp [Region.wanted, yielded]; done)); (rfl)))
            go_ret
            first | exact ⟨rfl, QQ.out⟩ | exact ⟨ret_bl (by simp [*]), QQ.out⟩
  · clear hpz
    go_upto_region 9 with (go_big_may; ((with_reducible refine ld_pt 3 ?_ X3.out ?_); (rfl)))
    go_wp2_with (go_at_call 20; ((with_reducible refine (AW.out _).mono ?_); rintro e w13 ⟨rfl, qq⟩; replace X3 := Lib.hid (X3.out.kept qq); replace X5 := Lib.hid (X5.out.kept qq); replace X6 := Lib.hid (X6.out.kept qq); replace X7 := Lib.hid (X7.out.kept qq); replace X8 := Lib.hid (X8.out.kept qq); replace QQ := Lib.hid (Qw.trans QQ.out qq); clear qq))
    go_ret
    exact ⟨rfl, QQ.out⟩

/-! ### the row -/
theorem own_arcSpokes : ownKnob Try.prog.godebug = none := by kernel_rfl
set_option maxRecDepth 100000 in
theorem lifted_arcSpokes (os : Os) (started : os.Started) (H : Type) (enc : TypeId × Value → H) :
    ReturnsInHanded {} Try.checked os 9 .any (Rows.arcSpokesSpec.pre6 enc Try.prog Try.f9 Rows.arcSpokesRow.domain false) (Rows.arcSpokesSpec.post enc Try.prog Try.f9 false true false false) := by
  refine returnsInHanded_of_change (C := Try.checked) own_arcSpokes started (by kernel_rfl) Try.func9
    (ChangeSpec.witness6 (enc := enc) (C := Try.checked) false ⟨#[], #[.slice none 0 0, .agg #[.int .i64 0, .int .i64 0]], []⟩ 8 (by kernel_rfl) (by kernel_rfl) (by kernel_rfl) (by kernel_rfl)) ?_
  intro W base args ds gs before hval0 hW hcnd _
  have hval : ∀ (j : Nat) t v, Try.f9.params[j]? = some t → args[j]? = some v → Value.okWide Try.prog W .any base t v := hval0
  have hW' := hW
  obtain ⟨p, q, hA0, hV, rfl, hfz, hnd⟩ := hW
  have hA : DataW.TrodAll enc Try.prog W 0 (fun _ => true) true Try.f9.params.toList args.toList ds p := hA0
  rw [Try.params9] at hA hval
  obtain ⟨v0, vs0, d0, ds0, p0, q0, hargs, rfl, rfl, h0, r0⟩ := trodAll_cons hA
  obtain ⟨v1, vs1, d1, ds1, p1, q1, rfl, rfl, rfl, h1, r1⟩ := trodAll_cons r0
  obtain ⟨rfl, rfl, rfl⟩ := trodAll_nil r1
  obtain rfl : args = #[v0, v1] := by cases args; simp_all
  obtain ⟨rfl, rfl⟩ := trodVars_none hV
  obtain ⟨u0, hu0⟩ := inM_ints (hval 0 40 v0 rfl rfl) h0
  obtain ⟨a1_0, a1_1, rfl, rfl, rfl, w1_0, w1_1⟩ := open_pt (hval 1 32 v1 rfl rfl) h1
  obtain ⟨x1_0, y1_0⟩ := wfM w1_0
  obtain ⟨x1_1, y1_1⟩ := wfM w1_1
  clear hA0 hval0
  simp only [List.append_nil] at hW'
  refine (walk_arcSpokes v0 u0 a1_0 x1_0 y1_0 a1_1 x1_1 y1_1 W hu0).mono fun e W' ⟨he, bel⟩ => ?_
  subst he
  exact ⟨_, rfl, _, _, _, [], _, [], hW', trodAll_mk1 (shut_bool Try.underlying4 _), (trodAll_cons_mk (outM_ints h0 bel (fun x hx => hW'.lt x (by first | exact hx | simp [hx]))) (trodAll_cons_mk (shut_pt w1_0 w1_1) trodAll_mk0)), rfl, Below.frame bel _, fun h => by cases h⟩

/-- The statement. -/
theorem arcSpokes_holds : Rows.ArcSpokesSaid :=
  OpenClaim.holds_of_wide 9 Try.f9 rfl rfl rfl rfl rfl rfl rfl ⟨rfl, rfl, rfl, rfl, rfl⟩ rfl rfl rfl rfl rfl (by kernel_rfl) Try.func9 (by kernel_rfl)
    (of_decide_eq_true (by kernel_rfl)) (by unfold Func.isWrapper; first | (rw [if_pos (by decide +kernel)]; kernel_rfl) | (rw [if_neg (by decide +kernel)]; exact ⟨rfl, rfl⟩))
    (fun os started H enc _ => lifted_arcSpokes os started H enc)

end Go.Proofs.Ytihmifdadikhaaa
