
/- EvalErrors of layer 8: the error of a Kid is that of the expression, and that of the first Kid comes first.
   Conditions: the listed tables lie as the program's own text lays them (the card ties them); every input. -/
import Derived.Test.YtkfipjlknfinpaaDoorFrameE
import Derived.Test.YtkfipjlknfinpaaDoorEvL
import Derived.Deep.Cut
set_option linter.unusedVariables false
set_option linter.unusedSimpArgs false
namespace Go.Proofs.YtkfipjlknfinpaaDoor
open Go.ChangeShapes Go.WideShapes Go.ChangeAt Go.RowKit

set_option maxRecDepth 100000 in
set_option maxHeartbeats 4000000 in
theorem walk_evalErrors (v0 : Value) (z0 : List Int) (v1 : Value) (z1 : List Int) (k : Int) (k1 : -9223372036854775808 ≤ k) (k2 : k ≤ 9223372036854775807) (w : World) (hv0 : IntsB w.heap.size w v0 z0) (hv1 : IntsB w.heap.size w v1 z1) (ht : Tw w) :
    Calls Tryd.prog 6 #[v0, v1, .int .i64 k] w fun e w' => e = .returned (.bool true) ∧ Qw w w' := by
  obtain ⟨o, hko⟩ : ∃ o, 3 + k % (7 - 3 + 1) = o := ⟨_, rfl⟩
  have ob5 : o = 3 ∨ o = 4 ∨ o = 5 ∨ o = 6 ∨ o = 7 := by
    have a := Int.emod_nonneg k (show (7 : Int) - 3 + 1 ≠ 0 by decide)
    have b := Int.emod_lt_of_pos k (show (0 : Int) < 7 - 3 + 1 by decide)
    omega
  have HK := Lib.hid hko
  have ob : 0 ≤ o ∧ o ≤ 25 := by omega
  have hk2 : Sy.kds o.toNat = 2 := by rcases ob5 with rfl | rfl | rfl | rfl | rfl <;> rfl
  clear hko ob5
  have HV0 := Lib.hid hv0
  have HV1 := Lib.hid hv1
  have HT := Lib.hid ht
  have QQ := Lib.hid (Qw.refl w)
  clear hv0 hv1 ht
  by_cases l0 : z0.length ≤ 120
  · have d0 : decide (z0.length ≤ 120) = true := decide_eq_true l0
    by_cases l1 : z1.length ≤ 120
    · have d1 : decide (z1.length ≤ 120) = true := decide_eq_true l1
      go_enter Tryd.func6, Tryd.ntmps6
      go_upto_region 4 with (first
          | (go_at_call 9; ((with_reducible refine (lightF _ _ _ _ HV0.out).mono ?_); rintro e w' ⟨rfl, rfl⟩; skip))
          | (go_at_call 9; ((with_reducible refine (lightF _ _ _ _ HV1.out).mono ?_); rintro e w' ⟨rfl, rfl⟩; skip))
          | (go_at_call 13; ((with_reducible refine (newF _ _ _ (HV0.out.then QQ.out)).mono ?_); rintro e w' ⟨rfl, tp, q⟩; have TP := Lib.hid tp; have QN := Lib.hid (Qw.le QQ.out); replace QQ := Lib.hid (Qw.trans QQ.out q); clear tp q))
          | (go_at_call 12; ((with_reducible refine (exprN4 _ _ _ TP.out QQ.out QN.out).mono ?_); rintro e w' ⟨x, xa, xc, rfl, okx, dpx, kx, q⟩; have KX := Lib.hid kx; have OX := Lib.hid (And.intro okx dpx); clear TP QN QQ okx dpx kx; have QX := Lib.hid q; have Q2 := Lib.hid (Qw.refl w'); clear q))
          | (go_at_call 13; ((with_reducible refine (newF _ _ _ (HV1.out.then (Qw.trans QX.out Q2.out))).mono ?_); rintro e w' ⟨rfl, tp, q⟩; have TP := Lib.hid tp; have QN := Lib.hid (Qw.le Q2.out); replace Q2 := Lib.hid (Qw.trans Q2.out q); clear tp q))
          | (go_at_call 12; ((with_reducible refine (exprN4 _ _ _ TP.out Q2.out QN.out).mono ?_); rintro e w' ⟨y, ya, yc, rfl, oky, dpy, ky, q⟩; have KY := Lib.hid ky; have OY := Lib.hid (And.intro oky dpy); replace KX := Lib.hid (KidsB.kept KX.out q); have QQ := Lib.hid (Qw.trans QX.out q); clear TP QN Q2 QX oky dpy ky q)))
      refine code_of (fun w2 => Hid (Xy w2 w'.heap.size (w'.heap.size + 1) x y xa xc ya yc) ∧ Hid (Qw w w2)) ⟨Lib.hid (Xy.mk' KX.out KY.out), Lib.hid (Qw.al (Qw.al QQ.out _) _)⟩ ?_
      clear QQ
      have dx := KX.out.cap
      have dy := KY.out.cap
      obtain ⟨xl1, xl2⟩ := dx
      obtain ⟨yl1, yl2⟩ := dy
      clear KX KY
      generalize w'.heap.size + 1 = E
      generalize w'.heap.size = D
      rintro w2 ⟨XY, QQ⟩
      obtain ⟨p0, p1, p2, p3, p4, p5⟩ := XY.out.c
      obtain ⟨okx, dpx⟩ := OX.out
      obtain ⟨oky, dpy⟩ := OY.out
      clear OX OY
      obtain ⟨a, ea, hA⟩ : ∃ a ea, Ev.evl Vs.new x = (a, ea) := ⟨_, _, rfl⟩
      obtain ⟨b, eb, hB⟩ : ∃ b eb, Ev.evl Vs.new y = (b, eb) := ⟨_, _, rfl⟩
      have ba : Ev.Bd a := by have := Ev.evl_bd Ev.good_new okx; rwa [hA] at this
      have bb : Ev.Bd b := by have := Ev.evl_bd Ev.good_new oky; rwa [hB] at this
      have CX := Lib.hid (fun (w1 : World) (q : Qw w w1) (h : Kd w1 xa xc x.ks) => show Calls Tryd.prog 18 #[.agg #[.int .i64 x.op, .int .i64 x.n, .slice xa x.ks.length xc]] w1 fun e w' => e = .returned (.tuple #[.int .i64 a, .int .i64 ea]) ∧ Qw w1 w' by
        have := evNew x xa xc w1 (HT.out.kept q) h
        rw [hA] at this
        exact this)
      have CY := Lib.hid (fun (w1 : World) (q : Qw w w1) (h : Kd w1 ya yc y.ks) => show Calls Tryd.prog 18 #[.agg #[.int .i64 y.op, .int .i64 y.n, .slice ya y.ks.length yc]] w1 fun e w' => e = .returned (.tuple #[.int .i64 b, .int .i64 eb]) ∧ Qw w1 w' by
        have := evNew y ya yc w1 (HT.out.kept q) h
        rw [hB] at this
        exact this)
      have ok2 : ∀ o : Int, (0 ≤ o ∧ o ≤ 25) → Sy.kds o.toNat = 2 → Ev.evl Vs.new (Sy.bin o x y) = Ev.opk Vs.new o 0 [(a, ea), (b, eb)] := fun o h k => by rw [Ev.evl_bin h k okx oky (by omega) (by omega), hA, hB]
      have ok1 : Ev.evl Vs.new (Sy.un 13 x) = Ev.opk Vs.new 13 0 [(a, ea)] := by rw [Ev.evl_un (by decide) rfl okx (by omega), hA]
      by_cases hea : ea = 0
      · subst hea
        have e1 : Ev.evl Vs.new (Sy.un 13 x) = (max a (-a), 0) := by rw [ok1]; rfl
        by_cases heb : eb = 0
        · subst heb
          obtain ⟨g, hg⟩ : ∃ g, g = Ev.opv Vs.new 0 a b o.toNat := ⟨_, rfl⟩
          have e2 : Ev.evl Vs.new (Sy.bin o x y) = (g.1, g.2) := by rw [ok2 o ob hk2, Ev.opk_two, hg]
          have m0 : 0 ≤ max a (-a) := by omega
          generalize max a (-a) = ma at *
          clear hg ba bb
          skip
          have C2 := Lib.hid (fun (w1 : World) (b : Nat) (q : Qw w w1) (h : Kd w1 (some ⟨b, 0, none⟩) 2 [x, y]) => show Calls Tryd.prog 18 #[.agg #[.int .i64 o, .int .i64 0, .slice (some ⟨b, 0, none⟩) 2 2]] w1 fun e w' => e = .returned (.tuple #[.int .i64 g.1, .int .i64 g.2]) ∧ Qw w1 w' by
            have := evNewTwo o x y b w1 (HT.out.kept q) h
            rw [e2] at this
            exact this)
          have C1 := Lib.hid (fun (w1 : World) (b : Nat) (q : Qw w w1) (h : Kd w1 (some ⟨b, 0, none⟩) 1 [x]) => show Calls Tryd.prog 18 #[.agg #[.int .i64 13, .int .i64 0, .slice (some ⟨b, 0, none⟩) 1 1]] w1 fun e w' => e = .returned (.tuple #[.int .i64 ma, .int .i64 0]) ∧ Qw w1 w' by
            have := evNewOne 13 x b w1 (HT.out.kept q) h
            rw [e1] at this
            exact this)
          clear e1 e2 ok2 ok1 hA hB okx oky dpx dpy
          go_wp2_with (first
              | (go_at_call 18; ((with_reducible refine (CX.out _ (Qw.trans QQ.out (by repeat (first | exact Qw.refl _ | refine Qw.al ?_ _ | refine Qw.dr ?_))) (KidsB.kept XY.out.kx (by repeat (first | exact Qw.refl _ | refine Qw.al ?_ _ | refine Qw.dr ?_)))).mono ?_); rintro e w' ⟨rfl, q⟩; replace XY := Lib.hid (XY.out.kept (Qw.trans (by repeat (first | exact Qw.refl _ | refine Qw.al ?_ _ | refine Qw.dr ?_)) q)); obtain ⟨p0, p1, p2, p3, p4, p5⟩ := XY.out.c; replace QQ := Lib.hid (Qw.trans QQ.out (Qw.trans (by repeat (first | exact Qw.refl _ | refine Qw.al ?_ _ | refine Qw.dr ?_)) q)); clear q))
              | (go_at_call 18; ((with_reducible refine (CY.out _ (Qw.trans QQ.out (by repeat (first | exact Qw.refl _ | refine Qw.al ?_ _ | refine Qw.dr ?_))) (KidsB.kept XY.out.ky (by repeat (first | exact Qw.refl _ | refine Qw.al ?_ _ | refine Qw.dr ?_)))).mono ?_); rintro e w' ⟨rfl, q⟩; replace XY := Lib.hid (XY.out.kept (Qw.trans (by repeat (first | exact Qw.refl _ | refine Qw.al ?_ _ | refine Qw.dr ?_)) q)); obtain ⟨p0, p1, p2, p3, p4, p5⟩ := XY.out.c; replace QQ := Lib.hid (Qw.trans QQ.out (Qw.trans (by repeat (first | exact Qw.refl _ | refine Qw.al ?_ _ | refine Qw.dr ?_)) q)); clear q))
              | (go_at_call 21; ((with_reducible refine (betweenW k 3 7 k1 k2 (by decide) (by decide) (by decide) (by decide) _).mono ?_); rintro e w' ⟨rfl, rfl⟩; rw [HK.out]))
              | (go_at_call 19; ((with_reducible refine (evTwo o x y _ _ _ _ _ (KidsB.kept XY.out.kx (by repeat (first | exact Qw.refl _ | refine Qw.al ?_ _ | refine Qw.dr ?_))) (KidsB.kept XY.out.ky (by repeat (first | exact Qw.refl _ | refine Qw.al ?_ _ | refine Qw.dr ?_)))).mono ?_); rintro e w' ⟨tb, rfl, hk, q⟩; have K := Lib.hid hk; clear hk; replace XY := Lib.hid (XY.out.kept (Qw.trans (by repeat (first | exact Qw.refl _ | refine Qw.al ?_ _ | refine Qw.dr ?_)) q)); obtain ⟨p0, p1, p2, p3, p4, p5⟩ := XY.out.c; replace QQ := Lib.hid (Qw.trans QQ.out (Qw.trans (by repeat (first | exact Qw.refl _ | refine Qw.al ?_ _ | refine Qw.dr ?_)) q)); clear q))
              | (go_at_call 18; ((with_reducible refine (C2.out _ _ (Qw.trans QQ.out (by repeat (first | exact Qw.refl _ | refine Qw.al ?_ _ | refine Qw.dr ?_))) K.out).mono ?_); rintro e w' ⟨rfl, q⟩; clear K; replace XY := Lib.hid (XY.out.kept (Qw.trans (by repeat (first | exact Qw.refl _ | refine Qw.al ?_ _ | refine Qw.dr ?_)) q)); obtain ⟨p0, p1, p2, p3, p4, p5⟩ := XY.out.c; replace QQ := Lib.hid (Qw.trans QQ.out (Qw.trans (by repeat (first | exact Qw.refl _ | refine Qw.al ?_ _ | refine Qw.dr ?_)) q)); clear q))
              | (go_at_call 18; ((with_reducible refine (C1.out _ _ (Qw.trans QQ.out (by repeat (first | exact Qw.refl _ | refine Qw.al ?_ _ | refine Qw.dr ?_))) (KidsB.one (Bx.new _ _ _) trivial (KidsB.kept XY.out.kx (by repeat (first | exact Qw.refl _ | refine Qw.al ?_ _ | refine Qw.dr ?_))))).mono ?_); rintro e w' ⟨rfl, q⟩; replace XY := Lib.hid (XY.out.kept (Qw.trans (by repeat (first | exact Qw.refl _ | refine Qw.al ?_ _ | refine Qw.dr ?_)) q)); obtain ⟨p0, p1, p2, p3, p4, p5⟩ := XY.out.c; replace QQ := Lib.hid (Qw.trans QQ.out (Qw.trans (by repeat (first | exact Qw.refl _ | refine Qw.al ?_ _ | refine Qw.dr ?_)) q)); clear q))
              | (go_at_call 10; ((with_reducible refine (awake8 _ (HT.out.kept (Qw.trans QQ.out (by repeat (first | exact Qw.refl _ | refine Qw.al ?_ _ | refine Qw.dr ?_))))).mono ?_); rintro e w' ⟨rfl, q⟩; replace XY := Lib.hid (XY.out.kept (Qw.trans (by repeat (first | exact Qw.refl _ | refine Qw.al ?_ _ | refine Qw.dr ?_)) q)); obtain ⟨p0, p1, p2, p3, p4, p5⟩ := XY.out.c; replace QQ := Lib.hid (Qw.trans QQ.out (Qw.trans (by repeat (first | exact Qw.refl _ | refine Qw.al ?_ _ | refine Qw.dr ?_)) q)); clear q)))
          go_ret
          exact ⟨rfl, QQ.out⟩
        · have e2 : Ev.evl Vs.new (Sy.bin o x y) = (0, eb) := by rw [ok2 o ob hk2, Ev.opk_err2 _ _ _ rfl heb]
          have nb : (eb != 0) = true := by simpa using heb
          generalize max a (-a) = ma at *
          clear heb ba bb
          skip
          have C2 := Lib.hid (fun (w1 : World) (b : Nat) (q : Qw w w1) (h : Kd w1 (some ⟨b, 0, none⟩) 2 [x, y]) => show Calls Tryd.prog 18 #[.agg #[.int .i64 o, .int .i64 0, .slice (some ⟨b, 0, none⟩) 2 2]] w1 fun e w' => e = .returned (.tuple #[.int .i64 0, .int .i64 eb]) ∧ Qw w1 w' by
            have := evNewTwo o x y b w1 (HT.out.kept q) h
            rw [e2] at this
            exact this)
          have C1 := Lib.hid (fun (w1 : World) (b : Nat) (q : Qw w w1) (h : Kd w1 (some ⟨b, 0, none⟩) 1 [x]) => show Calls Tryd.prog 18 #[.agg #[.int .i64 13, .int .i64 0, .slice (some ⟨b, 0, none⟩) 1 1]] w1 fun e w' => e = .returned (.tuple #[.int .i64 ma, .int .i64 0]) ∧ Qw w1 w' by
            have := evNewOne 13 x b w1 (HT.out.kept q) h
            rw [e1] at this
            exact this)
          clear e1 e2 ok2 ok1 hA hB okx oky dpx dpy
          go_wp2_with (first
              | (go_at_call 18; ((with_reducible refine (CX.out _ (Qw.trans QQ.out (by repeat (first | exact Qw.refl _ | refine Qw.al ?_ _ | refine Qw.dr ?_))) (KidsB.kept XY.out.kx (by repeat (first | exact Qw.refl _ | refine Qw.al ?_ _ | refine Qw.dr ?_)))).mono ?_); rintro e w' ⟨rfl, q⟩; replace XY := Lib.hid (XY.out.kept (Qw.trans (by repeat (first | exact Qw.refl _ | refine Qw.al ?_ _ | refine Qw.dr ?_)) q)); obtain ⟨p0, p1, p2, p3, p4, p5⟩ := XY.out.c; replace QQ := Lib.hid (Qw.trans QQ.out (Qw.trans (by repeat (first | exact Qw.refl _ | refine Qw.al ?_ _ | refine Qw.dr ?_)) q)); clear q))
              | (go_at_call 18; ((with_reducible refine (CY.out _ (Qw.trans QQ.out (by repeat (first | exact Qw.refl _ | refine Qw.al ?_ _ | refine Qw.dr ?_))) (KidsB.kept XY.out.ky (by repeat (first | exact Qw.refl _ | refine Qw.al ?_ _ | refine Qw.dr ?_)))).mono ?_); rintro e w' ⟨rfl, q⟩; replace XY := Lib.hid (XY.out.kept (Qw.trans (by repeat (first | exact Qw.refl _ | refine Qw.al ?_ _ | refine Qw.dr ?_)) q)); obtain ⟨p0, p1, p2, p3, p4, p5⟩ := XY.out.c; replace QQ := Lib.hid (Qw.trans QQ.out (Qw.trans (by repeat (first | exact Qw.refl _ | refine Qw.al ?_ _ | refine Qw.dr ?_)) q)); clear q))
              | (go_at_call 21; ((with_reducible refine (betweenW k 3 7 k1 k2 (by decide) (by decide) (by decide) (by decide) _).mono ?_); rintro e w' ⟨rfl, rfl⟩; rw [HK.out]))
              | (go_at_call 19; ((with_reducible refine (evTwo o x y _ _ _ _ _ (KidsB.kept XY.out.kx (by repeat (first | exact Qw.refl _ | refine Qw.al ?_ _ | refine Qw.dr ?_))) (KidsB.kept XY.out.ky (by repeat (first | exact Qw.refl _ | refine Qw.al ?_ _ | refine Qw.dr ?_)))).mono ?_); rintro e w' ⟨tb, rfl, hk, q⟩; have K := Lib.hid hk; clear hk; replace XY := Lib.hid (XY.out.kept (Qw.trans (by repeat (first | exact Qw.refl _ | refine Qw.al ?_ _ | refine Qw.dr ?_)) q)); obtain ⟨p0, p1, p2, p3, p4, p5⟩ := XY.out.c; replace QQ := Lib.hid (Qw.trans QQ.out (Qw.trans (by repeat (first | exact Qw.refl _ | refine Qw.al ?_ _ | refine Qw.dr ?_)) q)); clear q))
              | (go_at_call 18; ((with_reducible refine (C2.out _ _ (Qw.trans QQ.out (by repeat (first | exact Qw.refl _ | refine Qw.al ?_ _ | refine Qw.dr ?_))) K.out).mono ?_); rintro e w' ⟨rfl, q⟩; clear K; replace XY := Lib.hid (XY.out.kept (Qw.trans (by repeat (first | exact Qw.refl _ | refine Qw.al ?_ _ | refine Qw.dr ?_)) q)); obtain ⟨p0, p1, p2, p3, p4, p5⟩ := XY.out.c; replace QQ := Lib.hid (Qw.trans QQ.out (Qw.trans (by repeat (first | exact Qw.refl _ | refine Qw.al ?_ _ | refine Qw.dr ?_)) q)); clear q))
              | (go_at_call 18; ((with_reducible refine (C1.out _ _ (Qw.trans QQ.out (by repeat (first | exact Qw.refl _ | refine Qw.al ?_ _ | refine Qw.dr ?_))) (KidsB.one (Bx.new _ _ _) trivial (KidsB.kept XY.out.kx (by repeat (first | exact Qw.refl _ | refine Qw.al ?_ _ | refine Qw.dr ?_))))).mono ?_); rintro e w' ⟨rfl, q⟩; replace XY := Lib.hid (XY.out.kept (Qw.trans (by repeat (first | exact Qw.refl _ | refine Qw.al ?_ _ | refine Qw.dr ?_)) q)); obtain ⟨p0, p1, p2, p3, p4, p5⟩ := XY.out.c; replace QQ := Lib.hid (Qw.trans QQ.out (Qw.trans (by repeat (first | exact Qw.refl _ | refine Qw.al ?_ _ | refine Qw.dr ?_)) q)); clear q))
              | (go_at_call 10; ((with_reducible refine (awake8 _ (HT.out.kept (Qw.trans QQ.out (by repeat (first | exact Qw.refl _ | refine Qw.al ?_ _ | refine Qw.dr ?_))))).mono ?_); rintro e w' ⟨rfl, q⟩; replace XY := Lib.hid (XY.out.kept (Qw.trans (by repeat (first | exact Qw.refl _ | refine Qw.al ?_ _ | refine Qw.dr ?_)) q)); obtain ⟨p0, p1, p2, p3, p4, p5⟩ := XY.out.c; replace QQ := Lib.hid (Qw.trans QQ.out (Qw.trans (by repeat (first | exact Qw.refl _ | refine Qw.al ?_ _ | refine Qw.dr ?_)) q)); clear q)))
          go_ret
          exact ⟨rfl, QQ.out⟩
      · have e1 : Ev.evl Vs.new (Sy.un 13 x) = (0, ea) := by rw [ok1, Ev.opk_err1 _ _ _ _ hea]
        have e2 : Ev.evl Vs.new (Sy.bin o x y) = (0, ea) := by rw [ok2 o ob hk2, Ev.opk_err1 _ _ _ _ hea]
        have na : (ea != 0) = true := by simpa using hea
        clear hea ba bb
        skip
        have C2 := Lib.hid (fun (w1 : World) (b : Nat) (q : Qw w w1) (h : Kd w1 (some ⟨b, 0, none⟩) 2 [x, y]) => show Calls Tryd.prog 18 #[.agg #[.int .i64 o, .int .i64 0, .slice (some ⟨b, 0, none⟩) 2 2]] w1 fun e w' => e = .returned (.tuple #[.int .i64 0, .int .i64 ea]) ∧ Qw w1 w' by
          have := evNewTwo o x y b w1 (HT.out.kept q) h
          rw [e2] at this
          exact this)
        have C1 := Lib.hid (fun (w1 : World) (b : Nat) (q : Qw w w1) (h : Kd w1 (some ⟨b, 0, none⟩) 1 [x]) => show Calls Tryd.prog 18 #[.agg #[.int .i64 13, .int .i64 0, .slice (some ⟨b, 0, none⟩) 1 1]] w1 fun e w' => e = .returned (.tuple #[.int .i64 0, .int .i64 ea]) ∧ Qw w1 w' by
          have := evNewOne 13 x b w1 (HT.out.kept q) h
          rw [e1] at this
          exact this)
        clear e1 e2 ok2 ok1 hA hB okx oky dpx dpy
        go_wp2_with (first
            | (go_at_call 18; ((with_reducible refine (CX.out _ (Qw.trans QQ.out (by repeat (first | exact Qw.refl _ | refine Qw.al ?_ _ | refine Qw.dr ?_))) (KidsB.kept XY.out.kx (by repeat (first | exact Qw.refl _ | refine Qw.al ?_ _ | refine Qw.dr ?_)))).mono ?_); rintro e w' ⟨rfl, q⟩; replace XY := Lib.hid (XY.out.kept (Qw.trans (by repeat (first | exact Qw.refl _ | refine Qw.al ?_ _ | refine Qw.dr ?_)) q)); obtain ⟨p0, p1, p2, p3, p4, p5⟩ := XY.out.c; replace QQ := Lib.hid (Qw.trans QQ.out (Qw.trans (by repeat (first | exact Qw.refl _ | refine Qw.al ?_ _ | refine Qw.dr ?_)) q)); clear q))
            | (go_at_call 18; ((with_reducible refine (CY.out _ (Qw.trans QQ.out (by repeat (first | exact Qw.refl _ | refine Qw.al ?_ _ | refine Qw.dr ?_))) (KidsB.kept XY.out.ky (by repeat (first | exact Qw.refl _ | refine Qw.al ?_ _ | refine Qw.dr ?_)))).mono ?_); rintro e w' ⟨rfl, q⟩; replace XY := Lib.hid (XY.out.kept (Qw.trans (by repeat (first | exact Qw.refl _ | refine Qw.al ?_ _ | refine Qw.dr ?_)) q)); obtain ⟨p0, p1, p2, p3, p4, p5⟩ := XY.out.c; replace QQ := Lib.hid (Qw.trans QQ.out (Qw.trans (by repeat (first | exact Qw.refl _ | refine Qw.al ?_ _ | refine Qw.dr ?_)) q)); clear q))
            | (go_at_call 21; ((with_reducible refine (betweenW k 3 7 k1 k2 (by decide) (by decide) (by decide) (by decide) _).mono ?_); rintro e w' ⟨rfl, rfl⟩; rw [HK.out]))
            | (go_at_call 19; ((with_reducible refine (evTwo o x y _ _ _ _ _ (KidsB.kept XY.out.kx (by repeat (first | exact Qw.refl _ | refine Qw.al ?_ _ | refine Qw.dr ?_))) (KidsB.kept XY.out.ky (by repeat (first | exact Qw.refl _ | refine Qw.al ?_ _ | refine Qw.dr ?_)))).mono ?_); rintro e w' ⟨tb, rfl, hk, q⟩; have K := Lib.hid hk; clear hk; replace XY := Lib.hid (XY.out.kept (Qw.trans (by repeat (first | exact Qw.refl _ | refine Qw.al ?_ _ | refine Qw.dr ?_)) q)); obtain ⟨p0, p1, p2, p3, p4, p5⟩ := XY.out.c; replace QQ := Lib.hid (Qw.trans QQ.out (Qw.trans (by repeat (first | exact Qw.refl _ | refine Qw.al ?_ _ | refine Qw.dr ?_)) q)); clear q))
            | (go_at_call 18; ((with_reducible refine (C2.out _ _ (Qw.trans QQ.out (by repeat (first | exact Qw.refl _ | refine Qw.al ?_ _ | refine Qw.dr ?_))) K.out).mono ?_); rintro e w' ⟨rfl, q⟩; clear K; replace XY := Lib.hid (XY.out.kept (Qw.trans (by repeat (first | exact Qw.refl _ | refine Qw.al ?_ _ | refine Qw.dr ?_)) q)); obtain ⟨p0, p1, p2, p3, p4, p5⟩ := XY.out.c; replace QQ := Lib.hid (Qw.trans QQ.out (Qw.trans (by repeat (first | exact Qw.refl _ | refine Qw.al ?_ _ | refine Qw.dr ?_)) q)); clear q))
            | (go_at_call 18; ((with_reducible refine (C1.out _ _ (Qw.trans QQ.out (by repeat (first | exact Qw.refl _ | refine Qw.al ?_ _ | refine Qw.dr ?_))) (KidsB.one (Bx.new _ _ _) trivial (KidsB.kept XY.out.kx (by repeat (first | exact Qw.refl _ | refine Qw.al ?_ _ | refine Qw.dr ?_))))).mono ?_); rintro e w' ⟨rfl, q⟩; replace XY := Lib.hid (XY.out.kept (Qw.trans (by repeat (first | exact Qw.refl _ | refine Qw.al ?_ _ | refine Qw.dr ?_)) q)); obtain ⟨p0, p1, p2, p3, p4, p5⟩ := XY.out.c; replace QQ := Lib.hid (Qw.trans QQ.out (Qw.trans (by repeat (first | exact Qw.refl _ | refine Qw.al ?_ _ | refine Qw.dr ?_)) q)); clear q))
            | (go_at_call 10; ((with_reducible refine (awake8 _ (HT.out.kept (Qw.trans QQ.out (by repeat (first | exact Qw.refl _ | refine Qw.al ?_ _ | refine Qw.dr ?_))))).mono ?_); rintro e w' ⟨rfl, q⟩; replace XY := Lib.hid (XY.out.kept (Qw.trans (by repeat (first | exact Qw.refl _ | refine Qw.al ?_ _ | refine Qw.dr ?_)) q)); obtain ⟨p0, p1, p2, p3, p4, p5⟩ := XY.out.c; replace QQ := Lib.hid (Qw.trans QQ.out (Qw.trans (by repeat (first | exact Qw.refl _ | refine Qw.al ?_ _ | refine Qw.dr ?_)) q)); clear q)))
        go_ret
        exact ⟨rfl, QQ.out⟩
    · have d1 : decide (z1.length ≤ 120) = false := decide_eq_false l1
      go_enter Tryd.func6, Tryd.ntmps6
      go_wp2_with (first
      | (go_at_call 9; ((with_reducible refine (lightF _ _ _ _ HV0.out).mono ?_); rintro e w' ⟨rfl, rfl⟩; skip))
      | (go_at_call 9; ((with_reducible refine (lightF _ _ _ _ HV1.out).mono ?_); rintro e w' ⟨rfl, rfl⟩; skip))
      | (go_at_call 10; ((with_reducible refine (awake8 _ (HT.out.kept QQ.out)).mono ?_); rintro e w' ⟨rfl, q⟩; replace QQ := Lib.hid (Qw.trans QQ.out q); clear q)))
      go_ret
      exact ⟨rfl, QQ.out⟩
  · have d0 : decide (z0.length ≤ 120) = false := decide_eq_false l0
    go_enter Tryd.func6, Tryd.ntmps6
    go_wp2_with (first
      | (go_at_call 9; ((with_reducible refine (lightF _ _ _ _ HV0.out).mono ?_); rintro e w' ⟨rfl, rfl⟩; skip))
      | (go_at_call 10; ((with_reducible refine (awake8 _ (HT.out.kept QQ.out)).mono ?_); rintro e w' ⟨rfl, q⟩; replace QQ := Lib.hid (Qw.trans QQ.out q); clear q)))
    go_ret
    exact ⟨rfl, QQ.out⟩

/-! ### the row and the card -/
theorem reads_evalErrors (os : Os) {H : Type} (enc : TypeId × Value → H) : ∃ places, DataW.whole enc Tryd.prog ((laidWorldE os).forCall (fun _ _ => 0) ⟨#[], #[.slice none 0 0, .slice none 0 0, .int .i64 0], []⟩).memory Tryd.f6.params.toList Rows.evalErrorsSpec.vars false #[(.slice none 0 0 : Value), .slice none 0 0, .int .i64 0].toList 8 = some ([.nil, .nil, .lit (.int .i64 0)], [], places) :=
  ⟨[], by kernel_rfl⟩
set_option maxRecDepth 100000 in
theorem lifted_evalErrors (os : Os) (started : os.Started) (H : Type) (enc : TypeId × Value → H) (F : Stop.Interp) :
    ReturnsInHanded {} Tryd.checked os 6 .any ((OpenSpec.ofChange Rows.evalErrorsSpec).preRow enc Tryd.prog Tryd.f6 Rows.evalErrorsRow.domain false Rows.evalErrorsRow.laid) (((OpenSpec.ofChange Rows.evalErrorsSpec).at F).post enc Tryd.prog Tryd.f6 false true false false) := by
  obtain ⟨places, hx⟩ := reads_evalErrors os enc
  refine returnsInHanded_of_row (C := Tryd.checked) (s := OpenSpec.ofChange Rows.evalErrorsSpec) ownE started (by kernel_rfl) Tryd.func6
    (witness_row_at (enc := enc) (C := Tryd.checked) false (laidWorldE os) #[.slice none 0 0, .slice none 0 0, .int .i64 0] rfl (by kernel_rfl) (by kernel_rfl) (by kernel_rfl)
      (OpenSpec.preRow_of_cond 8 hx (by kernel_rfl) (fun k hk => by cases hk) (by kernel_rfl) (laid_metE os _))) ?_
  intro W base args ds gs before hval0 hW _ _ _ hL _ _
  have ht : Tw W := tableE hL
  have hval : ∀ (j : Nat) t v, Tryd.f6.params[j]? = some t → args[j]? = some v → Value.okWide Tryd.prog W .any base t v := hval0
  have hW' := hW
  obtain ⟨p, q, hA0, hV, rfl, hfz, hnd⟩ := hW
  have hA : DataW.TrodAll enc Tryd.prog W 0 (fun _ => true) true Tryd.f6.params.toList args.toList ds p := hA0
  rw [Tryd.params6] at hA hval
  obtain ⟨v0, vs0, d0, ds0, p0, q0, hargs, rfl, rfl, h0, r0⟩ := trodAll_cons hA
  obtain ⟨v1, vs1, d1, ds1, p1, q1, rfl, rfl, rfl, h1, r1⟩ := trodAll_cons r0
  obtain ⟨v2, vs2, d2, ds2, p2, q2, rfl, rfl, rfl, h2, r2⟩ := trodAll_cons r1
  obtain ⟨rfl, rfl, rfl⟩ := trodAll_nil r2
  obtain rfl : args = #[v0, v1, v2] := by cases args; simp_all
  obtain ⟨rfl, rfl⟩ := trodVars_none hV
  obtain ⟨u0, hu0⟩ := in_ints (hval 0 22 v0 rfl rfl) h0
  obtain ⟨u1, hu1⟩ := in_ints (hval 1 22 v1 rfl rfl) h1
  obtain ⟨a2, rfl, rfl, rfl, w2⟩ := open_int Tryd.underlying3 (hval 2 3 v2 rfl rfl) h2
  obtain ⟨x2, y2⟩ := i64_of_wf w2
  clear hA0 hval0 hL
  simp only [List.append_nil] at hW'
  refine (walk_evalErrors v0 u0 v1 u1 a2 x2 y2 W hu0 hu1 ht).mono fun e W' ⟨he, bel⟩ => ?_
  subst he
  exact ⟨_, rfl, _, _, _, [], _, [], hW', trodAll_mk1 (shut_bool Tryd.underlying4 _), (trodAll_cons_mk (out_ints h0 bel (fun x hx => hW'.lt x (by first | exact hx | simp [hx]))) (trodAll_cons_mk (out_ints h1 bel (fun x hx => hW'.lt x (by first | exact hx | simp [hx]))) (trodAll_cons_mk (shut_int Tryd.underlying3 w2) trodAll_mk0))), rfl, Below.frame bel _, fun h => by cases h⟩

theorem evalErrors_said : Rows.EvalErrorsSaid :=
  OpenClaim.holds_of_cond 6 Tryd.f6 rfl rfl rfl rfl rfl rfl rfl ⟨rfl, rfl, rfl, rfl, rfl⟩ rfl rfl rfl rfl rfl (by kernel_rfl) Tryd.func6 (by kernel_rfl)
    (of_decide_eq_true (by kernel_rfl)) (by unfold Func.isWrapper; first | (rw [if_pos (by decide +kernel)]; kernel_rfl) | (rw [if_neg (by decide +kernel)]; exact ⟨rfl, rfl⟩))
    (fun os started H enc _ F => by rw [OpenClaim.pre_eq_preRow]; exact lifted_evalErrors os started H enc F)

theorem plain_evalErrors (f : FuncId) (fn : Func) (hf : Tryd.pinned.checked.prog.funcNamed "cnc/cnclaw08.EvalErrors" = some f) (hfn : Tryd.pinned.checked.prog.funcs[f]? = some fn) :
    false = Tryd.pinned.checked.prog.looks [] ∧ ∀ (j : Nat) t, fn.params[j]? = some t → Tryd.pinned.checked.prog.wantsStandIn t = false := by
  obtain rfl : f = 6 := Option.some.inj ((show Tryd.prog.funcNamed "cnc/cnclaw08.EvalErrors" = some 6 by kernel_rfl).symm.trans hf) |>.symm
  obtain rfl : fn = Tryd.f6 := (Option.some.inj (Tryd.func6.symm.trans hfn)).symm
  refine ⟨by kernel_rfl, fun j t ht => ?_⟩
  rw [Tryd.params6] at ht
  have hm : t = 22 ∨ t = 3 := by simpa using Array.mem_of_getElem? ht
  rcases hm with rfl | rfl
  · exact (show Tryd.prog.wantsStandIn 22 = false by kernel_rfl)
  · exact (show Tryd.prog.wantsStandIn 3 = false by kernel_rfl)

/-- The statement. -/
theorem evalErrors_card : Rows.EvalErrorsCardSaid :=
  Claim7.holds_tied_plain_at .later [] _ _ _ _ evalErrors_said (fun _ h => by cases h) (by kernel_rfl) (fun _ h => by cases h) evalErrors_row_tie rfl ⟨rfl, rfl⟩ (by kernel_rfl) rfl plain_evalErrors (by kernel_rfl)

end Go.Proofs.YtkfipjlknfinpaaDoor
