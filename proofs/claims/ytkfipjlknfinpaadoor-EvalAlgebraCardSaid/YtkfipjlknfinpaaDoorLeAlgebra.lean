
/- EvalAlgebra of layer 8: sums and products commute, a difference is the sum with the opposite, and comparisons decide.
   Conditions: the listed tables lie as the program's own text lays them (the card ties them); every input. -/
import Derived.Test.YtkfipjlknfinpaaDoorFrameE
import Derived.Test.YtkfipjlknfinpaaDoorEvL
import Derived.Deep.Cut
set_option linter.unusedVariables false
set_option linter.unusedSimpArgs false
namespace Go.Proofs.YtkfipjlknfinpaaDoor
open Go.ChangeShapes Go.WideShapes Go.ChangeAt Go.RowKit

set_option maxRecDepth 100000 in
set_option maxHeartbeats 4000000 in
theorem walk_evalAlgebra (v0 : Value) (z0 : List Int) (v1 : Value) (z1 : List Int) (w : World) (hv0 : IntsB w.heap.size w v0 z0) (hv1 : IntsB w.heap.size w v1 z1) (ht : Tw w) :
    Calls Tryd.prog 4 #[v0, v1] w fun e w' => e = .returned (.bool true) ∧ Qw w w' := by
  have HV0 := Lib.hid hv0
  have HV1 := Lib.hid hv1
  have HT := Lib.hid ht
  have QQ := Lib.hid (Qw.refl w)
  clear hv0 hv1 ht
  by_cases l0 : z0.length ≤ 120
  · have d0 : decide (z0.length ≤ 120) = true := decide_eq_true l0
    by_cases l1 : z1.length ≤ 120
    · have d1 : decide (z1.length ≤ 120) = true := decide_eq_true l1
      go_enter Tryd.func4, Tryd.ntmps4
      go_upto_region 4 with (first
          | (go_at_call 9; ((with_reducible refine (lightF _ _ _ _ HV0.out).mono ?_); rintro e w' ⟨rfl, rfl⟩; skip))
          | (go_at_call 9; ((with_reducible refine (lightF _ _ _ _ HV1.out).mono ?_); rintro e w' ⟨rfl, rfl⟩; skip))
          | (go_at_call 13; ((with_reducible refine (newF _ _ _ (HV0.out.then QQ.out)).mono ?_); rintro e w' ⟨rfl, tp, q⟩; have TP := Lib.hid tp; have QN := Lib.hid (Qw.le QQ.out); replace QQ := Lib.hid (Qw.trans QQ.out q); clear tp q))
          | (go_at_call 12; ((with_reducible refine (exprN4 _ _ _ TP.out QQ.out QN.out).mono ?_); rintro e w' ⟨x, xa, xc, rfl, okx, dpx, kx, q⟩; have KX := Lib.hid kx; have OX := Lib.hid (And.intro okx dpx); clear TP QN QQ okx dpx kx; have QX := Lib.hid q; have Q2 := Lib.hid (Qw.refl w'); clear q))
          | (go_at_call 13; ((with_reducible refine (newF _ _ _ (HV1.out.then (Qw.trans QX.out Q2.out))).mono ?_); rintro e w' ⟨rfl, tp, q⟩; have TP := Lib.hid tp; have QN := Lib.hid (Qw.le Q2.out); replace Q2 := Lib.hid (Qw.trans Q2.out q); clear tp q))
          | (go_at_call 12; ((with_reducible refine (exprN4 _ _ _ TP.out Q2.out QN.out).mono ?_); rintro e w' ⟨y, ya, yc, rfl, oky, dpy, ky, q⟩; have KY := Lib.hid ky; have OY := Lib.hid (And.intro oky dpy); replace KX := Lib.hid (KidsB.kept KX.out q); have QQ := Lib.hid (Qw.trans QX.out q); clear TP QN Q2 QX oky dpy ky q)))
      refine code_of (fun w2 => Hid (Xy w2 w'.heap.size (w'.heap.size + 1) x y xa xc ya yc) ∧ Hid (Qw w w2)) ⟨Lib.hid (Xy.mk' KX.out KY.out), Lib.hid (Qw.al (Qw.al QQ.out _) _)⟩ ?_
      clear QQ
      have dx := KX.out.cap
      have dy := KY.out.cap
      obtain ⟨xl1, xl2⟩ := dx
      obtain ⟨yl1, yl2⟩ := dy
      clear KX KY
      generalize w'.heap.size + 1 = E
      generalize w'.heap.size = D
      rintro w2 ⟨XY, QQ⟩
      obtain ⟨p0, p1, p2, p3, p4, p5⟩ := XY.out.c
      obtain ⟨okx, dpx⟩ := OX.out
      obtain ⟨oky, dpy⟩ := OY.out
      clear OX OY
      obtain ⟨a, ea, hA⟩ : ∃ a ea, Ev.evl Vs.new x = (a, ea) := ⟨_, _, rfl⟩
      obtain ⟨b, eb, hB⟩ : ∃ b eb, Ev.evl Vs.new y = (b, eb) := ⟨_, _, rfl⟩
      have ba : Ev.Bd a := by have := Ev.evl_bd Ev.good_new okx; rwa [hA] at this
      have bb : Ev.Bd b := by have := Ev.evl_bd Ev.good_new oky; rwa [hB] at this
      have CX := Lib.hid (fun (w1 : World) (q : Qw w w1) (h : Kd w1 xa xc x.ks) => show Calls Tryd.prog 18 #[.agg #[.int .i64 x.op, .int .i64 x.n, .slice xa x.ks.length xc]] w1 fun e w' => e = .returned (.tuple #[.int .i64 a, .int .i64 ea]) ∧ Qw w1 w' by
        have := evNew x xa xc w1 (HT.out.kept q) h
        rw [hA] at this
        exact this)
      have CY := Lib.hid (fun (w1 : World) (q : Qw w w1) (h : Kd w1 ya yc y.ks) => show Calls Tryd.prog 18 #[.agg #[.int .i64 y.op, .int .i64 y.n, .slice ya y.ks.length yc]] w1 fun e w' => e = .returned (.tuple #[.int .i64 b, .int .i64 eb]) ∧ Qw w1 w' by
        have := evNew y ya yc w1 (HT.out.kept q) h
        rw [hB] at this
        exact this)
      have ok2 : ∀ o : Int, (0 ≤ o ∧ o ≤ 25) → Sy.kds o.toNat = 2 → Ev.evl Vs.new (Sy.bin o x y) = Ev.opk Vs.new o 0 [(a, ea), (b, eb)] := fun o h k => by rw [Ev.evl_bin h k okx oky (by omega) (by omega), hA, hB]
      by_cases hea : ea = 0
      · subst hea
        by_cases heb : eb = 0
        · subst heb
          have hcmp : a < b ∨ b < a ∨ a = b := by omega
          rcases hcmp with hcmp | hcmp | hcmp
          · skip
            have CTN := Lib.hid (fun (w1 : World) (g : Nat) (h1 : Kd w1 xa xc x.ks) (h2 : Kd w1 (some ⟨g, 0, none⟩) 1 [y]) => show Calls Tryd.prog 19 #[.int .i64 3, .agg #[.int .i64 x.op, .int .i64 x.n, .slice xa x.ks.length xc], .agg #[.int .i64 2, .int .i64 0, .slice (some ⟨g, 0, none⟩) 1 1]] w1 fun e w' => ∃ b, e = .returned (.agg #[.int .i64 3, .int .i64 0, .slice (some ⟨b, 0, none⟩) 2 2]) ∧ Kd w' (some ⟨b, 0, none⟩) 2 [x, Sy.un 2 y] ∧ Qw w1 w' from evTwo 3 x (Sy.un 2 y) _ _ _ _ w1 h1 h2)
            have eC21 : Ev.evl Vs.new (Sy.bin 21 x y) = (1000000, 0) := by rw [ok2 21 (by decide) rfl, Ev.opk_two]; show Ev.flg _ = _; rw [show decide (a < b) = true by simp; omega]; rfl
            have C21 := Lib.hid (fun (w1 : World) (b : Nat) (q : Qw w w1) (h : Kd w1 (some ⟨b, 0, none⟩) 2 [x, y]) => show Calls Tryd.prog 18 #[.agg #[.int .i64 21, .int .i64 0, .slice (some ⟨b, 0, none⟩) 2 2]] w1 fun e w' => e = .returned (.tuple #[.int .i64 1000000, .int .i64 0]) ∧ Qw w1 w' by
              have := evNewTwo 21 x y b w1 (HT.out.kept q) h
              rw [eC21] at this
              exact this)
            have eC19 : Ev.evl Vs.new (Sy.bin 19 x y) = (0, 0) := by rw [ok2 19 (by decide) rfl, Ev.opk_two]; show Ev.flg _ = _; rw [show decide (b < a) = false by simp; omega]; rfl
            have C19 := Lib.hid (fun (w1 : World) (b : Nat) (q : Qw w w1) (h : Kd w1 (some ⟨b, 0, none⟩) 2 [x, y]) => show Calls Tryd.prog 18 #[.agg #[.int .i64 19, .int .i64 0, .slice (some ⟨b, 0, none⟩) 2 2]] w1 fun e w' => e = .returned (.tuple #[.int .i64 0, .int .i64 0]) ∧ Qw w1 w' by
              have := evNewTwo 19 x y b w1 (HT.out.kept q) h
              rw [eC19] at this
              exact this)
            have eC17 : Ev.evl Vs.new (Sy.bin 17 x y) = (0, 0) := by rw [ok2 17 (by decide) rfl, Ev.opk_two]; show Ev.flg _ = _; rw [show (a == b) = false by simp; omega]; rfl
            have C17 := Lib.hid (fun (w1 : World) (b : Nat) (q : Qw w w1) (h : Kd w1 (some ⟨b, 0, none⟩) 2 [x, y]) => show Calls Tryd.prog 18 #[.agg #[.int .i64 17, .int .i64 0, .slice (some ⟨b, 0, none⟩) 2 2]] w1 fun e w' => e = .returned (.tuple #[.int .i64 0, .int .i64 0]) ∧ Qw w1 w' by
              have := evNewTwo 17 x y b w1 (HT.out.kept q) h
              rw [eC17] at this
              exact this)
            have eC20 : Ev.evl Vs.new (Sy.bin 20 x y) = (0, 0) := by rw [ok2 20 (by decide) rfl, Ev.opk_two]; show Ev.flg _ = _; rw [show decide (b ≤ a) = false by simp; omega]; rfl
            have C20 := Lib.hid (fun (w1 : World) (b : Nat) (q : Qw w w1) (h : Kd w1 (some ⟨b, 0, none⟩) 2 [x, y]) => show Calls Tryd.prog 18 #[.agg #[.int .i64 20, .int .i64 0, .slice (some ⟨b, 0, none⟩) 2 2]] w1 fun e w' => e = .returned (.tuple #[.int .i64 0, .int .i64 0]) ∧ Qw w1 w' by
              have := evNewTwo 20 x y b w1 (HT.out.kept q) h
              rw [eC20] at this
              exact this)
            have eC22 : Ev.evl Vs.new (Sy.bin 22 x y) = (1000000, 0) := by rw [ok2 22 (by decide) rfl, Ev.opk_two]; show Ev.flg _ = _; rw [show decide (a ≤ b) = true by simp; omega]; rfl
            have C22 := Lib.hid (fun (w1 : World) (b : Nat) (q : Qw w w1) (h : Kd w1 (some ⟨b, 0, none⟩) 2 [x, y]) => show Calls Tryd.prog 18 #[.agg #[.int .i64 22, .int .i64 0, .slice (some ⟨b, 0, none⟩) 2 2]] w1 fun e w' => e = .returned (.tuple #[.int .i64 1000000, .int .i64 0]) ∧ Qw w1 w' by
              have := evNewTwo 22 x y b w1 (HT.out.kept q) h
              rw [eC22] at this
              exact this)
            have eC18 : Ev.evl Vs.new (Sy.bin 18 x y) = (1000000, 0) := by rw [ok2 18 (by decide) rfl, Ev.opk_two]; show Ev.flg _ = _; rw [show (a != b) = true by simp; omega]; rfl
            have C18 := Lib.hid (fun (w1 : World) (b : Nat) (q : Qw w w1) (h : Kd w1 (some ⟨b, 0, none⟩) 2 [x, y]) => show Calls Tryd.prog 18 #[.agg #[.int .i64 18, .int .i64 0, .slice (some ⟨b, 0, none⟩) 2 2]] w1 fun e w' => e = .returned (.tuple #[.int .i64 1000000, .int .i64 0]) ∧ Qw w1 w' by
              have := evNewTwo 18 x y b w1 (HT.out.kept q) h
              rw [eC18] at this
              exact this)
            have eCA : Ev.evl Vs.new (Sy.bin 3 x y) = (addv a b, adde a b) := by rw [ok2 3 (by decide) rfl, Ev.opk_two]; rfl
            have eCB : Ev.evl Vs.new (Sy.bin 3 y x) = (addv a b, adde a b) := by rw [Ev.evl_bin (by decide) rfl oky okx (by omega) (by omega), hA, hB, Ev.opk_two, ← (Ev.add_comm a b).1, ← (Ev.add_comm a b).2]; rfl
            have eCM : Ev.evl Vs.new (Sy.bin 5 x y) = (mulv a b, mule a b) := by rw [ok2 5 (by decide) rfl, Ev.opk_two]; rfl
            have eCN : Ev.evl Vs.new (Sy.bin 5 y x) = (mulv a b, mule a b) := by rw [Ev.evl_bin (by decide) rfl oky okx (by omega) (by omega), hA, hB, Ev.opk_two, ← (Ev.mul_comm a b).1, ← (Ev.mul_comm a b).2]; rfl
            have eCS : Ev.evl Vs.new (Sy.bin 4 x y) = (subv a b, sube a b) := by rw [ok2 4 (by decide) rfl, Ev.opk_two]; rfl
            have eCD : Ev.evl Vs.new (Sy.bin 3 x (Sy.un 2 y)) = (subv a b, sube a b) := by
              have e2 : Ev.evl Vs.new (Sy.un 2 y) = (-b, 0) := by rw [Ev.evl_un (by decide) rfl oky (by omega), hB]; rfl
              rw [Ev.evl_bin (by decide) rfl okx (Sy.okx_un' (by decide) rfl oky) (by omega) (by rw [Sy.dpt_un]; omega), hA, e2, Ev.opk_two, ← (Ev.sub_add a b).1, ← (Ev.sub_add a b).2]; rfl
            generalize addv a b = av at *
            generalize adde a b = ae at *
            generalize mulv a b = mv at *
            generalize mule a b = me at *
            generalize subv a b = sv at *
            generalize sube a b = se at *
            have CA := Lib.hid (fun (w1 : World) (b : Nat) (q : Qw w w1) (h : Kd w1 (some ⟨b, 0, none⟩) 2 [x, y]) => show Calls Tryd.prog 18 #[.agg #[.int .i64 3, .int .i64 0, .slice (some ⟨b, 0, none⟩) 2 2]] w1 fun e w' => e = .returned (.tuple #[.int .i64 av, .int .i64 ae]) ∧ Qw w1 w' by
              have := evNewTwo 3 x y b w1 (HT.out.kept q) h
              rw [eCA] at this
              exact this)
            have CB := Lib.hid (fun (w1 : World) (b : Nat) (q : Qw w w1) (h : Kd w1 (some ⟨b, 0, none⟩) 2 [y, x]) => show Calls Tryd.prog 18 #[.agg #[.int .i64 3, .int .i64 0, .slice (some ⟨b, 0, none⟩) 2 2]] w1 fun e w' => e = .returned (.tuple #[.int .i64 av, .int .i64 ae]) ∧ Qw w1 w' by
              have := evNewTwo 3 y x b w1 (HT.out.kept q) h
              rw [eCB] at this
              exact this)
            have CM := Lib.hid (fun (w1 : World) (b : Nat) (q : Qw w w1) (h : Kd w1 (some ⟨b, 0, none⟩) 2 [x, y]) => show Calls Tryd.prog 18 #[.agg #[.int .i64 5, .int .i64 0, .slice (some ⟨b, 0, none⟩) 2 2]] w1 fun e w' => e = .returned (.tuple #[.int .i64 mv, .int .i64 me]) ∧ Qw w1 w' by
              have := evNewTwo 5 x y b w1 (HT.out.kept q) h
              rw [eCM] at this
              exact this)
            have CN := Lib.hid (fun (w1 : World) (b : Nat) (q : Qw w w1) (h : Kd w1 (some ⟨b, 0, none⟩) 2 [y, x]) => show Calls Tryd.prog 18 #[.agg #[.int .i64 5, .int .i64 0, .slice (some ⟨b, 0, none⟩) 2 2]] w1 fun e w' => e = .returned (.tuple #[.int .i64 mv, .int .i64 me]) ∧ Qw w1 w' by
              have := evNewTwo 5 y x b w1 (HT.out.kept q) h
              rw [eCN] at this
              exact this)
            have CS := Lib.hid (fun (w1 : World) (b : Nat) (q : Qw w w1) (h : Kd w1 (some ⟨b, 0, none⟩) 2 [x, y]) => show Calls Tryd.prog 18 #[.agg #[.int .i64 4, .int .i64 0, .slice (some ⟨b, 0, none⟩) 2 2]] w1 fun e w' => e = .returned (.tuple #[.int .i64 sv, .int .i64 se]) ∧ Qw w1 w' by
              have := evNewTwo 4 x y b w1 (HT.out.kept q) h
              rw [eCS] at this
              exact this)
            have CD := Lib.hid (fun (w1 : World) (b : Nat) (q : Qw w w1) (h : Kd w1 (some ⟨b, 0, none⟩) 2 [x, (Sy.un 2 y)]) => show Calls Tryd.prog 18 #[.agg #[.int .i64 3, .int .i64 0, .slice (some ⟨b, 0, none⟩) 2 2]] w1 fun e w' => e = .returned (.tuple #[.int .i64 sv, .int .i64 se]) ∧ Qw w1 w' by
              have := evNewTwo 3 x (Sy.un 2 y) b w1 (HT.out.kept q) h
              rw [eCD] at this
              exact this)
            clear eC21 eC19 eC17 eC20 eC22 eC18 eCA eCB eCM eCN eCS eCD ok2 hA hB okx oky dpx dpy ba bb hcmp
            go_wp2_with (first
                | (go_at_call 18; ((with_reducible refine (CX.out _ (Qw.trans QQ.out (by repeat (first | exact Qw.refl _ | refine Qw.al ?_ _ | refine Qw.dr ?_))) (KidsB.kept XY.out.kx (by repeat (first | exact Qw.refl _ | refine Qw.al ?_ _ | refine Qw.dr ?_)))).mono ?_); rintro e w' ⟨rfl, q⟩; replace XY := Lib.hid (XY.out.kept (Qw.trans (by repeat (first | exact Qw.refl _ | refine Qw.al ?_ _ | refine Qw.dr ?_)) q)); obtain ⟨p0, p1, p2, p3, p4, p5⟩ := XY.out.c; replace QQ := Lib.hid (Qw.trans QQ.out (Qw.trans (by repeat (first | exact Qw.refl _ | refine Qw.al ?_ _ | refine Qw.dr ?_)) q)); clear q))
                | (go_at_call 18; ((with_reducible refine (CY.out _ (Qw.trans QQ.out (by repeat (first | exact Qw.refl _ | refine Qw.al ?_ _ | refine Qw.dr ?_))) (KidsB.kept XY.out.ky (by repeat (first | exact Qw.refl _ | refine Qw.al ?_ _ | refine Qw.dr ?_)))).mono ?_); rintro e w' ⟨rfl, q⟩; replace XY := Lib.hid (XY.out.kept (Qw.trans (by repeat (first | exact Qw.refl _ | refine Qw.al ?_ _ | refine Qw.dr ?_)) q)); obtain ⟨p0, p1, p2, p3, p4, p5⟩ := XY.out.c; replace QQ := Lib.hid (Qw.trans QQ.out (Qw.trans (by repeat (first | exact Qw.refl _ | refine Qw.al ?_ _ | refine Qw.dr ?_)) q)); clear q))
                | (go_at_call 19; ((with_reducible refine (evTwo 21 x y _ _ _ _ _ (KidsB.kept XY.out.kx (by repeat (first | exact Qw.refl _ | refine Qw.al ?_ _ | refine Qw.dr ?_))) (KidsB.kept XY.out.ky (by repeat (first | exact Qw.refl _ | refine Qw.al ?_ _ | refine Qw.dr ?_)))).mono ?_); rintro e w' ⟨tb, rfl, hk, q⟩; have K := Lib.hid hk; clear hk; replace XY := Lib.hid (XY.out.kept (Qw.trans (by repeat (first | exact Qw.refl _ | refine Qw.al ?_ _ | refine Qw.dr ?_)) q)); obtain ⟨p0, p1, p2, p3, p4, p5⟩ := XY.out.c; replace QQ := Lib.hid (Qw.trans QQ.out (Qw.trans (by repeat (first | exact Qw.refl _ | refine Qw.al ?_ _ | refine Qw.dr ?_)) q)); clear q))
                | (go_at_call 19; ((with_reducible refine (evTwo 19 x y _ _ _ _ _ (KidsB.kept XY.out.kx (by repeat (first | exact Qw.refl _ | refine Qw.al ?_ _ | refine Qw.dr ?_))) (KidsB.kept XY.out.ky (by repeat (first | exact Qw.refl _ | refine Qw.al ?_ _ | refine Qw.dr ?_)))).mono ?_); rintro e w' ⟨tb, rfl, hk, q⟩; have K := Lib.hid hk; clear hk; replace XY := Lib.hid (XY.out.kept (Qw.trans (by repeat (first | exact Qw.refl _ | refine Qw.al ?_ _ | refine Qw.dr ?_)) q)); obtain ⟨p0, p1, p2, p3, p4, p5⟩ := XY.out.c; replace QQ := Lib.hid (Qw.trans QQ.out (Qw.trans (by repeat (first | exact Qw.refl _ | refine Qw.al ?_ _ | refine Qw.dr ?_)) q)); clear q))
                | (go_at_call 19; ((with_reducible refine (evTwo 17 x y _ _ _ _ _ (KidsB.kept XY.out.kx (by repeat (first | exact Qw.refl _ | refine Qw.al ?_ _ | refine Qw.dr ?_))) (KidsB.kept XY.out.ky (by repeat (first | exact Qw.refl _ | refine Qw.al ?_ _ | refine Qw.dr ?_)))).mono ?_); rintro e w' ⟨tb, rfl, hk, q⟩; have K := Lib.hid hk; clear hk; replace XY := Lib.hid (XY.out.kept (Qw.trans (by repeat (first | exact Qw.refl _ | refine Qw.al ?_ _ | refine Qw.dr ?_)) q)); obtain ⟨p0, p1, p2, p3, p4, p5⟩ := XY.out.c; replace QQ := Lib.hid (Qw.trans QQ.out (Qw.trans (by repeat (first | exact Qw.refl _ | refine Qw.al ?_ _ | refine Qw.dr ?_)) q)); clear q))
                | (go_at_call 19; ((with_reducible refine (evTwo 20 x y _ _ _ _ _ (KidsB.kept XY.out.kx (by repeat (first | exact Qw.refl _ | refine Qw.al ?_ _ | refine Qw.dr ?_))) (KidsB.kept XY.out.ky (by repeat (first | exact Qw.refl _ | refine Qw.al ?_ _ | refine Qw.dr ?_)))).mono ?_); rintro e w' ⟨tb, rfl, hk, q⟩; have K := Lib.hid hk; clear hk; replace XY := Lib.hid (XY.out.kept (Qw.trans (by repeat (first | exact Qw.refl _ | refine Qw.al ?_ _ | refine Qw.dr ?_)) q)); obtain ⟨p0, p1, p2, p3, p4, p5⟩ := XY.out.c; replace QQ := Lib.hid (Qw.trans QQ.out (Qw.trans (by repeat (first | exact Qw.refl _ | refine Qw.al ?_ _ | refine Qw.dr ?_)) q)); clear q))
                | (go_at_call 19; ((with_reducible refine (evTwo 22 x y _ _ _ _ _ (KidsB.kept XY.out.kx (by repeat (first | exact Qw.refl _ | refine Qw.al ?_ _ | refine Qw.dr ?_))) (KidsB.kept XY.out.ky (by repeat (first | exact Qw.refl _ | refine Qw.al ?_ _ | refine Qw.dr ?_)))).mono ?_); rintro e w' ⟨tb, rfl, hk, q⟩; have K := Lib.hid hk; clear hk; replace XY := Lib.hid (XY.out.kept (Qw.trans (by repeat (first | exact Qw.refl _ | refine Qw.al ?_ _ | refine Qw.dr ?_)) q)); obtain ⟨p0, p1, p2, p3, p4, p5⟩ := XY.out.c; replace QQ := Lib.hid (Qw.trans QQ.out (Qw.trans (by repeat (first | exact Qw.refl _ | refine Qw.al ?_ _ | refine Qw.dr ?_)) q)); clear q))
                | (go_at_call 19; ((with_reducible refine (evTwo 18 x y _ _ _ _ _ (KidsB.kept XY.out.kx (by repeat (first | exact Qw.refl _ | refine Qw.al ?_ _ | refine Qw.dr ?_))) (KidsB.kept XY.out.ky (by repeat (first | exact Qw.refl _ | refine Qw.al ?_ _ | refine Qw.dr ?_)))).mono ?_); rintro e w' ⟨tb, rfl, hk, q⟩; have K := Lib.hid hk; clear hk; replace XY := Lib.hid (XY.out.kept (Qw.trans (by repeat (first | exact Qw.refl _ | refine Qw.al ?_ _ | refine Qw.dr ?_)) q)); obtain ⟨p0, p1, p2, p3, p4, p5⟩ := XY.out.c; replace QQ := Lib.hid (Qw.trans QQ.out (Qw.trans (by repeat (first | exact Qw.refl _ | refine Qw.al ?_ _ | refine Qw.dr ?_)) q)); clear q))
                | (go_at_call 19; ((with_reducible refine (evTwo 3 x y _ _ _ _ _ (KidsB.kept XY.out.kx (by repeat (first | exact Qw.refl _ | refine Qw.al ?_ _ | refine Qw.dr ?_))) (KidsB.kept XY.out.ky (by repeat (first | exact Qw.refl _ | refine Qw.al ?_ _ | refine Qw.dr ?_)))).mono ?_); rintro e w' ⟨tb, rfl, hk, q⟩; have K := Lib.hid hk; clear hk; replace XY := Lib.hid (XY.out.kept (Qw.trans (by repeat (first | exact Qw.refl _ | refine Qw.al ?_ _ | refine Qw.dr ?_)) q)); obtain ⟨p0, p1, p2, p3, p4, p5⟩ := XY.out.c; replace QQ := Lib.hid (Qw.trans QQ.out (Qw.trans (by repeat (first | exact Qw.refl _ | refine Qw.al ?_ _ | refine Qw.dr ?_)) q)); clear q))
                | (go_at_call 19; ((with_reducible refine (evTwo 3 y x _ _ _ _ _ (KidsB.kept XY.out.ky (by repeat (first | exact Qw.refl _ | refine Qw.al ?_ _ | refine Qw.dr ?_))) (KidsB.kept XY.out.kx (by repeat (first | exact Qw.refl _ | refine Qw.al ?_ _ | refine Qw.dr ?_)))).mono ?_); rintro e w' ⟨tb, rfl, hk, q⟩; have K := Lib.hid hk; clear hk; replace XY := Lib.hid (XY.out.kept (Qw.trans (by repeat (first | exact Qw.refl _ | refine Qw.al ?_ _ | refine Qw.dr ?_)) q)); obtain ⟨p0, p1, p2, p3, p4, p5⟩ := XY.out.c; replace QQ := Lib.hid (Qw.trans QQ.out (Qw.trans (by repeat (first | exact Qw.refl _ | refine Qw.al ?_ _ | refine Qw.dr ?_)) q)); clear q))
                | (go_at_call 19; ((with_reducible refine (evTwo 5 x y _ _ _ _ _ (KidsB.kept XY.out.kx (by repeat (first | exact Qw.refl _ | refine Qw.al ?_ _ | refine Qw.dr ?_))) (KidsB.kept XY.out.ky (by repeat (first | exact Qw.refl _ | refine Qw.al ?_ _ | refine Qw.dr ?_)))).mono ?_); rintro e w' ⟨tb, rfl, hk, q⟩; have K := Lib.hid hk; clear hk; replace XY := Lib.hid (XY.out.kept (Qw.trans (by repeat (first | exact Qw.refl _ | refine Qw.al ?_ _ | refine Qw.dr ?_)) q)); obtain ⟨p0, p1, p2, p3, p4, p5⟩ := XY.out.c; replace QQ := Lib.hid (Qw.trans QQ.out (Qw.trans (by repeat (first | exact Qw.refl _ | refine Qw.al ?_ _ | refine Qw.dr ?_)) q)); clear q))
                | (go_at_call 19; ((with_reducible refine (evTwo 5 y x _ _ _ _ _ (KidsB.kept XY.out.ky (by repeat (first | exact Qw.refl _ | refine Qw.al ?_ _ | refine Qw.dr ?_))) (KidsB.kept XY.out.kx (by repeat (first | exact Qw.refl _ | refine Qw.al ?_ _ | refine Qw.dr ?_)))).mono ?_); rintro e w' ⟨tb, rfl, hk, q⟩; have K := Lib.hid hk; clear hk; replace XY := Lib.hid (XY.out.kept (Qw.trans (by repeat (first | exact Qw.refl _ | refine Qw.al ?_ _ | refine Qw.dr ?_)) q)); obtain ⟨p0, p1, p2, p3, p4, p5⟩ := XY.out.c; replace QQ := Lib.hid (Qw.trans QQ.out (Qw.trans (by repeat (first | exact Qw.refl _ | refine Qw.al ?_ _ | refine Qw.dr ?_)) q)); clear q))
                | (go_at_call 19; ((with_reducible refine (evTwo 4 x y _ _ _ _ _ (KidsB.kept XY.out.kx (by repeat (first | exact Qw.refl _ | refine Qw.al ?_ _ | refine Qw.dr ?_))) (KidsB.kept XY.out.ky (by repeat (first | exact Qw.refl _ | refine Qw.al ?_ _ | refine Qw.dr ?_)))).mono ?_); rintro e w' ⟨tb, rfl, hk, q⟩; have K := Lib.hid hk; clear hk; replace XY := Lib.hid (XY.out.kept (Qw.trans (by repeat (first | exact Qw.refl _ | refine Qw.al ?_ _ | refine Qw.dr ?_)) q)); obtain ⟨p0, p1, p2, p3, p4, p5⟩ := XY.out.c; replace QQ := Lib.hid (Qw.trans QQ.out (Qw.trans (by repeat (first | exact Qw.refl _ | refine Qw.al ?_ _ | refine Qw.dr ?_)) q)); clear q))
                | (go_at_call 19; ((with_reducible refine (CTN.out _ _ (KidsB.kept XY.out.kx (by repeat (first | exact Qw.refl _ | refine Qw.al ?_ _ | refine Qw.dr ?_))) (KidsB.one (Bx.new _ _ _) trivial (KidsB.kept XY.out.ky (by repeat (first | exact Qw.refl _ | refine Qw.al ?_ _ | refine Qw.dr ?_))))).mono ?_); rintro e w' ⟨tb, rfl, hk, q⟩; have K := Lib.hid hk; clear hk; replace XY := Lib.hid (XY.out.kept (Qw.trans (by repeat (first | exact Qw.refl _ | refine Qw.al ?_ _ | refine Qw.dr ?_)) q)); obtain ⟨p0, p1, p2, p3, p4, p5⟩ := XY.out.c; replace QQ := Lib.hid (Qw.trans QQ.out (Qw.trans (by repeat (first | exact Qw.refl _ | refine Qw.al ?_ _ | refine Qw.dr ?_)) q)); clear q))
                | (go_at_call 18; ((with_reducible refine (C21.out _ _ (Qw.trans QQ.out (by repeat (first | exact Qw.refl _ | refine Qw.al ?_ _ | refine Qw.dr ?_))) K.out).mono ?_); rintro e w' ⟨rfl, q⟩; clear K; replace XY := Lib.hid (XY.out.kept (Qw.trans (by repeat (first | exact Qw.refl _ | refine Qw.al ?_ _ | refine Qw.dr ?_)) q)); obtain ⟨p0, p1, p2, p3, p4, p5⟩ := XY.out.c; replace QQ := Lib.hid (Qw.trans QQ.out (Qw.trans (by repeat (first | exact Qw.refl _ | refine Qw.al ?_ _ | refine Qw.dr ?_)) q)); clear q))
                | (go_at_call 18; ((with_reducible refine (C19.out _ _ (Qw.trans QQ.out (by repeat (first | exact Qw.refl _ | refine Qw.al ?_ _ | refine Qw.dr ?_))) K.out).mono ?_); rintro e w' ⟨rfl, q⟩; clear K; replace XY := Lib.hid (XY.out.kept (Qw.trans (by repeat (first | exact Qw.refl _ | refine Qw.al ?_ _ | refine Qw.dr ?_)) q)); obtain ⟨p0, p1, p2, p3, p4, p5⟩ := XY.out.c; replace QQ := Lib.hid (Qw.trans QQ.out (Qw.trans (by repeat (first | exact Qw.refl _ | refine Qw.al ?_ _ | refine Qw.dr ?_)) q)); clear q))
                | (go_at_call 18; ((with_reducible refine (C17.out _ _ (Qw.trans QQ.out (by repeat (first | exact Qw.refl _ | refine Qw.al ?_ _ | refine Qw.dr ?_))) K.out).mono ?_); rintro e w' ⟨rfl, q⟩; clear K; replace XY := Lib.hid (XY.out.kept (Qw.trans (by repeat (first | exact Qw.refl _ | refine Qw.al ?_ _ | refine Qw.dr ?_)) q)); obtain ⟨p0, p1, p2, p3, p4, p5⟩ := XY.out.c; replace QQ := Lib.hid (Qw.trans QQ.out (Qw.trans (by repeat (first | exact Qw.refl _ | refine Qw.al ?_ _ | refine Qw.dr ?_)) q)); clear q))
                | (go_at_call 18; ((with_reducible refine (C20.out _ _ (Qw.trans QQ.out (by repeat (first | exact Qw.refl _ | refine Qw.al ?_ _ | refine Qw.dr ?_))) K.out).mono ?_); rintro e w' ⟨rfl, q⟩; clear K; replace XY := Lib.hid (XY.out.kept (Qw.trans (by repeat (first | exact Qw.refl _ | refine Qw.al ?_ _ | refine Qw.dr ?_)) q)); obtain ⟨p0, p1, p2, p3, p4, p5⟩ := XY.out.c; replace QQ := Lib.hid (Qw.trans QQ.out (Qw.trans (by repeat (first | exact Qw.refl _ | refine Qw.al ?_ _ | refine Qw.dr ?_)) q)); clear q))
                | (go_at_call 18; ((with_reducible refine (C22.out _ _ (Qw.trans QQ.out (by repeat (first | exact Qw.refl _ | refine Qw.al ?_ _ | refine Qw.dr ?_))) K.out).mono ?_); rintro e w' ⟨rfl, q⟩; clear K; replace XY := Lib.hid (XY.out.kept (Qw.trans (by repeat (first | exact Qw.refl _ | refine Qw.al ?_ _ | refine Qw.dr ?_)) q)); obtain ⟨p0, p1, p2, p3, p4, p5⟩ := XY.out.c; replace QQ := Lib.hid (Qw.trans QQ.out (Qw.trans (by repeat (first | exact Qw.refl _ | refine Qw.al ?_ _ | refine Qw.dr ?_)) q)); clear q))
                | (go_at_call 18; ((with_reducible refine (C18.out _ _ (Qw.trans QQ.out (by repeat (first | exact Qw.refl _ | refine Qw.al ?_ _ | refine Qw.dr ?_))) K.out).mono ?_); rintro e w' ⟨rfl, q⟩; clear K; replace XY := Lib.hid (XY.out.kept (Qw.trans (by repeat (first | exact Qw.refl _ | refine Qw.al ?_ _ | refine Qw.dr ?_)) q)); obtain ⟨p0, p1, p2, p3, p4, p5⟩ := XY.out.c; replace QQ := Lib.hid (Qw.trans QQ.out (Qw.trans (by repeat (first | exact Qw.refl _ | refine Qw.al ?_ _ | refine Qw.dr ?_)) q)); clear q))
                | (go_at_call 18; ((with_reducible refine (CA.out _ _ (Qw.trans QQ.out (by repeat (first | exact Qw.refl _ | refine Qw.al ?_ _ | refine Qw.dr ?_))) K.out).mono ?_); rintro e w' ⟨rfl, q⟩; clear K; replace XY := Lib.hid (XY.out.kept (Qw.trans (by repeat (first | exact Qw.refl _ | refine Qw.al ?_ _ | refine Qw.dr ?_)) q)); obtain ⟨p0, p1, p2, p3, p4, p5⟩ := XY.out.c; replace QQ := Lib.hid (Qw.trans QQ.out (Qw.trans (by repeat (first | exact Qw.refl _ | refine Qw.al ?_ _ | refine Qw.dr ?_)) q)); clear q))
                | (go_at_call 18; ((with_reducible refine (CB.out _ _ (Qw.trans QQ.out (by repeat (first | exact Qw.refl _ | refine Qw.al ?_ _ | refine Qw.dr ?_))) K.out).mono ?_); rintro e w' ⟨rfl, q⟩; clear K; replace XY := Lib.hid (XY.out.kept (Qw.trans (by repeat (first | exact Qw.refl _ | refine Qw.al ?_ _ | refine Qw.dr ?_)) q)); obtain ⟨p0, p1, p2, p3, p4, p5⟩ := XY.out.c; replace QQ := Lib.hid (Qw.trans QQ.out (Qw.trans (by repeat (first | exact Qw.refl _ | refine Qw.al ?_ _ | refine Qw.dr ?_)) q)); clear q))
                | (go_at_call 18; ((with_reducible refine (CM.out _ _ (Qw.trans QQ.out (by repeat (first | exact Qw.refl _ | refine Qw.al ?_ _ | refine Qw.dr ?_))) K.out).mono ?_); rintro e w' ⟨rfl, q⟩; clear K; replace XY := Lib.hid (XY.out.kept (Qw.trans (by repeat (first | exact Qw.refl _ | refine Qw.al ?_ _ | refine Qw.dr ?_)) q)); obtain ⟨p0, p1, p2, p3, p4, p5⟩ := XY.out.c; replace QQ := Lib.hid (Qw.trans QQ.out (Qw.trans (by repeat (first | exact Qw.refl _ | refine Qw.al ?_ _ | refine Qw.dr ?_)) q)); clear q))
                | (go_at_call 18; ((with_reducible refine (CN.out _ _ (Qw.trans QQ.out (by repeat (first | exact Qw.refl _ | refine Qw.al ?_ _ | refine Qw.dr ?_))) K.out).mono ?_); rintro e w' ⟨rfl, q⟩; clear K; replace XY := Lib.hid (XY.out.kept (Qw.trans (by repeat (first | exact Qw.refl _ | refine Qw.al ?_ _ | refine Qw.dr ?_)) q)); obtain ⟨p0, p1, p2, p3, p4, p5⟩ := XY.out.c; replace QQ := Lib.hid (Qw.trans QQ.out (Qw.trans (by repeat (first | exact Qw.refl _ | refine Qw.al ?_ _ | refine Qw.dr ?_)) q)); clear q))
                | (go_at_call 18; ((with_reducible refine (CS.out _ _ (Qw.trans QQ.out (by repeat (first | exact Qw.refl _ | refine Qw.al ?_ _ | refine Qw.dr ?_))) K.out).mono ?_); rintro e w' ⟨rfl, q⟩; clear K; replace XY := Lib.hid (XY.out.kept (Qw.trans (by repeat (first | exact Qw.refl _ | refine Qw.al ?_ _ | refine Qw.dr ?_)) q)); obtain ⟨p0, p1, p2, p3, p4, p5⟩ := XY.out.c; replace QQ := Lib.hid (Qw.trans QQ.out (Qw.trans (by repeat (first | exact Qw.refl _ | refine Qw.al ?_ _ | refine Qw.dr ?_)) q)); clear q))
                | (go_at_call 18; ((with_reducible refine (CD.out _ _ (Qw.trans QQ.out (by repeat (first | exact Qw.refl _ | refine Qw.al ?_ _ | refine Qw.dr ?_))) K.out).mono ?_); rintro e w' ⟨rfl, q⟩; clear K; replace XY := Lib.hid (XY.out.kept (Qw.trans (by repeat (first | exact Qw.refl _ | refine Qw.al ?_ _ | refine Qw.dr ?_)) q)); obtain ⟨p0, p1, p2, p3, p4, p5⟩ := XY.out.c; replace QQ := Lib.hid (Qw.trans QQ.out (Qw.trans (by repeat (first | exact Qw.refl _ | refine Qw.al ?_ _ | refine Qw.dr ?_)) q)); clear q))
                | (go_at_call 10; ((with_reducible refine (awake8 _ (HT.out.kept (Qw.trans QQ.out (by repeat (first | exact Qw.refl _ | refine Qw.al ?_ _ | refine Qw.dr ?_))))).mono ?_); rintro e w' ⟨rfl, q⟩; replace XY := Lib.hid (XY.out.kept (Qw.trans (by repeat (first | exact Qw.refl _ | refine Qw.al ?_ _ | refine Qw.dr ?_)) q)); obtain ⟨p0, p1, p2, p3, p4, p5⟩ := XY.out.c; replace QQ := Lib.hid (Qw.trans QQ.out (Qw.trans (by repeat (first | exact Qw.refl _ | refine Qw.al ?_ _ | refine Qw.dr ?_)) q)); clear q)))
            go_ret
            exact ⟨rfl, QQ.out⟩
          · skip
            have CTN := Lib.hid (fun (w1 : World) (g : Nat) (h1 : Kd w1 xa xc x.ks) (h2 : Kd w1 (some ⟨g, 0, none⟩) 1 [y]) => show Calls Tryd.prog 19 #[.int .i64 3, .agg #[.int .i64 x.op, .int .i64 x.n, .slice xa x.ks.length xc], .agg #[.int .i64 2, .int .i64 0, .slice (some ⟨g, 0, none⟩) 1 1]] w1 fun e w' => ∃ b, e = .returned (.agg #[.int .i64 3, .int .i64 0, .slice (some ⟨b, 0, none⟩) 2 2]) ∧ Kd w' (some ⟨b, 0, none⟩) 2 [x, Sy.un 2 y] ∧ Qw w1 w' from evTwo 3 x (Sy.un 2 y) _ _ _ _ w1 h1 h2)
            have eC21 : Ev.evl Vs.new (Sy.bin 21 x y) = (0, 0) := by rw [ok2 21 (by decide) rfl, Ev.opk_two]; show Ev.flg _ = _; rw [show decide (a < b) = false by simp; omega]; rfl
            have C21 := Lib.hid (fun (w1 : World) (b : Nat) (q : Qw w w1) (h : Kd w1 (some ⟨b, 0, none⟩) 2 [x, y]) => show Calls Tryd.prog 18 #[.agg #[.int .i64 21, .int .i64 0, .slice (some ⟨b, 0, none⟩) 2 2]] w1 fun e w' => e = .returned (.tuple #[.int .i64 0, .int .i64 0]) ∧ Qw w1 w' by
              have := evNewTwo 21 x y b w1 (HT.out.kept q) h
              rw [eC21] at this
              exact this)
            have eC19 : Ev.evl Vs.new (Sy.bin 19 x y) = (1000000, 0) := by rw [ok2 19 (by decide) rfl, Ev.opk_two]; show Ev.flg _ = _; rw [show decide (b < a) = true by simp; omega]; rfl
            have C19 := Lib.hid (fun (w1 : World) (b : Nat) (q : Qw w w1) (h : Kd w1 (some ⟨b, 0, none⟩) 2 [x, y]) => show Calls Tryd.prog 18 #[.agg #[.int .i64 19, .int .i64 0, .slice (some ⟨b, 0, none⟩) 2 2]] w1 fun e w' => e = .returned (.tuple #[.int .i64 1000000, .int .i64 0]) ∧ Qw w1 w' by
              have := evNewTwo 19 x y b w1 (HT.out.kept q) h
              rw [eC19] at this
              exact this)
            have eC17 : Ev.evl Vs.new (Sy.bin 17 x y) = (0, 0) := by rw [ok2 17 (by decide) rfl, Ev.opk_two]; show Ev.flg _ = _; rw [show (a == b) = false by simp; omega]; rfl
            have C17 := Lib.hid (fun (w1 : World) (b : Nat) (q : Qw w w1) (h : Kd w1 (some ⟨b, 0, none⟩) 2 [x, y]) => show Calls Tryd.prog 18 #[.agg #[.int .i64 17, .int .i64 0, .slice (some ⟨b, 0, none⟩) 2 2]] w1 fun e w' => e = .returned (.tuple #[.int .i64 0, .int .i64 0]) ∧ Qw w1 w' by
              have := evNewTwo 17 x y b w1 (HT.out.kept q) h
              rw [eC17] at this
              exact this)
            have eC20 : Ev.evl Vs.new (Sy.bin 20 x y) = (1000000, 0) := by rw [ok2 20 (by decide) rfl, Ev.opk_two]; show Ev.flg _ = _; rw [show decide (b ≤ a) = true by simp; omega]; rfl
            have C20 := Lib.hid (fun (w1 : World) (b : Nat) (q : Qw w w1) (h : Kd w1 (some ⟨b, 0, none⟩) 2 [x, y]) => show Calls Tryd.prog 18 #[.agg #[.int .i64 20, .int .i64 0, .slice (some ⟨b, 0, none⟩) 2 2]] w1 fun e w' => e = .returned (.tuple #[.int .i64 1000000, .int .i64 0]) ∧ Qw w1 w' by
              have := evNewTwo 20 x y b w1 (HT.out.kept q) h
              rw [eC20] at this
              exact this)
            have eC22 : Ev.evl Vs.new (Sy.bin 22 x y) = (0, 0) := by rw [ok2 22 (by decide) rfl, Ev.opk_two]; show Ev.flg _ = _; rw [show decide (a ≤ b) = false by simp; omega]; rfl
            have C22 := Lib.hid (fun (w1 : World) (b : Nat) (q : Qw w w1) (h : Kd w1 (some ⟨b, 0, none⟩) 2 [x, y]) => show Calls Tryd.prog 18 #[.agg #[.int .i64 22, .int .i64 0, .slice (some ⟨b, 0, none⟩) 2 2]] w1 fun e w' => e = .returned (.tuple #[.int .i64 0, .int .i64 0]) ∧ Qw w1 w' by
              have := evNewTwo 22 x y b w1 (HT.out.kept q) h
              rw [eC22] at this
              exact this)
            have eC18 : Ev.evl Vs.new (Sy.bin 18 x y) = (1000000, 0) := by rw [ok2 18 (by decide) rfl, Ev.opk_two]; show Ev.flg _ = _; rw [show (a != b) = true by simp; omega]; rfl
            have C18 := Lib.hid (fun (w1 : World) (b : Nat) (q : Qw w w1) (h : Kd w1 (some ⟨b, 0, none⟩) 2 [x, y]) => show Calls Tryd.prog 18 #[.agg #[.int .i64 18, .int .i64 0, .slice (some ⟨b, 0, none⟩) 2 2]] w1 fun e w' => e = .returned (.tuple #[.int .i64 1000000, .int .i64 0]) ∧ Qw w1 w' by
              have := evNewTwo 18 x y b w1 (HT.out.kept q) h
              rw [eC18] at this
              exact this)
            have eCA : Ev.evl Vs.new (Sy.bin 3 x y) = (addv a b, adde a b) := by rw [ok2 3 (by decide) rfl, Ev.opk_two]; rfl
            have eCB : Ev.evl Vs.new (Sy.bin 3 y x) = (addv a b, adde a b) := by rw [Ev.evl_bin (by decide) rfl oky okx (by omega) (by omega), hA, hB, Ev.opk_two, ← (Ev.add_comm a b).1, ← (Ev.add_comm a b).2]; rfl
            have eCM : Ev.evl Vs.new (Sy.bin 5 x y) = (mulv a b, mule a b) := by rw [ok2 5 (by decide) rfl, Ev.opk_two]; rfl
            have eCN : Ev.evl Vs.new (Sy.bin 5 y x) = (mulv a b, mule a b) := by rw [Ev.evl_bin (by decide) rfl oky okx (by omega) (by omega), hA, hB, Ev.opk_two, ← (Ev.mul_comm a b).1, ← (Ev.mul_comm a b).2]; rfl
            have eCS : Ev.evl Vs.new (Sy.bin 4 x y) = (subv a b, sube a b) := by rw [ok2 4 (by decide) rfl, Ev.opk_two]; rfl
            have eCD : Ev.evl Vs.new (Sy.bin 3 x (Sy.un 2 y)) = (subv a b, sube a b) := by
              have e2 : Ev.evl Vs.new (Sy.un 2 y) = (-b, 0) := by rw [Ev.evl_un (by decide) rfl oky (by omega), hB]; rfl
              rw [Ev.evl_bin (by decide) rfl okx (Sy.okx_un' (by decide) rfl oky) (by omega) (by rw [Sy.dpt_un]; omega), hA, e2, Ev.opk_two, ← (Ev.sub_add a b).1, ← (Ev.sub_add a b).2]; rfl
            generalize addv a b = av at *
            generalize adde a b = ae at *
            generalize mulv a b = mv at *
            generalize mule a b = me at *
            generalize subv a b = sv at *
            generalize sube a b = se at *
            have CA := Lib.hid (fun (w1 : World) (b : Nat) (q : Qw w w1) (h : Kd w1 (some ⟨b, 0, none⟩) 2 [x, y]) => show Calls Tryd.prog 18 #[.agg #[.int .i64 3, .int .i64 0, .slice (some ⟨b, 0, none⟩) 2 2]] w1 fun e w' => e = .returned (.tuple #[.int .i64 av, .int .i64 ae]) ∧ Qw w1 w' by
              have := evNewTwo 3 x y b w1 (HT.out.kept q) h
              rw [eCA] at this
              exact this)
            have CB := Lib.hid (fun (w1 : World) (b : Nat) (q : Qw w w1) (h : Kd w1 (some ⟨b, 0, none⟩) 2 [y, x]) => show Calls Tryd.prog 18 #[.agg #[.int .i64 3, .int .i64 0, .slice (some ⟨b, 0, none⟩) 2 2]] w1 fun e w' => e = .returned (.tuple #[.int .i64 av, .int .i64 ae]) ∧ Qw w1 w' by
              have := evNewTwo 3 y x b w1 (HT.out.kept q) h
              rw [eCB] at this
              exact this)
            have CM := Lib.hid (fun (w1 : World) (b : Nat) (q : Qw w w1) (h : Kd w1 (some ⟨b, 0, none⟩) 2 [x, y]) => show Calls Tryd.prog 18 #[.agg #[.int .i64 5, .int .i64 0, .slice (some ⟨b, 0, none⟩) 2 2]] w1 fun e w' => e = .returned (.tuple #[.int .i64 mv, .int .i64 me]) ∧ Qw w1 w' by
              have := evNewTwo 5 x y b w1 (HT.out.kept q) h
              rw [eCM] at this
              exact this)
            have CN := Lib.hid (fun (w1 : World) (b : Nat) (q : Qw w w1) (h : Kd w1 (some ⟨b, 0, none⟩) 2 [y, x]) => show Calls Tryd.prog 18 #[.agg #[.int .i64 5, .int .i64 0, .slice (some ⟨b, 0, none⟩) 2 2]] w1 fun e w' => e = .returned (.tuple #[.int .i64 mv, .int .i64 me]) ∧ Qw w1 w' by
              have := evNewTwo 5 y x b w1 (HT.out.kept q) h
              rw [eCN] at this
              exact this)
            have CS := Lib.hid (fun (w1 : World) (b : Nat) (q : Qw w w1) (h : Kd w1 (some ⟨b, 0, none⟩) 2 [x, y]) => show Calls Tryd.prog 18 #[.agg #[.int .i64 4, .int .i64 0, .slice (some ⟨b, 0, none⟩) 2 2]] w1 fun e w' => e = .returned (.tuple #[.int .i64 sv, .int .i64 se]) ∧ Qw w1 w' by
              have := evNewTwo 4 x y b w1 (HT.out.kept q) h
              rw [eCS] at this
              exact this)
            have CD := Lib.hid (fun (w1 : World) (b : Nat) (q : Qw w w1) (h : Kd w1 (some ⟨b, 0, none⟩) 2 [x, (Sy.un 2 y)]) => show Calls Tryd.prog 18 #[.agg #[.int .i64 3, .int .i64 0, .slice (some ⟨b, 0, none⟩) 2 2]] w1 fun e w' => e = .returned (.tuple #[.int .i64 sv, .int .i64 se]) ∧ Qw w1 w' by
              have := evNewTwo 3 x (Sy.un 2 y) b w1 (HT.out.kept q) h
              rw [eCD] at this
              exact this)
            clear eC21 eC19 eC17 eC20 eC22 eC18 eCA eCB eCM eCN eCS eCD ok2 hA hB okx oky dpx dpy ba bb hcmp
            go_wp2_with (first
                | (go_at_call 18; ((with_reducible refine (CX.out _ (Qw.trans QQ.out (by repeat (first | exact Qw.refl _ | refine Qw.al ?_ _ | refine Qw.dr ?_))) (KidsB.kept XY.out.kx (by repeat (first | exact Qw.refl _ | refine Qw.al ?_ _ | refine Qw.dr ?_)))).mono ?_); rintro e w' ⟨rfl, q⟩; replace XY := Lib.hid (XY.out.kept (Qw.trans (by repeat (first | exact Qw.refl _ | refine Qw.al ?_ _ | refine Qw.dr ?_)) q)); obtain ⟨p0, p1, p2, p3, p4, p5⟩ := XY.out.c; replace QQ := Lib.hid (Qw.trans QQ.out (Qw.trans (by repeat (first | exact Qw.refl _ | refine Qw.al ?_ _ | refine Qw.dr ?_)) q)); clear q))
                | (go_at_call 18; ((with_reducible refine (CY.out _ (Qw.trans QQ.out (by repeat (first | exact Qw.refl _ | refine Qw.al ?_ _ | refine Qw.dr ?_))) (KidsB.kept XY.out.ky (by repeat (first | exact Qw.refl _ | refine Qw.al ?_ _ | refine Qw.dr ?_)))).mono ?_); rintro e w' ⟨rfl, q⟩; replace XY := Lib.hid (XY.out.kept (Qw.trans (by repeat (first | exact Qw.refl _ | refine Qw.al ?_ _ | refine Qw.dr ?_)) q)); obtain ⟨p0, p1, p2, p3, p4, p5⟩ := XY.out.c; replace QQ := Lib.hid (Qw.trans QQ.out (Qw.trans (by repeat (first | exact Qw.refl _ | refine Qw.al ?_ _ | refine Qw.dr ?_)) q)); clear q))
                | (go_at_call 19; ((with_reducible refine (evTwo 21 x y _ _ _ _ _ (KidsB.kept XY.out.kx (by repeat (first | exact Qw.refl _ | refine Qw.al ?_ _ | refine Qw.dr ?_))) (KidsB.kept XY.out.ky (by repeat (first | exact Qw.refl _ | refine Qw.al ?_ _ | refine Qw.dr ?_)))).mono ?_); rintro e w' ⟨tb, rfl, hk, q⟩; have K := Lib.hid hk; clear hk; replace XY := Lib.hid (XY.out.kept (Qw.trans (by repeat (first | exact Qw.refl _ | refine Qw.al ?_ _ | refine Qw.dr ?_)) q)); obtain ⟨p0, p1, p2, p3, p4, p5⟩ := XY.out.c; replace QQ := Lib.hid (Qw.trans QQ.out (Qw.trans (by repeat (first | exact Qw.refl _ | refine Qw.al ?_ _ | refine Qw.dr ?_)) q)); clear q))
                | (go_at_call 19; ((with_reducible refine (evTwo 19 x y _ _ _ _ _ (KidsB.kept XY.out.kx (by repeat (first | exact Qw.refl _ | refine Qw.al ?_ _ | refine Qw.dr ?_))) (KidsB.kept XY.out.ky (by repeat (first | exact Qw.refl _ | refine Qw.al ?_ _ | refine Qw.dr ?_)))).mono ?_); rintro e w' ⟨tb, rfl, hk, q⟩; have K := Lib.hid hk; clear hk; replace XY := Lib.hid (XY.out.kept (Qw.trans (by repeat (first | exact Qw.refl _ | refine Qw.al ?_ _ | refine Qw.dr ?_)) q)); obtain ⟨p0, p1, p2, p3, p4, p5⟩ := XY.out.c; replace QQ := Lib.hid (Qw.trans QQ.out (Qw.trans (by repeat (first | exact Qw.refl _ | refine Qw.al ?_ _ | refine Qw.dr ?_)) q)); clear q))
                | (go_at_call 19; ((with_reducible refine (evTwo 17 x y _ _ _ _ _ (KidsB.kept XY.out.kx (by repeat (first | exact Qw.refl _ | refine Qw.al ?_ _ | refine Qw.dr ?_))) (KidsB.kept XY.out.ky (by repeat (first | exact Qw.refl _ | refine Qw.al ?_ _ | refine Qw.dr ?_)))).mono ?_); rintro e w' ⟨tb, rfl, hk, q⟩; have K := Lib.hid hk; clear hk; replace XY := Lib.hid (XY.out.kept (Qw.trans (by repeat (first | exact Qw.refl _ | refine Qw.al ?_ _ | refine Qw.dr ?_)) q)); obtain ⟨p0, p1, p2, p3, p4, p5⟩ := XY.out.c; replace QQ := Lib.hid (Qw.trans QQ.out (Qw.trans (by repeat (first | exact Qw.refl _ | refine Qw.al ?_ _ | refine Qw.dr ?_)) q)); clear q))
                | (go_at_call 19; ((with_reducible refine (evTwo 20 x y _ _ _ _ _ (KidsB.kept XY.out.kx (by repeat (first | exact Qw.refl _ | refine Qw.al ?_ _ | refine Qw.dr ?_))) (KidsB.kept XY.out.ky (by repeat (first | exact Qw.refl _ | refine Qw.al ?_ _ | refine Qw.dr ?_)))).mono ?_); rintro e w' ⟨tb, rfl, hk, q⟩; have K := Lib.hid hk; clear hk; replace XY := Lib.hid (XY.out.kept (Qw.trans (by repeat (first | exact Qw.refl _ | refine Qw.al ?_ _ | refine Qw.dr ?_)) q)); obtain ⟨p0, p1, p2, p3, p4, p5⟩ := XY.out.c; replace QQ := Lib.hid (Qw.trans QQ.out (Qw.trans (by repeat (first | exact Qw.refl _ | refine Qw.al ?_ _ | refine Qw.dr ?_)) q)); clear q))
                | (go_at_call 19; ((with_reducible refine (evTwo 22 x y _ _ _ _ _ (KidsB.kept XY.out.kx (by repeat (first | exact Qw.refl _ | refine Qw.al ?_ _ | refine Qw.dr ?_))) (KidsB.kept XY.out.ky (by repeat (first | exact Qw.refl _ | refine Qw.al ?_ _ | refine Qw.dr ?_)))).mono ?_); rintro e w' ⟨tb, rfl, hk, q⟩; have K := Lib.hid hk; clear hk; replace XY := Lib.hid (XY.out.kept (Qw.trans (by repeat (first | exact Qw.refl _ | refine Qw.al ?_ _ | refine Qw.dr ?_)) q)); obtain ⟨p0, p1, p2, p3, p4, p5⟩ := XY.out.c; replace QQ := Lib.hid (Qw.trans QQ.out (Qw.trans (by repeat (first | exact Qw.refl _ | refine Qw.al ?_ _ | refine Qw.dr ?_)) q)); clear q))
                | (go_at_call 19; ((with_reducible refine (evTwo 18 x y _ _ _ _ _ (KidsB.kept XY.out.kx (by repeat (first | exact Qw.refl _ | refine Qw.al ?_ _ | refine Qw.dr ?_))) (KidsB.kept XY.out.ky (by repeat (first | exact Qw.refl _ | refine Qw.al ?_ _ | refine Qw.dr ?_)))).mono ?_); rintro e w' ⟨tb, rfl, hk, q⟩; have K := Lib.hid hk; clear hk; replace XY := Lib.hid (XY.out.kept (Qw.trans (by repeat (first | exact Qw.refl _ | refine Qw.al ?_ _ | refine Qw.dr ?_)) q)); obtain ⟨p0, p1, p2, p3, p4, p5⟩ := XY.out.c; replace QQ := Lib.hid (Qw.trans QQ.out (Qw.trans (by repeat (first | exact Qw.refl _ | refine Qw.al ?_ _ | refine Qw.dr ?_)) q)); clear q))
                | (go_at_call 19; ((with_reducible refine (evTwo 3 x y _ _ _ _ _ (KidsB.kept XY.out.kx (by repeat (first | exact Qw.refl _ | refine Qw.al ?_ _ | refine Qw.dr ?_))) (KidsB.kept XY.out.ky (by repeat (first | exact Qw.refl _ | refine Qw.al ?_ _ | refine Qw.dr ?_)))).mono ?_); rintro e w' ⟨tb, rfl, hk, q⟩; have K := Lib.hid hk; clear hk; replace XY := Lib.hid (XY.out.kept (Qw.trans (by repeat (first | exact Qw.refl _ | refine Qw.al ?_ _ | refine Qw.dr ?_)) q)); obtain ⟨p0, p1, p2, p3, p4, p5⟩ := XY.out.c; replace QQ := Lib.hid (Qw.trans QQ.out (Qw.trans (by repeat (first | exact Qw.refl _ | refine Qw.al ?_ _ | refine Qw.dr ?_)) q)); clear q))
                | (go_at_call 19; ((with_reducible refine (evTwo 3 y x _ _ _ _ _ (KidsB.kept XY.out.ky (by repeat (first | exact Qw.refl _ | refine Qw.al ?_ _ | refine Qw.dr ?_))) (KidsB.kept XY.out.kx (by repeat (first | exact Qw.refl _ | refine Qw.al ?_ _ | refine Qw.dr ?_)))).mono ?_); rintro e w' ⟨tb, rfl, hk, q⟩; have K := Lib.hid hk; clear hk; replace XY := Lib.hid (XY.out.kept (Qw.trans (by repeat (first | exact Qw.refl _ | refine Qw.al ?_ _ | refine Qw.dr ?_)) q)); obtain ⟨p0, p1, p2, p3, p4, p5⟩ := XY.out.c; replace QQ := Lib.hid (Qw.trans QQ.out (Qw.trans (by repeat (first | exact Qw.refl _ | refine Qw.al ?_ _ | refine Qw.dr ?_)) q)); clear q))
                | (go_at_call 19; ((with_reducible refine (evTwo 5 x y _ _ _ _ _ (KidsB.kept XY.out.kx (by repeat (first | exact Qw.refl _ | refine Qw.al ?_ _ | refine Qw.dr ?_))) (KidsB.kept XY.out.ky (by repeat (first | exact Qw.refl _ | refine Qw.al ?_ _ | refine Qw.dr ?_)))).mono ?_); rintro e w' ⟨tb, rfl, hk, q⟩; have K := Lib.hid hk; clear hk; replace XY := Lib.hid (XY.out.kept (Qw.trans (by repeat (first | exact Qw.refl _ | refine Qw.al ?_ _ | refine Qw.dr ?_)) q)); obtain ⟨p0, p1, p2, p3, p4, p5⟩ := XY.out.c; replace QQ := Lib.hid (Qw.trans QQ.out (Qw.trans (by repeat (first | exact Qw.refl _ | refine Qw.al ?_ _ | refine Qw.dr ?_)) q)); clear q))
                | (go_at_call 19; ((with_reducible refine (evTwo 5 y x _ _ _ _ _ (KidsB.kept XY.out.ky (by repeat (first | exact Qw.refl _ | refine Qw.al ?_ _ | refine Qw.dr ?_))) (KidsB.kept XY.out.kx (by repeat (first | exact Qw.refl _ | refine Qw.al ?_ _ | refine Qw.dr ?_)))).mono ?_); rintro e w' ⟨tb, rfl, hk, q⟩; have K := Lib.hid hk; clear hk; replace XY := Lib.hid (XY.out.kept (Qw.trans (by repeat (first | exact Qw.refl _ | refine Qw.al ?_ _ | refine Qw.dr ?_)) q)); obtain ⟨p0, p1, p2, p3, p4, p5⟩ := XY.out.c; replace QQ := Lib.hid (Qw.trans QQ.out (Qw.trans (by repeat (first | exact Qw.refl _ | refine Qw.al ?_ _ | refine Qw.dr ?_)) q)); clear q))
                | (go_at_call 19; ((with_reducible refine (evTwo 4 x y _ _ _ _ _ (KidsB.kept XY.out.kx (by repeat (first | exact Qw.refl _ | refine Qw.al ?_ _ | refine Qw.dr ?_))) (KidsB.kept XY.out.ky (by repeat (first | exact Qw.refl _ | refine Qw.al ?_ _ | refine Qw.dr ?_)))).mono ?_); rintro e w' ⟨tb, rfl, hk, q⟩; have K := Lib.hid hk; clear hk; replace XY := Lib.hid (XY.out.kept (Qw.trans (by repeat (first | exact Qw.refl _ | refine Qw.al ?_ _ | refine Qw.dr ?_)) q)); obtain ⟨p0, p1, p2, p3, p4, p5⟩ := XY.out.c; replace QQ := Lib.hid (Qw.trans QQ.out (Qw.trans (by repeat (first | exact Qw.refl _ | refine Qw.al ?_ _ | refine Qw.dr ?_)) q)); clear q))
                | (go_at_call 19; ((with_reducible refine (CTN.out _ _ (KidsB.kept XY.out.kx (by repeat (first | exact Qw.refl _ | refine Qw.al ?_ _ | refine Qw.dr ?_))) (KidsB.one (Bx.new _ _ _) trivial (KidsB.kept XY.out.ky (by repeat (first | exact Qw.refl _ | refine Qw.al ?_ _ | refine Qw.dr ?_))))).mono ?_); rintro e w' ⟨tb, rfl, hk, q⟩; have K := Lib.hid hk; clear hk; replace XY := Lib.hid (XY.out.kept (Qw.trans (by repeat (first | exact Qw.refl _ | refine Qw.al ?_ _ | refine Qw.dr ?_)) q)); obtain ⟨p0, p1, p2, p3, p4, p5⟩ := XY.out.c; replace QQ := Lib.hid (Qw.trans QQ.out (Qw.trans (by repeat (first | exact Qw.refl _ | refine Qw.al ?_ _ | refine Qw.dr ?_)) q)); clear q))
                | (go_at_call 18; ((with_reducible refine (C21.out _ _ (Qw.trans QQ.out (by repeat (first | exact Qw.refl _ | refine Qw.al ?_ _ | refine Qw.dr ?_))) K.out).mono ?_); rintro e w' ⟨rfl, q⟩; clear K; replace XY := Lib.hid (XY.out.kept (Qw.trans (by repeat (first | exact Qw.refl _ | refine Qw.al ?_ _ | refine Qw.dr ?_)) q)); obtain ⟨p0, p1, p2, p3, p4, p5⟩ := XY.out.c; replace QQ := Lib.hid (Qw.trans QQ.out (Qw.trans (by repeat (first | exact Qw.refl _ | refine Qw.al ?_ _ | refine Qw.dr ?_)) q)); clear q))
                | (go_at_call 18; ((with_reducible refine (C19.out _ _ (Qw.trans QQ.out (by repeat (first | exact Qw.refl _ | refine Qw.al ?_ _ | refine Qw.dr ?_))) K.out).mono ?_); rintro e w' ⟨rfl, q⟩; clear K; replace XY := Lib.hid (XY.out.kept (Qw.trans (by repeat (first | exact Qw.refl _ | refine Qw.al ?_ _ | refine Qw.dr ?_)) q)); obtain ⟨p0, p1, p2, p3, p4, p5⟩ := XY.out.c; replace QQ := Lib.hid (Qw.trans QQ.out (Qw.trans (by repeat (first | exact Qw.refl _ | refine Qw.al ?_ _ | refine Qw.dr ?_)) q)); clear q))
                | (go_at_call 18; ((with_reducible refine (C17.out _ _ (Qw.trans QQ.out (by repeat (first | exact Qw.refl _ | refine Qw.al ?_ _ | refine Qw.dr ?_))) K.out).mono ?_); rintro e w' ⟨rfl, q⟩; clear K; replace XY := Lib.hid (XY.out.kept (Qw.trans (by repeat (first | exact Qw.refl _ | refine Qw.al ?_ _ | refine Qw.dr ?_)) q)); obtain ⟨p0, p1, p2, p3, p4, p5⟩ := XY.out.c; replace QQ := Lib.hid (Qw.trans QQ.out (Qw.trans (by repeat (first | exact Qw.refl _ | refine Qw.al ?_ _ | refine Qw.dr ?_)) q)); clear q))
                | (go_at_call 18; ((with_reducible refine (C20.out _ _ (Qw.trans QQ.out (by repeat (first | exact Qw.refl _ | refine Qw.al ?_ _ | refine Qw.dr ?_))) K.out).mono ?_); rintro e w' ⟨rfl, q⟩; clear K; replace XY := Lib.hid (XY.out.kept (Qw.trans (by repeat (first | exact Qw.refl _ | refine Qw.al ?_ _ | refine Qw.dr ?_)) q)); obtain ⟨p0, p1, p2, p3, p4, p5⟩ := XY.out.c; replace QQ := Lib.hid (Qw.trans QQ.out (Qw.trans (by repeat (first | exact Qw.refl _ | refine Qw.al ?_ _ | refine Qw.dr ?_)) q)); clear q))
                | (go_at_call 18; ((with_reducible refine (C22.out _ _ (Qw.trans QQ.out (by repeat (first | exact Qw.refl _ | refine Qw.al ?_ _ | refine Qw.dr ?_))) K.out).mono ?_); rintro e w' ⟨rfl, q⟩; clear K; replace XY := Lib.hid (XY.out.kept (Qw.trans (by repeat (first | exact Qw.refl _ | refine Qw.al ?_ _ | refine Qw.dr ?_)) q)); obtain ⟨p0, p1, p2, p3, p4, p5⟩ := XY.out.c; replace QQ := Lib.hid (Qw.trans QQ.out (Qw.trans (by repeat (first | exact Qw.refl _ | refine Qw.al ?_ _ | refine Qw.dr ?_)) q)); clear q))
                | (go_at_call 18; ((with_reducible refine (C18.out _ _ (Qw.trans QQ.out (by repeat (first | exact Qw.refl _ | refine Qw.al ?_ _ | refine Qw.dr ?_))) K.out).mono ?_); rintro e w' ⟨rfl, q⟩; clear K; replace XY := Lib.hid (XY.out.kept (Qw.trans (by repeat (first | exact Qw.refl _ | refine Qw.al ?_ _ | refine Qw.dr ?_)) q)); obtain ⟨p0, p1, p2, p3, p4, p5⟩ := XY.out.c; replace QQ := Lib.hid (Qw.trans QQ.out (Qw.trans (by repeat (first | exact Qw.refl _ | refine Qw.al ?_ _ | refine Qw.dr ?_)) q)); clear q))
                | (go_at_call 18; ((with_reducible refine (CA.out _ _ (Qw.trans QQ.out (by repeat (first | exact Qw.refl _ | refine Qw.al ?_ _ | refine Qw.dr ?_))) K.out).mono ?_); rintro e w' ⟨rfl, q⟩; clear K; replace XY := Lib.hid (XY.out.kept (Qw.trans (by repeat (first | exact Qw.refl _ | refine Qw.al ?_ _ | refine Qw.dr ?_)) q)); obtain ⟨p0, p1, p2, p3, p4, p5⟩ := XY.out.c; replace QQ := Lib.hid (Qw.trans QQ.out (Qw.trans (by repeat (first | exact Qw.refl _ | refine Qw.al ?_ _ | refine Qw.dr ?_)) q)); clear q))
                | (go_at_call 18; ((with_reducible refine (CB.out _ _ (Qw.trans QQ.out (by repeat (first | exact Qw.refl _ | refine Qw.al ?_ _ | refine Qw.dr ?_))) K.out).mono ?_); rintro e w' ⟨rfl, q⟩; clear K; replace XY := Lib.hid (XY.out.kept (Qw.trans (by repeat (first | exact Qw.refl _ | refine Qw.al ?_ _ | refine Qw.dr ?_)) q)); obtain ⟨p0, p1, p2, p3, p4, p5⟩ := XY.out.c; replace QQ := Lib.hid (Qw.trans QQ.out (Qw.trans (by repeat (first | exact Qw.refl _ | refine Qw.al ?_ _ | refine Qw.dr ?_)) q)); clear q))
                | (go_at_call 18; ((with_reducible refine (CM.out _ _ (Qw.trans QQ.out (by repeat (first | exact Qw.refl _ | refine Qw.al ?_ _ | refine Qw.dr ?_))) K.out).mono ?_); rintro e w' ⟨rfl, q⟩; clear K; replace XY := Lib.hid (XY.out.kept (Qw.trans (by repeat (first | exact Qw.refl _ | refine Qw.al ?_ _ | refine Qw.dr ?_)) q)); obtain ⟨p0, p1, p2, p3, p4, p5⟩ := XY.out.c; replace QQ := Lib.hid (Qw.trans QQ.out (Qw.trans (by repeat (first | exact Qw.refl _ | refine Qw.al ?_ _ | refine Qw.dr ?_)) q)); clear q))
                | (go_at_call 18; ((with_reducible refine (CN.out _ _ (Qw.trans QQ.out (by repeat (first | exact Qw.refl _ | refine Qw.al ?_ _ | refine Qw.dr ?_))) K.out).mono ?_); rintro e w' ⟨rfl, q⟩; clear K; replace XY := Lib.hid (XY.out.kept (Qw.trans (by repeat (first | exact Qw.refl _ | refine Qw.al ?_ _ | refine Qw.dr ?_)) q)); obtain ⟨p0, p1, p2, p3, p4, p5⟩ := XY.out.c; replace QQ := Lib.hid (Qw.trans QQ.out (Qw.trans (by repeat (first | exact Qw.refl _ | refine Qw.al ?_ _ | refine Qw.dr ?_)) q)); clear q))
                | (go_at_call 18; ((with_reducible refine (CS.out _ _ (Qw.trans QQ.out (by repeat (first | exact Qw.refl _ | refine Qw.al ?_ _ | refine Qw.dr ?_))) K.out).mono ?_); rintro e w' ⟨rfl, q⟩; clear K; replace XY := Lib.hid (XY.out.kept (Qw.trans (by repeat (first | exact Qw.refl _ | refine Qw.al ?_ _ | refine Qw.dr ?_)) q)); obtain ⟨p0, p1, p2, p3, p4, p5⟩ := XY.out.c; replace QQ := Lib.hid (Qw.trans QQ.out (Qw.trans (by repeat (first | exact Qw.refl _ | refine Qw.al ?_ _ | refine Qw.dr ?_)) q)); clear q))
                | (go_at_call 18; ((with_reducible refine (CD.out _ _ (Qw.trans QQ.out (by repeat (first | exact Qw.refl _ | refine Qw.al ?_ _ | refine Qw.dr ?_))) K.out).mono ?_); rintro e w' ⟨rfl, q⟩; clear K; replace XY := Lib.hid (XY.out.kept (Qw.trans (by repeat (first | exact Qw.refl _ | refine Qw.al ?_ _ | refine Qw.dr ?_)) q)); obtain ⟨p0, p1, p2, p3, p4, p5⟩ := XY.out.c; replace QQ := Lib.hid (Qw.trans QQ.out (Qw.trans (by repeat (first | exact Qw.refl _ | refine Qw.al ?_ _ | refine Qw.dr ?_)) q)); clear q))
                | (go_at_call 10; ((with_reducible refine (awake8 _ (HT.out.kept (Qw.trans QQ.out (by repeat (first | exact Qw.refl _ | refine Qw.al ?_ _ | refine Qw.dr ?_))))).mono ?_); rintro e w' ⟨rfl, q⟩; replace XY := Lib.hid (XY.out.kept (Qw.trans (by repeat (first | exact Qw.refl _ | refine Qw.al ?_ _ | refine Qw.dr ?_)) q)); obtain ⟨p0, p1, p2, p3, p4, p5⟩ := XY.out.c; replace QQ := Lib.hid (Qw.trans QQ.out (Qw.trans (by repeat (first | exact Qw.refl _ | refine Qw.al ?_ _ | refine Qw.dr ?_)) q)); clear q)))
            go_ret
            exact ⟨rfl, QQ.out⟩
          · skip
            have CTN := Lib.hid (fun (w1 : World) (g : Nat) (h1 : Kd w1 xa xc x.ks) (h2 : Kd w1 (some ⟨g, 0, none⟩) 1 [y]) => show Calls Tryd.prog 19 #[.int .i64 3, .agg #[.int .i64 x.op, .int .i64 x.n, .slice xa x.ks.length xc], .agg #[.int .i64 2, .int .i64 0, .slice (some ⟨g, 0, none⟩) 1 1]] w1 fun e w' => ∃ b, e = .returned (.agg #[.int .i64 3, .int .i64 0, .slice (some ⟨b, 0, none⟩) 2 2]) ∧ Kd w' (some ⟨b, 0, none⟩) 2 [x, Sy.un 2 y] ∧ Qw w1 w' from evTwo 3 x (Sy.un 2 y) _ _ _ _ w1 h1 h2)
            have eC21 : Ev.evl Vs.new (Sy.bin 21 x y) = (0, 0) := by rw [ok2 21 (by decide) rfl, Ev.opk_two]; show Ev.flg _ = _; rw [show decide (a < b) = false by simp; omega]; rfl
            have C21 := Lib.hid (fun (w1 : World) (b : Nat) (q : Qw w w1) (h : Kd w1 (some ⟨b, 0, none⟩) 2 [x, y]) => show Calls Tryd.prog 18 #[.agg #[.int .i64 21, .int .i64 0, .slice (some ⟨b, 0, none⟩) 2 2]] w1 fun e w' => e = .returned (.tuple #[.int .i64 0, .int .i64 0]) ∧ Qw w1 w' by
              have := evNewTwo 21 x y b w1 (HT.out.kept q) h
              rw [eC21] at this
              exact this)
            have eC19 : Ev.evl Vs.new (Sy.bin 19 x y) = (0, 0) := by rw [ok2 19 (by decide) rfl, Ev.opk_two]; show Ev.flg _ = _; rw [show decide (b < a) = false by simp; omega]; rfl
            have C19 := Lib.hid (fun (w1 : World) (b : Nat) (q : Qw w w1) (h : Kd w1 (some ⟨b, 0, none⟩) 2 [x, y]) => show Calls Tryd.prog 18 #[.agg #[.int .i64 19, .int .i64 0, .slice (some ⟨b, 0, none⟩) 2 2]] w1 fun e w' => e = .returned (.tuple #[.int .i64 0, .int .i64 0]) ∧ Qw w1 w' by
              have := evNewTwo 19 x y b w1 (HT.out.kept q) h
              rw [eC19] at this
              exact this)
            have eC17 : Ev.evl Vs.new (Sy.bin 17 x y) = (1000000, 0) := by rw [ok2 17 (by decide) rfl, Ev.opk_two]; show Ev.flg _ = _; rw [show (a == b) = true by simp; omega]; rfl
            have C17 := Lib.hid (fun (w1 : World) (b : Nat) (q : Qw w w1) (h : Kd w1 (some ⟨b, 0, none⟩) 2 [x, y]) => show Calls Tryd.prog 18 #[.agg #[.int .i64 17, .int .i64 0, .slice (some ⟨b, 0, none⟩) 2 2]] w1 fun e w' => e = .returned (.tuple #[.int .i64 1000000, .int .i64 0]) ∧ Qw w1 w' by
              have := evNewTwo 17 x y b w1 (HT.out.kept q) h
              rw [eC17] at this
              exact this)
            have eC20 : Ev.evl Vs.new (Sy.bin 20 x y) = (1000000, 0) := by rw [ok2 20 (by decide) rfl, Ev.opk_two]; show Ev.flg _ = _; rw [show decide (b ≤ a) = true by simp; omega]; rfl
            have C20 := Lib.hid (fun (w1 : World) (b : Nat) (q : Qw w w1) (h : Kd w1 (some ⟨b, 0, none⟩) 2 [x, y]) => show Calls Tryd.prog 18 #[.agg #[.int .i64 20, .int .i64 0, .slice (some ⟨b, 0, none⟩) 2 2]] w1 fun e w' => e = .returned (.tuple #[.int .i64 1000000, .int .i64 0]) ∧ Qw w1 w' by
              have := evNewTwo 20 x y b w1 (HT.out.kept q) h
              rw [eC20] at this
              exact this)
            have eC22 : Ev.evl Vs.new (Sy.bin 22 x y) = (1000000, 0) := by rw [ok2 22 (by decide) rfl, Ev.opk_two]; show Ev.flg _ = _; rw [show decide (a ≤ b) = true by simp; omega]; rfl
            have C22 := Lib.hid (fun (w1 : World) (b : Nat) (q : Qw w w1) (h : Kd w1 (some ⟨b, 0, none⟩) 2 [x, y]) => show Calls Tryd.prog 18 #[.agg #[.int .i64 22, .int .i64 0, .slice (some ⟨b, 0, none⟩) 2 2]] w1 fun e w' => e = .returned (.tuple #[.int .i64 1000000, .int .i64 0]) ∧ Qw w1 w' by
              have := evNewTwo 22 x y b w1 (HT.out.kept q) h
              rw [eC22] at this
              exact this)
            have eC18 : Ev.evl Vs.new (Sy.bin 18 x y) = (0, 0) := by rw [ok2 18 (by decide) rfl, Ev.opk_two]; show Ev.flg _ = _; rw [show (a != b) = false by simp; omega]; rfl
            have C18 := Lib.hid (fun (w1 : World) (b : Nat) (q : Qw w w1) (h : Kd w1 (some ⟨b, 0, none⟩) 2 [x, y]) => show Calls Tryd.prog 18 #[.agg #[.int .i64 18, .int .i64 0, .slice (some ⟨b, 0, none⟩) 2 2]] w1 fun e w' => e = .returned (.tuple #[.int .i64 0, .int .i64 0]) ∧ Qw w1 w' by
              have := evNewTwo 18 x y b w1 (HT.out.kept q) h
              rw [eC18] at this
              exact this)
            have eCA : Ev.evl Vs.new (Sy.bin 3 x y) = (addv a b, adde a b) := by rw [ok2 3 (by decide) rfl, Ev.opk_two]; rfl
            have eCB : Ev.evl Vs.new (Sy.bin 3 y x) = (addv a b, adde a b) := by rw [Ev.evl_bin (by decide) rfl oky okx (by omega) (by omega), hA, hB, Ev.opk_two, ← (Ev.add_comm a b).1, ← (Ev.add_comm a b).2]; rfl
            have eCM : Ev.evl Vs.new (Sy.bin 5 x y) = (mulv a b, mule a b) := by rw [ok2 5 (by decide) rfl, Ev.opk_two]; rfl
            have eCN : Ev.evl Vs.new (Sy.bin 5 y x) = (mulv a b, mule a b) := by rw [Ev.evl_bin (by decide) rfl oky okx (by omega) (by omega), hA, hB, Ev.opk_two, ← (Ev.mul_comm a b).1, ← (Ev.mul_comm a b).2]; rfl
            have eCS : Ev.evl Vs.new (Sy.bin 4 x y) = (subv a b, sube a b) := by rw [ok2 4 (by decide) rfl, Ev.opk_two]; rfl
            have eCD : Ev.evl Vs.new (Sy.bin 3 x (Sy.un 2 y)) = (subv a b, sube a b) := by
              have e2 : Ev.evl Vs.new (Sy.un 2 y) = (-b, 0) := by rw [Ev.evl_un (by decide) rfl oky (by omega), hB]; rfl
              rw [Ev.evl_bin (by decide) rfl okx (Sy.okx_un' (by decide) rfl oky) (by omega) (by rw [Sy.dpt_un]; omega), hA, e2, Ev.opk_two, ← (Ev.sub_add a b).1, ← (Ev.sub_add a b).2]; rfl
            generalize addv a b = av at *
            generalize adde a b = ae at *
            generalize mulv a b = mv at *
            generalize mule a b = me at *
            generalize subv a b = sv at *
            generalize sube a b = se at *
            have CA := Lib.hid (fun (w1 : World) (b : Nat) (q : Qw w w1) (h : Kd w1 (some ⟨b, 0, none⟩) 2 [x, y]) => show Calls Tryd.prog 18 #[.agg #[.int .i64 3, .int .i64 0, .slice (some ⟨b, 0, none⟩) 2 2]] w1 fun e w' => e = .returned (.tuple #[.int .i64 av, .int .i64 ae]) ∧ Qw w1 w' by
              have := evNewTwo 3 x y b w1 (HT.out.kept q) h
              rw [eCA] at this
              exact this)
            have CB := Lib.hid (fun (w1 : World) (b : Nat) (q : Qw w w1) (h : Kd w1 (some ⟨b, 0, none⟩) 2 [y, x]) => show Calls Tryd.prog 18 #[.agg #[.int .i64 3, .int .i64 0, .slice (some ⟨b, 0, none⟩) 2 2]] w1 fun e w' => e = .returned (.tuple #[.int .i64 av, .int .i64 ae]) ∧ Qw w1 w' by
              have := evNewTwo 3 y x b w1 (HT.out.kept q) h
              rw [eCB] at this
              exact this)
            have CM := Lib.hid (fun (w1 : World) (b : Nat) (q : Qw w w1) (h : Kd w1 (some ⟨b, 0, none⟩) 2 [x, y]) => show Calls Tryd.prog 18 #[.agg #[.int .i64 5, .int .i64 0, .slice (some ⟨b, 0, none⟩) 2 2]] w1 fun e w' => e = .returned (.tuple #[.int .i64 mv, .int .i64 me]) ∧ Qw w1 w' by
              have := evNewTwo 5 x y b w1 (HT.out.kept q) h
              rw [eCM] at this
              exact this)
            have CN := Lib.hid (fun (w1 : World) (b : Nat) (q : Qw w w1) (h : Kd w1 (some ⟨b, 0, none⟩) 2 [y, x]) => show Calls Tryd.prog 18 #[.agg #[.int .i64 5, .int .i64 0, .slice (some ⟨b, 0, none⟩) 2 2]] w1 fun e w' => e = .returned (.tuple #[.int .i64 mv, .int .i64 me]) ∧ Qw w1 w' by
              have := evNewTwo 5 y x b w1 (HT.out.kept q) h
              rw [eCN] at this
              exact this)
            have CS := Lib.hid (fun (w1 : World) (b : Nat) (q : Qw w w1) (h : Kd w1 (some ⟨b, 0, none⟩) 2 [x, y]) => show Calls Tryd.prog 18 #[.agg #[.int .i64 4, .int .i64 0, .slice (some ⟨b, 0, none⟩) 2 2]] w1 fun e w' => e = .returned (.tuple #[.int .i64 sv, .int .i64 se]) ∧ Qw w1 w' by
              have := evNewTwo 4 x y b w1 (HT.out.kept q) h
              rw [eCS] at this
              exact this)
            have CD := Lib.hid (fun (w1 : World) (b : Nat) (q : Qw w w1) (h : Kd w1 (some ⟨b, 0, none⟩) 2 [x, (Sy.un 2 y)]) => show Calls Tryd.prog 18 #[.agg #[.int .i64 3, .int .i64 0, .slice (some ⟨b, 0, none⟩) 2 2]] w1 fun e w' => e = .returned (.tuple #[.int .i64 sv, .int .i64 se]) ∧ Qw w1 w' by
              have := evNewTwo 3 x (Sy.un 2 y) b w1 (HT.out.kept q) h
              rw [eCD] at this
              exact this)
            clear eC21 eC19 eC17 eC20 eC22 eC18 eCA eCB eCM eCN eCS eCD ok2 hA hB okx oky dpx dpy ba bb hcmp
            go_wp2_with (first
                | (go_at_call 18; ((with_reducible refine (CX.out _ (Qw.trans QQ.out (by repeat (first | exact Qw.refl _ | refine Qw.al ?_ _ | refine Qw.dr ?_))) (KidsB.kept XY.out.kx (by repeat (first | exact Qw.refl _ | refine Qw.al ?_ _ | refine Qw.dr ?_)))).mono ?_); rintro e w' ⟨rfl, q⟩; replace XY := Lib.hid (XY.out.kept (Qw.trans (by repeat (first | exact Qw.refl _ | refine Qw.al ?_ _ | refine Qw.dr ?_)) q)); obtain ⟨p0, p1, p2, p3, p4, p5⟩ := XY.out.c; replace QQ := Lib.hid (Qw.trans QQ.out (Qw.trans (by repeat (first | exact Qw.refl _ | refine Qw.al ?_ _ | refine Qw.dr ?_)) q)); clear q))
                | (go_at_call 18; ((with_reducible refine (CY.out _ (Qw.trans QQ.out (by repeat (first | exact Qw.refl _ | refine Qw.al ?_ _ | refine Qw.dr ?_))) (KidsB.kept XY.out.ky (by repeat (first | exact Qw.refl _ | refine Qw.al ?_ _ | refine Qw.dr ?_)))).mono ?_); rintro e w' ⟨rfl, q⟩; replace XY := Lib.hid (XY.out.kept (Qw.trans (by repeat (first | exact Qw.refl _ | refine Qw.al ?_ _ | refine Qw.dr ?_)) q)); obtain ⟨p0, p1, p2, p3, p4, p5⟩ := XY.out.c; replace QQ := Lib.hid (Qw.trans QQ.out (Qw.trans (by repeat (first | exact Qw.refl _ | refine Qw.al ?_ _ | refine Qw.dr ?_)) q)); clear q))
                | (go_at_call 19; ((with_reducible refine (evTwo 21 x y _ _ _ _ _ (KidsB.kept XY.out.kx (by repeat (first | exact Qw.refl _ | refine Qw.al ?_ _ | refine Qw.dr ?_))) (KidsB.kept XY.out.ky (by repeat (first | exact Qw.refl _ | refine Qw.al ?_ _ | refine Qw.dr ?_)))).mono ?_); rintro e w' ⟨tb, rfl, hk, q⟩; have K := Lib.hid hk; clear hk; replace XY := Lib.hid (XY.out.kept (Qw.trans (by repeat (first | exact Qw.refl _ | refine Qw.al ?_ _ | refine Qw.dr ?_)) q)); obtain ⟨p0, p1, p2, p3, p4, p5⟩ := XY.out.c; replace QQ := Lib.hid (Qw.trans QQ.out (Qw.trans (by repeat (first | exact Qw.refl _ | refine Qw.al ?_ _ | refine Qw.dr ?_)) q)); clear q))
                | (go_at_call 19; ((with_reducible refine (evTwo 19 x y _ _ _ _ _ (KidsB.kept XY.out.kx (by repeat (first | exact Qw.refl _ | refine Qw.al ?_ _ | refine Qw.dr ?_))) (KidsB.kept XY.out.ky (by repeat (first | exact Qw.refl _ | refine Qw.al ?_ _ | refine Qw.dr ?_)))).mono ?_); rintro e w' ⟨tb, rfl, hk, q⟩; have K := Lib.hid hk; clear hk; replace XY := Lib.hid (XY.out.kept (Qw.trans (by repeat (first | exact Qw.refl _ | refine Qw.al ?_ _ | refine Qw.dr ?_)) q)); obtain ⟨p0, p1, p2, p3, p4, p5⟩ := XY.out.c; replace QQ := Lib.hid (Qw.trans QQ.out (Qw.trans (by repeat (first | exact Qw.refl _ | refine Qw.al ?_ _ | refine Qw.dr ?_)) q)); clear q))
                | (go_at_call 19; ((with_reducible refine (evTwo 17 x y _ _ _ _ _ (KidsB.kept XY.out.kx (by repeat (first | exact Qw.refl _ | refine Qw.al ?_ _ | refine Qw.dr ?_))) (KidsB.kept XY.out.ky (by repeat (first | exact Qw.refl _ | refine Qw.al ?_ _ | refine Qw.dr ?_)))).mono ?_); rintro e w' ⟨tb, rfl, hk, q⟩; have K := Lib.hid hk; clear hk; replace XY := Lib.hid (XY.out.kept (Qw.trans (by repeat (first | exact Qw.refl _ | refine Qw.al ?_ _ | refine Qw.dr ?_)) q)); obtain ⟨p0, p1, p2, p3, p4, p5⟩ := XY.out.c; replace QQ := Lib.hid (Qw.trans QQ.out (Qw.trans (by repeat (first | exact Qw.refl _ | refine Qw.al ?_ _ | refine Qw.dr ?_)) q)); clear q))
                | (go_at_call 19; ((with_reducible refine (evTwo 20 x y _ _ _ _ _ (KidsB.kept XY.out.kx (by repeat (first | exact Qw.refl _ | refine Qw.al ?_ _ | refine Qw.dr ?_))) (KidsB.kept XY.out.ky (by repeat (first | exact Qw.refl _ | refine Qw.al ?_ _ | refine Qw.dr ?_)))).mono ?_); rintro e w' ⟨tb, rfl, hk, q⟩; have K := Lib.hid hk; clear hk; replace XY := Lib.hid (XY.out.kept (Qw.trans (by repeat (first | exact Qw.refl _ | refine Qw.al ?_ _ | refine Qw.dr ?_)) q)); obtain ⟨p0, p1, p2, p3, p4, p5⟩ := XY.out.c; replace QQ := Lib.hid (Qw.trans QQ.out (Qw.trans (by repeat (first | exact Qw.refl _ | refine Qw.al ?_ _ | refine Qw.dr ?_)) q)); clear q))
                | (go_at_call 19; ((with_reducible refine (evTwo 22 x y _ _ _ _ _ (KidsB.kept XY.out.kx (by repeat (first | exact Qw.refl _ | refine Qw.al ?_ _ | refine Qw.dr ?_))) (KidsB.kept XY.out.ky (by repeat (first | exact Qw.refl _ | refine Qw.al ?_ _ | refine Qw.dr ?_)))).mono ?_); rintro e w' ⟨tb, rfl, hk, q⟩; have K := Lib.hid hk; clear hk; replace XY := Lib.hid (XY.out.kept (Qw.trans (by repeat (first | exact Qw.refl _ | refine Qw.al ?_ _ | refine Qw.dr ?_)) q)); obtain ⟨p0, p1, p2, p3, p4, p5⟩ := XY.out.c; replace QQ := Lib.hid (Qw.trans QQ.out (Qw.trans (by repeat (first | exact Qw.refl _ | refine Qw.al ?_ _ | refine Qw.dr ?_)) q)); clear q))
                | (go_at_call 19; ((with_reducible refine (evTwo 18 x y _ _ _ _ _ (KidsB.kept XY.out.kx (by repeat (first | exact Qw.refl _ | refine Qw.al ?_ _ | refine Qw.dr ?_))) (KidsB.kept XY.out.ky (by repeat (first | exact Qw.refl _ | refine Qw.al ?_ _ | refine Qw.dr ?_)))).mono ?_); rintro e w' ⟨tb, rfl, hk, q⟩; have K := Lib.hid hk; clear hk; replace XY := Lib.hid (XY.out.kept (Qw.trans (by repeat (first | exact Qw.refl _ | refine Qw.al ?_ _ | refine Qw.dr ?_)) q)); obtain ⟨p0, p1, p2, p3, p4, p5⟩ := XY.out.c; replace QQ := Lib.hid (Qw.trans QQ.out (Qw.trans (by repeat (first | exact Qw.refl _ | refine Qw.al ?_ _ | refine Qw.dr ?_)) q)); clear q))
                | (go_at_call 19; ((with_reducible refine (evTwo 3 x y _ _ _ _ _ (KidsB.kept XY.out.kx (by repeat (first | exact Qw.refl _ | refine Qw.al ?_ _ | refine Qw.dr ?_))) (KidsB.kept XY.out.ky (by repeat (first | exact Qw.refl _ | refine Qw.al ?_ _ | refine Qw.dr ?_)))).mono ?_); rintro e w' ⟨tb, rfl, hk, q⟩; have K := Lib.hid hk; clear hk; replace XY := Lib.hid (XY.out.kept (Qw.trans (by repeat (first | exact Qw.refl _ | refine Qw.al ?_ _ | refine Qw.dr ?_)) q)); obtain ⟨p0, p1, p2, p3, p4, p5⟩ := XY.out.c; replace QQ := Lib.hid (Qw.trans QQ.out (Qw.trans (by repeat (first | exact Qw.refl _ | refine Qw.al ?_ _ | refine Qw.dr ?_)) q)); clear q))
                | (go_at_call 19; ((with_reducible refine (evTwo 3 y x _ _ _ _ _ (KidsB.kept XY.out.ky (by repeat (first | exact Qw.refl _ | refine Qw.al ?_ _ | refine Qw.dr ?_))) (KidsB.kept XY.out.kx (by repeat (first | exact Qw.refl _ | refine Qw.al ?_ _ | refine Qw.dr ?_)))).mono ?_); rintro e w' ⟨tb, rfl, hk, q⟩; have K := Lib.hid hk; clear hk; replace XY := Lib.hid (XY.out.kept (Qw.trans (by repeat (first | exact Qw.refl _ | refine Qw.al ?_ _ | refine Qw.dr ?_)) q)); obtain ⟨p0, p1, p2, p3, p4, p5⟩ := XY.out.c; replace QQ := Lib.hid (Qw.trans QQ.out (Qw.trans (by repeat (first | exact Qw.refl _ | refine Qw.al ?_ _ | refine Qw.dr ?_)) q)); clear q))
                | (go_at_call 19; ((with_reducible refine (evTwo 5 x y _ _ _ _ _ (KidsB.kept XY.out.kx (by repeat (first | exact Qw.refl _ | refine Qw.al ?_ _ | refine Qw.dr ?_))) (KidsB.kept XY.out.ky (by repeat (first | exact Qw.refl _ | refine Qw.al ?_ _ | refine Qw.dr ?_)))).mono ?_); rintro e w' ⟨tb, rfl, hk, q⟩; have K := Lib.hid hk; clear hk; replace XY := Lib.hid (XY.out.kept (Qw.trans (by repeat (first | exact Qw.refl _ | refine Qw.al ?_ _ | refine Qw.dr ?_)) q)); obtain ⟨p0, p1, p2, p3, p4, p5⟩ := XY.out.c; replace QQ := Lib.hid (Qw.trans QQ.out (Qw.trans (by repeat (first | exact Qw.refl _ | refine Qw.al ?_ _ | refine Qw.dr ?_)) q)); clear q))
                | (go_at_call 19; ((with_reducible refine (evTwo 5 y x _ _ _ _ _ (KidsB.kept XY.out.ky (by repeat (first | exact Qw.refl _ | refine Qw.al ?_ _ | refine Qw.dr ?_))) (KidsB.kept XY.out.kx (by repeat (first | exact Qw.refl _ | refine Qw.al ?_ _ | refine Qw.dr ?_)))).mono ?_); rintro e w' ⟨tb, rfl, hk, q⟩; have K := Lib.hid hk; clear hk; replace XY := Lib.hid (XY.out.kept (Qw.trans (by repeat (first | exact Qw.refl _ | refine Qw.al ?_ _ | refine Qw.dr ?_)) q)); obtain ⟨p0, p1, p2, p3, p4, p5⟩ := XY.out.c; replace QQ := Lib.hid (Qw.trans QQ.out (Qw.trans (by repeat (first | exact Qw.refl _ | refine Qw.al ?_ _ | refine Qw.dr ?_)) q)); clear q))
                | (go_at_call 19; ((with_reducible refine (evTwo 4 x y _ _ _ _ _ (KidsB.kept XY.out.kx (by repeat (first | exact Qw.refl _ | refine Qw.al ?_ _ | refine Qw.dr ?_))) (KidsB.kept XY.out.ky (by repeat (first | exact Qw.refl _ | refine Qw.al ?_ _ | refine Qw.dr ?_)))).mono ?_); rintro e w' ⟨tb, rfl, hk, q⟩; have K := Lib.hid hk; clear hk; replace XY := Lib.hid (XY.out.kept (Qw.trans (by repeat (first | exact Qw.refl _ | refine Qw.al ?_ _ | refine Qw.dr ?_)) q)); obtain ⟨p0, p1, p2, p3, p4, p5⟩ := XY.out.c; replace QQ := Lib.hid (Qw.trans QQ.out (Qw.trans (by repeat (first | exact Qw.refl _ | refine Qw.al ?_ _ | refine Qw.dr ?_)) q)); clear q))
                | (go_at_call 19; ((with_reducible refine (CTN.out _ _ (KidsB.kept XY.out.kx (by repeat (first | exact Qw.refl _ | refine Qw.al ?_ _ | refine Qw.dr ?_))) (KidsB.one (Bx.new _ _ _) trivial (KidsB.kept XY.out.ky (by repeat (first | exact Qw.refl _ | refine Qw.al ?_ _ | refine Qw.dr ?_))))).mono ?_); rintro e w' ⟨tb, rfl, hk, q⟩; have K := Lib.hid hk; clear hk; replace XY := Lib.hid (XY.out.kept (Qw.trans (by repeat (first | exact Qw.refl _ | refine Qw.al ?_ _ | refine Qw.dr ?_)) q)); obtain ⟨p0, p1, p2, p3, p4, p5⟩ := XY.out.c; replace QQ := Lib.hid (Qw.trans QQ.out (Qw.trans (by repeat (first | exact Qw.refl _ | refine Qw.al ?_ _ | refine Qw.dr ?_)) q)); clear q))
                | (go_at_call 18; ((with_reducible refine (C21.out _ _ (Qw.trans QQ.out (by repeat (first | exact Qw.refl _ | refine Qw.al ?_ _ | refine Qw.dr ?_))) K.out).mono ?_); rintro e w' ⟨rfl, q⟩; clear K; replace XY := Lib.hid (XY.out.kept (Qw.trans (by repeat (first | exact Qw.refl _ | refine Qw.al ?_ _ | refine Qw.dr ?_)) q)); obtain ⟨p0, p1, p2, p3, p4, p5⟩ := XY.out.c; replace QQ := Lib.hid (Qw.trans QQ.out (Qw.trans (by repeat (first | exact Qw.refl _ | refine Qw.al ?_ _ | refine Qw.dr ?_)) q)); clear q))
                | (go_at_call 18; ((with_reducible refine (C19.out _ _ (Qw.trans QQ.out (by repeat (first | exact Qw.refl _ | refine Qw.al ?_ _ | refine Qw.dr ?_))) K.out).mono ?_); rintro e w' ⟨rfl, q⟩; clear K; replace XY := Lib.hid (XY.out.kept (Qw.trans (by repeat (first | exact Qw.refl _ | refine Qw.al ?_ _ | refine Qw.dr ?_)) q)); obtain ⟨p0, p1, p2, p3, p4, p5⟩ := XY.out.c; replace QQ := Lib.hid (Qw.trans QQ.out (Qw.trans (by repeat (first | exact Qw.refl _ | refine Qw.al ?_ _ | refine Qw.dr ?_)) q)); clear q))
                | (go_at_call 18; ((with_reducible refine (C17.out _ _ (Qw.trans QQ.out (by repeat (first | exact Qw.refl _ | refine Qw.al ?_ _ | refine Qw.dr ?_))) K.out).mono ?_); rintro e w' ⟨rfl, q⟩; clear K; replace XY := Lib.hid (XY.out.kept (Qw.trans (by repeat (first | exact Qw.refl _ | refine Qw.al ?_ _ | refine Qw.dr ?_)) q)); obtain ⟨p0, p1, p2, p3, p4, p5⟩ := XY.out.c; replace QQ := Lib.hid (Qw.trans QQ.out (Qw.trans (by repeat (first | exact Qw.refl _ | refine Qw.al ?_ _ | refine Qw.dr ?_)) q)); clear q))
                | (go_at_call 18; ((with_reducible refine (C20.out _ _ (Qw.trans QQ.out (by repeat (first | exact Qw.refl _ | refine Qw.al ?_ _ | refine Qw.dr ?_))) K.out).mono ?_); rintro e w' ⟨rfl, q⟩; clear K; replace XY := Lib.hid (XY.out.kept (Qw.trans (by repeat (first | exact Qw.refl _ | refine Qw.al ?_ _ | refine Qw.dr ?_)) q)); obtain ⟨p0, p1, p2, p3, p4, p5⟩ := XY.out.c; replace QQ := Lib.hid (Qw.trans QQ.out (Qw.trans (by repeat (first | exact Qw.refl _ | refine Qw.al ?_ _ | refine Qw.dr ?_)) q)); clear q))
                | (go_at_call 18; ((with_reducible refine (C22.out _ _ (Qw.trans QQ.out (by repeat (first | exact Qw.refl _ | refine Qw.al ?_ _ | refine Qw.dr ?_))) K.out).mono ?_); rintro e w' ⟨rfl, q⟩; clear K; replace XY := Lib.hid (XY.out.kept (Qw.trans (by repeat (first | exact Qw.refl _ | refine Qw.al ?_ _ | refine Qw.dr ?_)) q)); obtain ⟨p0, p1, p2, p3, p4, p5⟩ := XY.out.c; replace QQ := Lib.hid (Qw.trans QQ.out (Qw.trans (by repeat (first | exact Qw.refl _ | refine Qw.al ?_ _ | refine Qw.dr ?_)) q)); clear q))
                | (go_at_call 18; ((with_reducible refine (C18.out _ _ (Qw.trans QQ.out (by repeat (first | exact Qw.refl _ | refine Qw.al ?_ _ | refine Qw.dr ?_))) K.out).mono ?_); rintro e w' ⟨rfl, q⟩; clear K; replace XY := Lib.hid (XY.out.kept (Qw.trans (by repeat (first | exact Qw.refl _ | refine Qw.al ?_ _ | refine Qw.dr ?_)) q)); obtain ⟨p0, p1, p2, p3, p4, p5⟩ := XY.out.c; replace QQ := Lib.hid (Qw.trans QQ.out (Qw.trans (by repeat (first | exact Qw.refl _ | refine Qw.al ?_ _ | refine Qw.dr ?_)) q)); clear q))
                | (go_at_call 18; ((with_reducible refine (CA.out _ _ (Qw.trans QQ.out (by repeat (first | exact Qw.refl _ | refine Qw.al ?_ _ | refine Qw.dr ?_))) K.out).mono ?_); rintro e w' ⟨rfl, q⟩; clear K; replace XY := Lib.hid (XY.out.kept (Qw.trans (by repeat (first | exact Qw.refl _ | refine Qw.al ?_ _ | refine Qw.dr ?_)) q)); obtain ⟨p0, p1, p2, p3, p4, p5⟩ := XY.out.c; replace QQ := Lib.hid (Qw.trans QQ.out (Qw.trans (by repeat (first | exact Qw.refl _ | refine Qw.al ?_ _ | refine Qw.dr ?_)) q)); clear q))
                | (go_at_call 18; ((with_reducible refine (CB.out _ _ (Qw.trans QQ.out (by repeat (first | exact Qw.refl _ | refine Qw.al ?_ _ | refine Qw.dr ?_))) K.out).mono ?_); rintro e w' ⟨rfl, q⟩; clear K; replace XY := Lib.hid (XY.out.kept (Qw.trans (by repeat (first | exact Qw.refl _ | refine Qw.al ?_ _ | refine Qw.dr ?_)) q)); obtain ⟨p0, p1, p2, p3, p4, p5⟩ := XY.out.c; replace QQ := Lib.hid (Qw.trans QQ.out (Qw.trans (by repeat (first | exact Qw.refl _ | refine Qw.al ?_ _ | refine Qw.dr ?_)) q)); clear q))
                | (go_at_call 18; ((with_reducible refine (CM.out _ _ (Qw.trans QQ.out (by repeat (first | exact Qw.refl _ | refine Qw.al ?_ _ | refine Qw.dr ?_))) K.out).mono ?_); rintro e w' ⟨rfl, q⟩; clear K; replace XY := Lib.hid (XY.out.kept (Qw.trans (by repeat (first | exact Qw.refl _ | refine Qw.al ?_ _ | refine Qw.dr ?_)) q)); obtain ⟨p0, p1, p2, p3, p4, p5⟩ := XY.out.c; replace QQ := Lib.hid (Qw.trans QQ.out (Qw.trans (by repeat (first | exact Qw.refl _ | refine Qw.al ?_ _ | refine Qw.dr ?_)) q)); clear q))
                | (go_at_call 18; ((with_reducible refine (CN.out _ _ (Qw.trans QQ.out (by repeat (first | exact Qw.refl _ | refine Qw.al ?_ _ | refine Qw.dr ?_))) K.out).mono ?_); rintro e w' ⟨rfl, q⟩; clear K; replace XY := Lib.hid (XY.out.kept (Qw.trans (by repeat (first | exact Qw.refl _ | refine Qw.al ?_ _ | refine Qw.dr ?_)) q)); obtain ⟨p0, p1, p2, p3, p4, p5⟩ := XY.out.c; replace QQ := Lib.hid (Qw.trans QQ.out (Qw.trans (by repeat (first | exact Qw.refl _ | refine Qw.al ?_ _ | refine Qw.dr ?_)) q)); clear q))
                | (go_at_call 18; ((with_reducible refine (CS.out _ _ (Qw.trans QQ.out (by repeat (first | exact Qw.refl _ | refine Qw.al ?_ _ | refine Qw.dr ?_))) K.out).mono ?_); rintro e w' ⟨rfl, q⟩; clear K; replace XY := Lib.hid (XY.out.kept (Qw.trans (by repeat (first | exact Qw.refl _ | refine Qw.al ?_ _ | refine Qw.dr ?_)) q)); obtain ⟨p0, p1, p2, p3, p4, p5⟩ := XY.out.c; replace QQ := Lib.hid (Qw.trans QQ.out (Qw.trans (by repeat (first | exact Qw.refl _ | refine Qw.al ?_ _ | refine Qw.dr ?_)) q)); clear q))
                | (go_at_call 18; ((with_reducible refine (CD.out _ _ (Qw.trans QQ.out (by repeat (first | exact Qw.refl _ | refine Qw.al ?_ _ | refine Qw.dr ?_))) K.out).mono ?_); rintro e w' ⟨rfl, q⟩; clear K; replace XY := Lib.hid (XY.out.kept (Qw.trans (by repeat (first | exact Qw.refl _ | refine Qw.al ?_ _ | refine Qw.dr ?_)) q)); obtain ⟨p0, p1, p2, p3, p4, p5⟩ := XY.out.c; replace QQ := Lib.hid (Qw.trans QQ.out (Qw.trans (by repeat (first | exact Qw.refl _ | refine Qw.al ?_ _ | refine Qw.dr ?_)) q)); clear q))
                | (go_at_call 10; ((with_reducible refine (awake8 _ (HT.out.kept (Qw.trans QQ.out (by repeat (first | exact Qw.refl _ | refine Qw.al ?_ _ | refine Qw.dr ?_))))).mono ?_); rintro e w' ⟨rfl, q⟩; replace XY := Lib.hid (XY.out.kept (Qw.trans (by repeat (first | exact Qw.refl _ | refine Qw.al ?_ _ | refine Qw.dr ?_)) q)); obtain ⟨p0, p1, p2, p3, p4, p5⟩ := XY.out.c; replace QQ := Lib.hid (Qw.trans QQ.out (Qw.trans (by repeat (first | exact Qw.refl _ | refine Qw.al ?_ _ | refine Qw.dr ?_)) q)); clear q)))
            go_ret
            exact ⟨rfl, QQ.out⟩
        · have nb : (eb != 0) = true := by simpa using heb
          clear heb ok2 hA hB
          go_wp2_with (first
              | (go_at_call 18; ((with_reducible refine (CX.out _ (Qw.trans QQ.out (by repeat (first | exact Qw.refl _ | refine Qw.al ?_ _ | refine Qw.dr ?_))) (KidsB.kept XY.out.kx (by repeat (first | exact Qw.refl _ | refine Qw.al ?_ _ | refine Qw.dr ?_)))).mono ?_); rintro e w' ⟨rfl, q⟩; replace XY := Lib.hid (XY.out.kept (Qw.trans (by repeat (first | exact Qw.refl _ | refine Qw.al ?_ _ | refine Qw.dr ?_)) q)); obtain ⟨p0, p1, p2, p3, p4, p5⟩ := XY.out.c; replace QQ := Lib.hid (Qw.trans QQ.out (Qw.trans (by repeat (first | exact Qw.refl _ | refine Qw.al ?_ _ | refine Qw.dr ?_)) q)); clear q))
              | (go_at_call 18; ((with_reducible refine (CY.out _ (Qw.trans QQ.out (by repeat (first | exact Qw.refl _ | refine Qw.al ?_ _ | refine Qw.dr ?_))) (KidsB.kept XY.out.ky (by repeat (first | exact Qw.refl _ | refine Qw.al ?_ _ | refine Qw.dr ?_)))).mono ?_); rintro e w' ⟨rfl, q⟩; replace XY := Lib.hid (XY.out.kept (Qw.trans (by repeat (first | exact Qw.refl _ | refine Qw.al ?_ _ | refine Qw.dr ?_)) q)); obtain ⟨p0, p1, p2, p3, p4, p5⟩ := XY.out.c; replace QQ := Lib.hid (Qw.trans QQ.out (Qw.trans (by repeat (first | exact Qw.refl _ | refine Qw.al ?_ _ | refine Qw.dr ?_)) q)); clear q))
              | (go_at_call 10; ((with_reducible refine (awake8 _ (HT.out.kept (Qw.trans QQ.out (by repeat (first | exact Qw.refl _ | refine Qw.al ?_ _ | refine Qw.dr ?_))))).mono ?_); rintro e w' ⟨rfl, q⟩; replace XY := Lib.hid (XY.out.kept (Qw.trans (by repeat (first | exact Qw.refl _ | refine Qw.al ?_ _ | refine Qw.dr ?_)) q)); obtain ⟨p0, p1, p2, p3, p4, p5⟩ := XY.out.c; replace QQ := Lib.hid (Qw.trans QQ.out (Qw.trans (by repeat (first | exact Qw.refl _ | refine Qw.al ?_ _ | refine Qw.dr ?_)) q)); clear q)))
          go_ret
          exact ⟨rfl, QQ.out⟩
      · have na : (ea != 0) = true := by simpa using hea
        clear hea ok2 hA hB
        go_wp2_with (first
            | (go_at_call 18; ((with_reducible refine (CX.out _ (Qw.trans QQ.out (by repeat (first | exact Qw.refl _ | refine Qw.al ?_ _ | refine Qw.dr ?_))) (KidsB.kept XY.out.kx (by repeat (first | exact Qw.refl _ | refine Qw.al ?_ _ | refine Qw.dr ?_)))).mono ?_); rintro e w' ⟨rfl, q⟩; replace XY := Lib.hid (XY.out.kept (Qw.trans (by repeat (first | exact Qw.refl _ | refine Qw.al ?_ _ | refine Qw.dr ?_)) q)); obtain ⟨p0, p1, p2, p3, p4, p5⟩ := XY.out.c; replace QQ := Lib.hid (Qw.trans QQ.out (Qw.trans (by repeat (first | exact Qw.refl _ | refine Qw.al ?_ _ | refine Qw.dr ?_)) q)); clear q))
            | (go_at_call 18; ((with_reducible refine (CY.out _ (Qw.trans QQ.out (by repeat (first | exact Qw.refl _ | refine Qw.al ?_ _ | refine Qw.dr ?_))) (KidsB.kept XY.out.ky (by repeat (first | exact Qw.refl _ | refine Qw.al ?_ _ | refine Qw.dr ?_)))).mono ?_); rintro e w' ⟨rfl, q⟩; replace XY := Lib.hid (XY.out.kept (Qw.trans (by repeat (first | exact Qw.refl _ | refine Qw.al ?_ _ | refine Qw.dr ?_)) q)); obtain ⟨p0, p1, p2, p3, p4, p5⟩ := XY.out.c; replace QQ := Lib.hid (Qw.trans QQ.out (Qw.trans (by repeat (first | exact Qw.refl _ | refine Qw.al ?_ _ | refine Qw.dr ?_)) q)); clear q))
            | (go_at_call 10; ((with_reducible refine (awake8 _ (HT.out.kept (Qw.trans QQ.out (by repeat (first | exact Qw.refl _ | refine Qw.al ?_ _ | refine Qw.dr ?_))))).mono ?_); rintro e w' ⟨rfl, q⟩; replace XY := Lib.hid (XY.out.kept (Qw.trans (by repeat (first | exact Qw.refl _ | refine Qw.al ?_ _ | refine Qw.dr ?_)) q)); obtain ⟨p0, p1, p2, p3, p4, p5⟩ := XY.out.c; replace QQ := Lib.hid (Qw.trans QQ.out (Qw.trans (by repeat (first | exact Qw.refl _ | refine Qw.al ?_ _ | refine Qw.dr ?_)) q)); clear q)))
        go_ret
        exact ⟨rfl, QQ.out⟩
    · have d1 : decide (z1.length ≤ 120) = false := decide_eq_false l1
      go_enter Tryd.func4, Tryd.ntmps4
      go_wp2_with (first
      | (go_at_call 9; ((with_reducible refine (lightF _ _ _ _ HV0.out).mono ?_); rintro e w' ⟨rfl, rfl⟩; skip))
      | (go_at_call 9; ((with_reducible refine (lightF _ _ _ _ HV1.out).mono ?_); rintro e w' ⟨rfl, rfl⟩; skip))
      | (go_at_call 10; ((with_reducible refine (awake8 _ (HT.out.kept QQ.out)).mono ?_); rintro e w' ⟨rfl, q⟩; replace QQ := Lib.hid (Qw.trans QQ.out q); clear q)))
      go_ret
      exact ⟨rfl, QQ.out⟩
  · have d0 : decide (z0.length ≤ 120) = false := decide_eq_false l0
    go_enter Tryd.func4, Tryd.ntmps4
    go_wp2_with (first
      | (go_at_call 9; ((with_reducible refine (lightF _ _ _ _ HV0.out).mono ?_); rintro e w' ⟨rfl, rfl⟩; skip))
      | (go_at_call 10; ((with_reducible refine (awake8 _ (HT.out.kept QQ.out)).mono ?_); rintro e w' ⟨rfl, q⟩; replace QQ := Lib.hid (Qw.trans QQ.out q); clear q)))
    go_ret
    exact ⟨rfl, QQ.out⟩

/-! ### the row and the card -/
theorem reads_evalAlgebra (os : Os) {H : Type} (enc : TypeId × Value → H) : ∃ places, DataW.whole enc Tryd.prog ((laidWorldE os).forCall (fun _ _ => 0) ⟨#[], #[.slice none 0 0, .slice none 0 0], []⟩).memory Tryd.f4.params.toList Rows.evalAlgebraSpec.vars false #[(.slice none 0 0 : Value), .slice none 0 0].toList 8 = some ([.nil, .nil], [], places) :=
  ⟨[], by kernel_rfl⟩
set_option maxRecDepth 100000 in
theorem lifted_evalAlgebra (os : Os) (started : os.Started) (H : Type) (enc : TypeId × Value → H) (F : Stop.Interp) :
    ReturnsInHanded {} Tryd.checked os 4 .any ((OpenSpec.ofChange Rows.evalAlgebraSpec).preRow enc Tryd.prog Tryd.f4 Rows.evalAlgebraRow.domain false Rows.evalAlgebraRow.laid) (((OpenSpec.ofChange Rows.evalAlgebraSpec).at F).post enc Tryd.prog Tryd.f4 false true false false) := by
  obtain ⟨places, hx⟩ := reads_evalAlgebra os enc
  refine returnsInHanded_of_row (C := Tryd.checked) (s := OpenSpec.ofChange Rows.evalAlgebraSpec) ownE started (by kernel_rfl) Tryd.func4
    (witness_row_at (enc := enc) (C := Tryd.checked) false (laidWorldE os) #[.slice none 0 0, .slice none 0 0] rfl (by kernel_rfl) (by kernel_rfl) (by kernel_rfl)
      (OpenSpec.preRow_of_cond 8 hx (by kernel_rfl) (fun k hk => by cases hk) (by kernel_rfl) (laid_metE os _))) ?_
  intro W base args ds gs before hval0 hW _ _ _ hL _ _
  have ht : Tw W := tableE hL
  have hval : ∀ (j : Nat) t v, Tryd.f4.params[j]? = some t → args[j]? = some v → Value.okWide Tryd.prog W .any base t v := hval0
  have hW' := hW
  obtain ⟨p, q, hA0, hV, rfl, hfz, hnd⟩ := hW
  have hA : DataW.TrodAll enc Tryd.prog W 0 (fun _ => true) true Tryd.f4.params.toList args.toList ds p := hA0
  rw [Tryd.params4] at hA hval
  obtain ⟨v0, vs0, d0, ds0, p0, q0, hargs, rfl, rfl, h0, r0⟩ := trodAll_cons hA
  obtain ⟨v1, vs1, d1, ds1, p1, q1, rfl, rfl, rfl, h1, r1⟩ := trodAll_cons r0
  obtain ⟨rfl, rfl, rfl⟩ := trodAll_nil r1
  obtain rfl : args = #[v0, v1] := by cases args; simp_all
  obtain ⟨rfl, rfl⟩ := trodVars_none hV
  obtain ⟨u0, hu0⟩ := in_ints (hval 0 22 v0 rfl rfl) h0
  obtain ⟨u1, hu1⟩ := in_ints (hval 1 22 v1 rfl rfl) h1
  clear hA0 hval0 hL
  simp only [List.append_nil] at hW'
  refine (walk_evalAlgebra v0 u0 v1 u1 W hu0 hu1 ht).mono fun e W' ⟨he, bel⟩ => ?_
  subst he
  exact ⟨_, rfl, _, _, _, [], _, [], hW', trodAll_mk1 (shut_bool Tryd.underlying4 _), (trodAll_cons_mk (out_ints h0 bel (fun x hx => hW'.lt x (by first | exact hx | simp [hx]))) (trodAll_cons_mk (out_ints h1 bel (fun x hx => hW'.lt x (by first | exact hx | simp [hx]))) trodAll_mk0)), rfl, Below.frame bel _, fun h => by cases h⟩

theorem evalAlgebra_said : Rows.EvalAlgebraSaid :=
  OpenClaim.holds_of_cond 4 Tryd.f4 rfl rfl rfl rfl rfl rfl rfl ⟨rfl, rfl, rfl, rfl, rfl⟩ rfl rfl rfl rfl rfl (by kernel_rfl) Tryd.func4 (by kernel_rfl)
    (of_decide_eq_true (by kernel_rfl)) (by unfold Func.isWrapper; first | (rw [if_pos (by decide +kernel)]; kernel_rfl) | (rw [if_neg (by decide +kernel)]; exact ⟨rfl, rfl⟩))
    (fun os started H enc _ F => by rw [OpenClaim.pre_eq_preRow]; exact lifted_evalAlgebra os started H enc F)

theorem plain_evalAlgebra (f : FuncId) (fn : Func) (hf : Tryd.pinned.checked.prog.funcNamed "cnc/cnclaw08.EvalAlgebra" = some f) (hfn : Tryd.pinned.checked.prog.funcs[f]? = some fn) :
    false = Tryd.pinned.checked.prog.looks [] ∧ ∀ (j : Nat) t, fn.params[j]? = some t → Tryd.pinned.checked.prog.wantsStandIn t = false := by
  obtain rfl : f = 4 := Option.some.inj ((show Tryd.prog.funcNamed "cnc/cnclaw08.EvalAlgebra" = some 4 by kernel_rfl).symm.trans hf) |>.symm
  obtain rfl : fn = Tryd.f4 := (Option.some.inj (Tryd.func4.symm.trans hfn)).symm
  refine ⟨by kernel_rfl, fun j t ht => ?_⟩
  rw [Tryd.params4] at ht
  obtain rfl : t = 22 := by simpa using Array.mem_of_getElem? ht
  exact (show Tryd.prog.wantsStandIn 22 = false by kernel_rfl)

/-- The statement. -/
theorem evalAlgebra_card : Rows.EvalAlgebraCardSaid :=
  Claim7.holds_tied_plain_at .later [] _ _ _ _ evalAlgebra_said (fun _ h => by cases h) (by kernel_rfl) (fun _ h => by cases h) evalAlgebra_row_tie rfl ⟨rfl, rfl⟩ (by kernel_rfl) rfl plain_evalAlgebra (by kernel_rfl)

end Go.Proofs.YtkfipjlknfinpaaDoor
