
/- EvalOperators of layer 8: what each operator makes of any two numbers.
   Conditions: the listed tables lie as the program's own text lays them (the card ties them); every input. -/
import Derived.Test.YtkfipjlknfinpaaGreatDoorFrameE
import Derived.Test.YtkfipjlknfinpaaGreatDoorErV
import Derived.Test.YtkfipjlknfinpaaGreatDoorEvL
import Derived.Deep.Cut
set_option linter.unusedVariables false
set_option linter.unusedSimpArgs false
namespace Go.Proofs.YtkfipjlknfinpaaGreatDoor
open Go.ChangeShapes Go.WideShapes Go.ChangeAt Go.RowKit

theorem kd_lt {w : World} {a : Option Addr} {c : Nat} {ks : List Sy.Ex} (h : Kd w a c ks) : KidsB w (fun b => b < w.heap.size + 1) a c ks := h.go fun b _ hb => ⟨rfl, Nat.lt_succ_of_lt hb⟩
theorem kd_first {w : World} {S : Nat → Prop} {E : Nat} {x y : Sy.Ex} (h : KidsB w S (some ⟨E, 0, none⟩) 2 [x, y]) : KidsB w S (some ⟨E, 0, none⟩) 2 [x] := by
  cases h with
  | mk b off cap ks ad cc hS h1 h2 hc hk =>
    refine .mk E 0 2 [x] ad cc hS (by simp) (by decide) (fun i hi => ?_) (fun i hi => ?_)
    · obtain rfl : i = 0 := by simpa using hi
      exact hc 0 (by simp)
    · obtain rfl : i = 0 := by simpa using hi
      exact hk 0 (by simp)
set_option maxRecDepth 100000 in
set_option maxHeartbeats 4000000 in
theorem walk_evalOperators (a0 : Int) (x0 : -9223372036854775808 ≤ a0) (y0 : a0 ≤ 9223372036854775807) (a1 : Int) (x1 : -9223372036854775808 ≤ a1) (y1 : a1 ≤ 9223372036854775807) (a2 : Int) (x2 : -9223372036854775808 ≤ a2) (y2 : a2 ≤ 9223372036854775807) (near : Bool) (w : World) (ht : Tw w) :
    Calls Tryz.prog 4 #[.int .i64 a0, .int .i64 a1, .int .i64 a2, .bool near] w fun e w' => e = .returned (.bool true) ∧ Qw w w' := by
  have HT := Lib.hid ht
  have QQ := Lib.hid (Qw.refl w)
  have c1 := fun w => betweenW a1 (-999999999999999) 999999999999999 x1 y1 (by decide) (by decide) (by decide) (by decide) w
  have c2 := fun w => betweenW a2 (-999999999999999) 999999999999999 x2 y2 (by decide) (by decide) (by decide) (by decide) w
  have c3 := fun w => betweenW a0 2 25 x0 y0 (by decide) (by decide) (by decide) (by decide) w
  have b1 := btw8 a1 (-999999999999999) 999999999999999 (by decide)
  have b2 := btw8 a2 (-999999999999999) 999999999999999 (by decide)
  generalize (-999999999999999 : Int) + a1 % (999999999999999 - -999999999999999 + 1) = a at *
  generalize (-999999999999999 : Int) + a2 % (999999999999999 - -999999999999999 + 1) = b at *
  generalize (2 : Int) + a0 % (25 - 2 + 1) = o at *
  have BA := Lib.hid c1
  have BB := Lib.hid c2
  have BO := Lib.hid c3
  clear c1 c2 c3 ht x0 y0 x1 y1 x2 y2
  cases near with
  | false =>
    go_enter Tryz.func4, Tryz.ntmps4
    go_upto_region 5 with (first
        | (go_at_call 13; ((with_reducible refine (BA.out _).mono ?_); rintro e w' ⟨rfl, rfl⟩; skip))
        | (go_at_call 13; ((with_reducible refine (BB.out _).mono ?_); rintro e w' ⟨rfl, rfl⟩; skip))
        | (go_at_call 13; ((with_reducible refine (BO.out _).mono ?_); rintro e w' ⟨rfl, rfl⟩; skip)))
    have CA := Lib.hid (fun w1 => evSigned a (by omega) (by omega) w1)
    have CB := Lib.hid (fun w1 => evSigned b (by omega) (by omega) w1)
    go_upto_region 6 with (first
        | (go_at_call 14; ((with_reducible refine (CA.out _).mono ?_); rintro e w' ⟨xa, xc, rfl, kx, q⟩; have KX := Lib.hid kx; replace QQ := Lib.hid (Qw.trans QQ.out q); clear kx q))
        | (go_at_call 14; ((with_reducible refine (CB.out _).mono ?_); rintro e w' ⟨ya, yc, rfl, ky, q⟩; have KY := Lib.hid ky; replace KX := Lib.hid (KidsB.kept KX.out q); replace QQ := Lib.hid (Qw.trans QQ.out q); clear ky q)))
    refine code_of (fun w2 => Hid (Bx w2 (w'.heap.size + 1) #[.int .i64 o, .int .i64 0, .slice (some ⟨w'.heap.size, 0, none⟩) 2 2] 24) ∧ Hid (KidsB w2 (fun b => b < w'.heap.size + 1) (some ⟨w'.heap.size, 0, none⟩) 2 [sgx a, sgx b]) ∧ Hid (Qw w w2)) ⟨Lib.hid (bx_at8 _ _ _ _ (by simp)), Lib.hid (KidsB.two (Bx.alloc (Bx.new w' _ _) _) (Nat.lt_succ_self _) (KidsB.kept (kd_lt KX.out) (Qw.al (Qw.al (Qw.refl _) _) _)) (KidsB.kept (kd_lt KY.out) (Qw.al (Qw.al (Qw.refl _) _) _))), Lib.hid (Qw.al (Qw.al QQ.out _) _)⟩ ?_
    have HD : Hid (w.heap.size ≤ w'.heap.size + 1) := Lib.hid (by have := QQ.out.size; omega)
    clear KX KY QQ CA CB
    generalize w'.heap.size + 1 = D at *
    generalize w'.heap.size = E
    generalize sgx a = x
    generalize sgx b = y
    rintro w2 ⟨X, K, QQ⟩
    have c0 := X.out.cell' 0 _ rfl
    have c1 := X.out.cell' 1 _ rfl
    have c2 := X.out.cell' 2 _ rfl
    have cr := fun w1 (h : KidsB w1 (fun b => b < D) (some ⟨E, 0, none⟩) 2 [x, y]) => show Calls Tryz.prog 15 #[.agg #[.int .i64 o, .int .i64 0, .slice (some ⟨E, 0, none⟩) 2 2]] w1 fun e w' => e = .returned (.bool (Sy.rgt (.mk o 0 [x, y]))) ∧ Qw w1 w' from rw_right o 0 [x, y] (some ⟨E, 0, none⟩) 2 (fun b => b < D) w1 h
    cases hr : Sy.rgt (.mk o 0 [x, y]) with
    | true =>
      rw [hr] at cr
      have CR := Lib.hid cr
      clear cr hr
      have CV := Lib.hid (fun (w1 : World) (h2 : Tw w1) (h3 : KidsB w1 (fun b => b < D) (some ⟨E, 0, none⟩) 2 [x, y]) => show Calls Tryz.prog 17 #[.agg #[.int .i64 o, .int .i64 0, .slice (some ⟨E, 0, none⟩) 2 2]] w1 fun e w' => e = .returned (.tuple #[.int .i64 (Ev.evl Vs.new (.mk o 0 [x, y])).1, .int .i64 (Ev.evl Vs.new (.mk o 0 [x, y])).2]) ∧ Qw w1 w' from evNew (.mk o 0 [x, y]) (some ⟨E, 0, none⟩) 2 w1 h2 (h3.mono (fun _ _ => trivial)))
      have CE := Lib.hid (fun (w1 : World) (B L2 cap : Nat) (h1 : Rst w1 B L2 cap Vs.new) (h3 : KidsB w1 (fun b => b < D) (some ⟨E, 0, none⟩) 2 [x, y]) => show Calls Tryz.prog 12 #[.agg #[.int .i64 o, .int .i64 0, .slice (some ⟨E, 0, none⟩) 2 2], .pointer (some ⟨B, 0, none⟩)] w1 fun e w' => e = .returned (.tuple #[.int .i64 (Ev.evl Vs.new (.mk o 0 [x, y])).1, .int .i64 (Ev.evl Vs.new (.mk o 0 [x, y])).2]) ∧ Qw w1 w' from erEval Ev.good_new (.mk o 0 [x, y]) (some ⟨E, 0, none⟩) 2 w1 h1 (h3.mono (fun _ _ => trivial)))
      generalize (Ev.evl Vs.new (.mk o 0 [x, y])).1 = u at *
      generalize (Ev.evl Vs.new (.mk o 0 [x, y])).2 = eu at *
      go_wp2_with (first
        | (go_at_call 15; ((with_reducible refine (CR.out _ K.out).mono ?_); rintro e w' ⟨rfl, q⟩; replace X := Lib.hid (X.out.kept q); replace K := Lib.hid (KidsB.kept K.out q); have c0 := X.out.cell' 0 _ rfl; have c1 := X.out.cell' 1 _ rfl; have c2 := X.out.cell' 2 _ rfl; replace QQ := Lib.hid (Qw.trans QQ.out q); have f2 := X.out.free 2; clear q))
        | (go_at_call 16; ((with_reducible refine (vrNew _).mono ?_); rintro e w' ⟨B, L2, cap, rfl, hR, hB, hL, q⟩; have R := Lib.hid hR; clear hR hB hL; replace X := Lib.hid (X.out.kept q); replace K := Lib.hid (KidsB.kept K.out q); have c0 := X.out.cell' 0 _ rfl; have c1 := X.out.cell' 1 _ rfl; have c2 := X.out.cell' 2 _ rfl; replace QQ := Lib.hid (Qw.trans QQ.out q); clear q))
        | (go_at_call 17; ((with_reducible refine (CV.out _ (HT.out.kept QQ.out) K.out).mono ?_); rintro e w' ⟨rfl, q⟩; replace R := Lib.hid (R.out.kept q); replace X := Lib.hid (X.out.kept q); replace K := Lib.hid (KidsB.kept K.out q); have c0 := X.out.cell' 0 _ rfl; have c1 := X.out.cell' 1 _ rfl; have c2 := X.out.cell' 2 _ rfl; replace QQ := Lib.hid (Qw.trans QQ.out q); clear q))
        | (go_at_call 12; ((with_reducible refine (CE.out _ _ _ _ R.out K.out).mono ?_); rintro e w' ⟨rfl, q⟩; replace X := Lib.hid (X.out.kept q); replace K := Lib.hid (KidsB.kept K.out q); have c0 := X.out.cell' 0 _ rfl; have c1 := X.out.cell' 1 _ rfl; have c2 := X.out.cell' 2 _ rfl; replace QQ := Lib.hid (Qw.trans QQ.out q); clear q))
        | (go_at_call 7; ((with_reducible refine (awake8 _ (HT.out.kept QQ.out)).mono ?_); rintro e w' ⟨rfl, q⟩; replace X := Lib.hid (X.out.kept q); replace K := Lib.hid (KidsB.kept K.out q); have c0 := X.out.cell' 0 _ rfl; have c1 := X.out.cell' 1 _ rfl; have c2 := X.out.cell' 2 _ rfl; replace QQ := Lib.hid (Qw.trans QQ.out q); clear q)))
      go_ret
      exact ⟨rfl, QQ.out⟩
    | false =>
      rw [hr] at cr
      have CR := Lib.hid cr
      clear cr hr
      go_upto_region 8 with ((go_at_call 15; ((with_reducible refine (CR.out _ K.out).mono ?_); rintro e w' ⟨rfl, q⟩; replace X := Lib.hid (X.out.kept q); replace K := Lib.hid (KidsB.kept K.out q); have c0 := X.out.cell' 0 _ rfl; have c1 := X.out.cell' 1 _ rfl; have c2 := X.out.cell' 2 _ rfl; replace QQ := Lib.hid (Qw.trans QQ.out q); have f2 := X.out.free 2; clear q)))
      refine code_of (fun w3 => Hid (Bx w3 D #[.int .i64 o, .int .i64 0, .slice (some ⟨E, 0, none⟩) 1 2] 24) ∧ Hid (KidsB w3 (fun b => b < D) (some ⟨E, 0, none⟩) 2 [x]) ∧ Hid (Qw w w3)) ⟨Lib.hid (X.out.set 2 _), Lib.hid (kd_first (KidsB.set K.out (Nat.lt_irrefl D) _)), Lib.hid (Qw.sc QQ.out HD.out _)⟩ ?_
      clear X K QQ c0 c1 c2 f2 CR
      rintro w3 ⟨X, K, QQ⟩
      have c0 := X.out.cell' 0 _ rfl
      have c1 := X.out.cell' 1 _ rfl
      have c2 := X.out.cell' 2 _ rfl
      have CV := Lib.hid (fun (w1 : World) (h2 : Tw w1) (h3 : KidsB w1 (fun b => b < D) (some ⟨E, 0, none⟩) 2 [x]) => show Calls Tryz.prog 17 #[.agg #[.int .i64 o, .int .i64 0, .slice (some ⟨E, 0, none⟩) 1 2]] w1 fun e w' => e = .returned (.tuple #[.int .i64 (Ev.evl Vs.new (.mk o 0 [x])).1, .int .i64 (Ev.evl Vs.new (.mk o 0 [x])).2]) ∧ Qw w1 w' from evNew (.mk o 0 [x]) (some ⟨E, 0, none⟩) 2 w1 h2 (h3.mono (fun _ _ => trivial)))
      have CE := Lib.hid (fun (w1 : World) (B L2 cap : Nat) (h1 : Rst w1 B L2 cap Vs.new) (h3 : KidsB w1 (fun b => b < D) (some ⟨E, 0, none⟩) 2 [x]) => show Calls Tryz.prog 12 #[.agg #[.int .i64 o, .int .i64 0, .slice (some ⟨E, 0, none⟩) 1 2], .pointer (some ⟨B, 0, none⟩)] w1 fun e w' => e = .returned (.tuple #[.int .i64 (Ev.evl Vs.new (.mk o 0 [x])).1, .int .i64 (Ev.evl Vs.new (.mk o 0 [x])).2]) ∧ Qw w1 w' from erEval Ev.good_new (.mk o 0 [x]) (some ⟨E, 0, none⟩) 2 w1 h1 (h3.mono (fun _ _ => trivial)))
      generalize (Ev.evl Vs.new (.mk o 0 [x])).1 = u at *
      generalize (Ev.evl Vs.new (.mk o 0 [x])).2 = eu at *
      go_wp2_with (first
        | (go_at_call 16; ((with_reducible refine (vrNew _).mono ?_); rintro e w' ⟨B, L2, cap, rfl, hR, hB, hL, q⟩; have R := Lib.hid hR; clear hR hB hL; replace X := Lib.hid (X.out.kept q); replace K := Lib.hid (KidsB.kept K.out q); have c0 := X.out.cell' 0 _ rfl; have c1 := X.out.cell' 1 _ rfl; have c2 := X.out.cell' 2 _ rfl; replace QQ := Lib.hid (Qw.trans QQ.out q); clear q))
        | (go_at_call 17; ((with_reducible refine (CV.out _ (HT.out.kept QQ.out) K.out).mono ?_); rintro e w' ⟨rfl, q⟩; replace R := Lib.hid (R.out.kept q); replace X := Lib.hid (X.out.kept q); replace K := Lib.hid (KidsB.kept K.out q); have c0 := X.out.cell' 0 _ rfl; have c1 := X.out.cell' 1 _ rfl; have c2 := X.out.cell' 2 _ rfl; replace QQ := Lib.hid (Qw.trans QQ.out q); clear q))
        | (go_at_call 12; ((with_reducible refine (CE.out _ _ _ _ R.out K.out).mono ?_); rintro e w' ⟨rfl, q⟩; replace X := Lib.hid (X.out.kept q); replace K := Lib.hid (KidsB.kept K.out q); have c0 := X.out.cell' 0 _ rfl; have c1 := X.out.cell' 1 _ rfl; have c2 := X.out.cell' 2 _ rfl; replace QQ := Lib.hid (Qw.trans QQ.out q); clear q))
        | (go_at_call 7; ((with_reducible refine (awake8 _ (HT.out.kept QQ.out)).mono ?_); rintro e w' ⟨rfl, q⟩; replace X := Lib.hid (X.out.kept q); replace K := Lib.hid (KidsB.kept K.out q); have c0 := X.out.cell' 0 _ rfl; have c1 := X.out.cell' 1 _ rfl; have c2 := X.out.cell' 2 _ rfl; replace QQ := Lib.hid (Qw.trans QQ.out q); clear q)))
      go_ret
      exact ⟨rfl, QQ.out⟩
  | true =>
    have d1 := fun w => betweenW a (-400) 400 (by omega) (by omega) (by decide) (by decide) (by decide) (by decide) w
    have d2 := fun w => betweenW b (-4) 4 (by omega) (by omega) (by decide) (by decide) (by decide) (by decide) w
    have b3 := btw8 a (-400) 400 (by decide)
    have b4 := btw8 b (-4) 4 (by decide)
    generalize hA : (-400 : Int) + a % (400 - -400 + 1) = a' at *
    generalize hB : (-4 : Int) + b % (4 - -4 + 1) = b' at *
    have NA := Lib.hid d1
    have NB := Lib.hid d2
    clear d1 d2 hA hB
    have e1 : IntKind.i64.wrap (a' * 500000) = a' * 500000 := IntWalk.i64_in _ (by omega)
    have e2 : IntKind.i64.wrap (b' * 1000000) = b' * 1000000 := IntWalk.i64_in _ (by omega)
    go_enter Tryz.func4, Tryz.ntmps4
    go_upto_region 5 with (first
        | (go_at_call 13; ((with_reducible refine (BA.out _).mono ?_); rintro e w' ⟨rfl, rfl⟩; skip))
        | (go_at_call 13; ((with_reducible refine (BB.out _).mono ?_); rintro e w' ⟨rfl, rfl⟩; skip))
        | (go_at_call 13; ((with_reducible refine (NA.out _).mono ?_); rintro e w' ⟨rfl, rfl⟩; skip))
        | (go_at_call 13; ((with_reducible refine (NB.out _).mono ?_); rintro e w' ⟨rfl, rfl⟩; skip))
        | (go_at_call 13; ((with_reducible refine (BO.out _).mono ?_); rintro e w' ⟨rfl, rfl⟩; skip)))
    have CA := Lib.hid (fun w1 => evSigned (a' * 500000) (by omega) (by omega) w1)
    have CB := Lib.hid (fun w1 => evSigned (b' * 1000000) (by omega) (by omega) w1)
    go_upto_region 6 with (first
        | (go_at_call 14; ((with_reducible refine (CA.out _).mono ?_); rintro e w' ⟨xa, xc, rfl, kx, q⟩; have KX := Lib.hid kx; replace QQ := Lib.hid (Qw.trans QQ.out q); clear kx q))
        | (go_at_call 14; ((with_reducible refine (CB.out _).mono ?_); rintro e w' ⟨ya, yc, rfl, ky, q⟩; have KY := Lib.hid ky; replace KX := Lib.hid (KidsB.kept KX.out q); replace QQ := Lib.hid (Qw.trans QQ.out q); clear ky q)))
    refine code_of (fun w2 => Hid (Bx w2 (w'.heap.size + 1) #[.int .i64 o, .int .i64 0, .slice (some ⟨w'.heap.size, 0, none⟩) 2 2] 24) ∧ Hid (KidsB w2 (fun b => b < w'.heap.size + 1) (some ⟨w'.heap.size, 0, none⟩) 2 [sgx (a' * 500000), sgx (b' * 1000000)]) ∧ Hid (Qw w w2)) ⟨Lib.hid (bx_at8 _ _ _ _ (by simp)), Lib.hid (KidsB.two (Bx.alloc (Bx.new w' _ _) _) (Nat.lt_succ_self _) (KidsB.kept (kd_lt KX.out) (Qw.al (Qw.al (Qw.refl _) _) _)) (KidsB.kept (kd_lt KY.out) (Qw.al (Qw.al (Qw.refl _) _) _))), Lib.hid (Qw.al (Qw.al QQ.out _) _)⟩ ?_
    have HD : Hid (w.heap.size ≤ w'.heap.size + 1) := Lib.hid (by have := QQ.out.size; omega)
    clear KX KY QQ CA CB
    generalize w'.heap.size + 1 = D at *
    generalize w'.heap.size = E
    generalize sgx (a' * 500000) = x
    generalize sgx (b' * 1000000) = y
    rintro w2 ⟨X, K, QQ⟩
    have c0 := X.out.cell' 0 _ rfl
    have c1 := X.out.cell' 1 _ rfl
    have c2 := X.out.cell' 2 _ rfl
    have cr := fun w1 (h : KidsB w1 (fun b => b < D) (some ⟨E, 0, none⟩) 2 [x, y]) => show Calls Tryz.prog 15 #[.agg #[.int .i64 o, .int .i64 0, .slice (some ⟨E, 0, none⟩) 2 2]] w1 fun e w' => e = .returned (.bool (Sy.rgt (.mk o 0 [x, y]))) ∧ Qw w1 w' from rw_right o 0 [x, y] (some ⟨E, 0, none⟩) 2 (fun b => b < D) w1 h
    cases hr : Sy.rgt (.mk o 0 [x, y]) with
    | true =>
      rw [hr] at cr
      have CR := Lib.hid cr
      clear cr hr
      have CV := Lib.hid (fun (w1 : World) (h2 : Tw w1) (h3 : KidsB w1 (fun b => b < D) (some ⟨E, 0, none⟩) 2 [x, y]) => show Calls Tryz.prog 17 #[.agg #[.int .i64 o, .int .i64 0, .slice (some ⟨E, 0, none⟩) 2 2]] w1 fun e w' => e = .returned (.tuple #[.int .i64 (Ev.evl Vs.new (.mk o 0 [x, y])).1, .int .i64 (Ev.evl Vs.new (.mk o 0 [x, y])).2]) ∧ Qw w1 w' from evNew (.mk o 0 [x, y]) (some ⟨E, 0, none⟩) 2 w1 h2 (h3.mono (fun _ _ => trivial)))
      have CE := Lib.hid (fun (w1 : World) (B L2 cap : Nat) (h1 : Rst w1 B L2 cap Vs.new) (h3 : KidsB w1 (fun b => b < D) (some ⟨E, 0, none⟩) 2 [x, y]) => show Calls Tryz.prog 12 #[.agg #[.int .i64 o, .int .i64 0, .slice (some ⟨E, 0, none⟩) 2 2], .pointer (some ⟨B, 0, none⟩)] w1 fun e w' => e = .returned (.tuple #[.int .i64 (Ev.evl Vs.new (.mk o 0 [x, y])).1, .int .i64 (Ev.evl Vs.new (.mk o 0 [x, y])).2]) ∧ Qw w1 w' from erEval Ev.good_new (.mk o 0 [x, y]) (some ⟨E, 0, none⟩) 2 w1 h1 (h3.mono (fun _ _ => trivial)))
      generalize (Ev.evl Vs.new (.mk o 0 [x, y])).1 = u at *
      generalize (Ev.evl Vs.new (.mk o 0 [x, y])).2 = eu at *
      go_wp2_with (first
        | (go_at_call 15; ((with_reducible refine (CR.out _ K.out).mono ?_); rintro e w' ⟨rfl, q⟩; replace X := Lib.hid (X.out.kept q); replace K := Lib.hid (KidsB.kept K.out q); have c0 := X.out.cell' 0 _ rfl; have c1 := X.out.cell' 1 _ rfl; have c2 := X.out.cell' 2 _ rfl; replace QQ := Lib.hid (Qw.trans QQ.out q); have f2 := X.out.free 2; clear q))
        | (go_at_call 16; ((with_reducible refine (vrNew _).mono ?_); rintro e w' ⟨B, L2, cap, rfl, hR, hB, hL, q⟩; have R := Lib.hid hR; clear hR hB hL; replace X := Lib.hid (X.out.kept q); replace K := Lib.hid (KidsB.kept K.out q); have c0 := X.out.cell' 0 _ rfl; have c1 := X.out.cell' 1 _ rfl; have c2 := X.out.cell' 2 _ rfl; replace QQ := Lib.hid (Qw.trans QQ.out q); clear q))
        | (go_at_call 17; ((with_reducible refine (CV.out _ (HT.out.kept QQ.out) K.out).mono ?_); rintro e w' ⟨rfl, q⟩; replace R := Lib.hid (R.out.kept q); replace X := Lib.hid (X.out.kept q); replace K := Lib.hid (KidsB.kept K.out q); have c0 := X.out.cell' 0 _ rfl; have c1 := X.out.cell' 1 _ rfl; have c2 := X.out.cell' 2 _ rfl; replace QQ := Lib.hid (Qw.trans QQ.out q); clear q))
        | (go_at_call 12; ((with_reducible refine (CE.out _ _ _ _ R.out K.out).mono ?_); rintro e w' ⟨rfl, q⟩; replace X := Lib.hid (X.out.kept q); replace K := Lib.hid (KidsB.kept K.out q); have c0 := X.out.cell' 0 _ rfl; have c1 := X.out.cell' 1 _ rfl; have c2 := X.out.cell' 2 _ rfl; replace QQ := Lib.hid (Qw.trans QQ.out q); clear q))
        | (go_at_call 7; ((with_reducible refine (awake8 _ (HT.out.kept QQ.out)).mono ?_); rintro e w' ⟨rfl, q⟩; replace X := Lib.hid (X.out.kept q); replace K := Lib.hid (KidsB.kept K.out q); have c0 := X.out.cell' 0 _ rfl; have c1 := X.out.cell' 1 _ rfl; have c2 := X.out.cell' 2 _ rfl; replace QQ := Lib.hid (Qw.trans QQ.out q); clear q)))
      go_ret
      exact ⟨rfl, QQ.out⟩
    | false =>
      rw [hr] at cr
      have CR := Lib.hid cr
      clear cr hr
      go_upto_region 8 with ((go_at_call 15; ((with_reducible refine (CR.out _ K.out).mono ?_); rintro e w' ⟨rfl, q⟩; replace X := Lib.hid (X.out.kept q); replace K := Lib.hid (KidsB.kept K.out q); have c0 := X.out.cell' 0 _ rfl; have c1 := X.out.cell' 1 _ rfl; have c2 := X.out.cell' 2 _ rfl; replace QQ := Lib.hid (Qw.trans QQ.out q); have f2 := X.out.free 2; clear q)))
      refine code_of (fun w3 => Hid (Bx w3 D #[.int .i64 o, .int .i64 0, .slice (some ⟨E, 0, none⟩) 1 2] 24) ∧ Hid (KidsB w3 (fun b => b < D) (some ⟨E, 0, none⟩) 2 [x]) ∧ Hid (Qw w w3)) ⟨Lib.hid (X.out.set 2 _), Lib.hid (kd_first (KidsB.set K.out (Nat.lt_irrefl D) _)), Lib.hid (Qw.sc QQ.out HD.out _)⟩ ?_
      clear X K QQ c0 c1 c2 f2 CR
      rintro w3 ⟨X, K, QQ⟩
      have c0 := X.out.cell' 0 _ rfl
      have c1 := X.out.cell' 1 _ rfl
      have c2 := X.out.cell' 2 _ rfl
      have CV := Lib.hid (fun (w1 : World) (h2 : Tw w1) (h3 : KidsB w1 (fun b => b < D) (some ⟨E, 0, none⟩) 2 [x]) => show Calls Tryz.prog 17 #[.agg #[.int .i64 o, .int .i64 0, .slice (some ⟨E, 0, none⟩) 1 2]] w1 fun e w' => e = .returned (.tuple #[.int .i64 (Ev.evl Vs.new (.mk o 0 [x])).1, .int .i64 (Ev.evl Vs.new (.mk o 0 [x])).2]) ∧ Qw w1 w' from evNew (.mk o 0 [x]) (some ⟨E, 0, none⟩) 2 w1 h2 (h3.mono (fun _ _ => trivial)))
      have CE := Lib.hid (fun (w1 : World) (B L2 cap : Nat) (h1 : Rst w1 B L2 cap Vs.new) (h3 : KidsB w1 (fun b => b < D) (some ⟨E, 0, none⟩) 2 [x]) => show Calls Tryz.prog 12 #[.agg #[.int .i64 o, .int .i64 0, .slice (some ⟨E, 0, none⟩) 1 2], .pointer (some ⟨B, 0, none⟩)] w1 fun e w' => e = .returned (.tuple #[.int .i64 (Ev.evl Vs.new (.mk o 0 [x])).1, .int .i64 (Ev.evl Vs.new (.mk o 0 [x])).2]) ∧ Qw w1 w' from erEval Ev.good_new (.mk o 0 [x]) (some ⟨E, 0, none⟩) 2 w1 h1 (h3.mono (fun _ _ => trivial)))
      generalize (Ev.evl Vs.new (.mk o 0 [x])).1 = u at *
      generalize (Ev.evl Vs.new (.mk o 0 [x])).2 = eu at *
      go_wp2_with (first
        | (go_at_call 16; ((with_reducible refine (vrNew _).mono ?_); rintro e w' ⟨B, L2, cap, rfl, hR, hB, hL, q⟩; have R := Lib.hid hR; clear hR hB hL; replace X := Lib.hid (X.out.kept q); replace K := Lib.hid (KidsB.kept K.out q); have c0 := X.out.cell' 0 _ rfl; have c1 := X.out.cell' 1 _ rfl; have c2 := X.out.cell' 2 _ rfl; replace QQ := Lib.hid (Qw.trans QQ.out q); clear q))
        | (go_at_call 17; ((with_reducible refine (CV.out _ (HT.out.kept QQ.out) K.out).mono ?_); rintro e w' ⟨rfl, q⟩; replace R := Lib.hid (R.out.kept q); replace X := Lib.hid (X.out.kept q); replace K := Lib.hid (KidsB.kept K.out q); have c0 := X.out.cell' 0 _ rfl; have c1 := X.out.cell' 1 _ rfl; have c2 := X.out.cell' 2 _ rfl; replace QQ := Lib.hid (Qw.trans QQ.out q); clear q))
        | (go_at_call 12; ((with_reducible refine (CE.out _ _ _ _ R.out K.out).mono ?_); rintro e w' ⟨rfl, q⟩; replace X := Lib.hid (X.out.kept q); replace K := Lib.hid (KidsB.kept K.out q); have c0 := X.out.cell' 0 _ rfl; have c1 := X.out.cell' 1 _ rfl; have c2 := X.out.cell' 2 _ rfl; replace QQ := Lib.hid (Qw.trans QQ.out q); clear q))
        | (go_at_call 7; ((with_reducible refine (awake8 _ (HT.out.kept QQ.out)).mono ?_); rintro e w' ⟨rfl, q⟩; replace X := Lib.hid (X.out.kept q); replace K := Lib.hid (KidsB.kept K.out q); have c0 := X.out.cell' 0 _ rfl; have c1 := X.out.cell' 1 _ rfl; have c2 := X.out.cell' 2 _ rfl; replace QQ := Lib.hid (Qw.trans QQ.out q); clear q)))
      go_ret
      exact ⟨rfl, QQ.out⟩


/-! ### the row and the card -/
theorem reads_evalOperators (os : Os) {H : Type} (enc : TypeId × Value → H) : ∃ places, DataW.whole enc Tryz.prog ((laidWorldE os).forCall (fun _ _ => 0) ⟨#[], #[.int .i64 0, .int .i64 0, .int .i64 0, .bool false], []⟩).memory Tryz.f4.params.toList Rows.evalOperatorsSpec.vars false #[(.int .i64 0 : Value), .int .i64 0, .int .i64 0, .bool false].toList 8 = some ([.lit (.int .i64 0), .lit (.int .i64 0), .lit (.int .i64 0), .lit (.bool false)], [], places) :=
  ⟨[], by kernel_rfl⟩
set_option maxRecDepth 100000 in
theorem lifted_evalOperators (os : Os) (started : os.Started) (H : Type) (enc : TypeId × Value → H) (F : Stop.Interp) :
    ReturnsInHanded {} Tryz.checked os 4 .any ((OpenSpec.ofChange Rows.evalOperatorsSpec).preRow enc Tryz.prog Tryz.f4 Rows.evalOperatorsRow.domain false Rows.evalOperatorsRow.laid) (((OpenSpec.ofChange Rows.evalOperatorsSpec).at F).post enc Tryz.prog Tryz.f4 false true false false) := by
  obtain ⟨places, hx⟩ := reads_evalOperators os enc
  refine returnsInHanded_of_row (C := Tryz.checked) (s := OpenSpec.ofChange Rows.evalOperatorsSpec) ownE started (by kernel_rfl) Tryz.func4
    (witness_row_at (enc := enc) (C := Tryz.checked) false (laidWorldE os) #[.int .i64 0, .int .i64 0, .int .i64 0, .bool false] rfl (by kernel_rfl) (by kernel_rfl) (by kernel_rfl)
      (OpenSpec.preRow_of_cond 8 hx (by kernel_rfl) (fun k hk => by cases hk) (by kernel_rfl) (laid_metE os _))) ?_
  intro W base args ds gs before hval0 hW _ _ _ hL _ _
  have ht : Tw W := tableE hL
  have hval : ∀ (j : Nat) t v, Tryz.f4.params[j]? = some t → args[j]? = some v → Value.okWide Tryz.prog W .any base t v := hval0
  have hW' := hW
  obtain ⟨p, q, hA0, hV, rfl, hfz, hnd⟩ := hW
  have hA : DataW.TrodAll enc Tryz.prog W 0 (fun _ => true) true Tryz.f4.params.toList args.toList ds p := hA0
  rw [Tryz.params4] at hA hval
  obtain ⟨v0, vs0, d0, ds0, p0, q0, hargs, rfl, rfl, h0, r0⟩ := trodAll_cons hA
  obtain ⟨v1, vs1, d1, ds1, p1, q1, rfl, rfl, rfl, h1, r1⟩ := trodAll_cons r0
  obtain ⟨v2, vs2, d2, ds2, p2, q2, rfl, rfl, rfl, h2, r2⟩ := trodAll_cons r1
  obtain ⟨v3, vs3, d3, ds3, p3, q3, rfl, rfl, rfl, h3, r3⟩ := trodAll_cons r2
  obtain ⟨rfl, rfl, rfl⟩ := trodAll_nil r3
  obtain rfl : args = #[v0, v1, v2, v3] := by cases args; simp_all
  obtain ⟨rfl, rfl⟩ := trodVars_none hV
  obtain ⟨a0, rfl, rfl, rfl, w0⟩ := open_int Tryz.underlying3 (hval 0 3 v0 rfl rfl) h0
  obtain ⟨x0, y0⟩ := i64_of_wf w0
  obtain ⟨a1, rfl, rfl, rfl, w1⟩ := open_int Tryz.underlying3 (hval 1 3 v1 rfl rfl) h1
  obtain ⟨x1, y1⟩ := i64_of_wf w1
  obtain ⟨a2, rfl, rfl, rfl, w2⟩ := open_int Tryz.underlying3 (hval 2 3 v2 rfl rfl) h2
  obtain ⟨x2, y2⟩ := i64_of_wf w2
  obtain ⟨a3, rfl, rfl, rfl⟩ := open_bool Tryz.underlying4 (hval 3 4 v3 rfl rfl) h3
  clear hA0 hval0 hL
  simp only [List.append_nil] at hW'
  refine (walk_evalOperators a0 x0 y0 a1 x1 y1 a2 x2 y2 a3 W ht).mono fun e W' ⟨he, bel⟩ => ?_
  subst he
  exact ⟨_, rfl, _, _, _, [], _, [], hW', trodAll_mk1 (shut_bool Tryz.underlying4 _), (trodAll_cons_mk (shut_int Tryz.underlying3 w0) (trodAll_cons_mk (shut_int Tryz.underlying3 w1) (trodAll_cons_mk (shut_int Tryz.underlying3 w2) (trodAll_cons_mk (shut_bool Tryz.underlying4 _) trodAll_mk0)))), rfl, Below.frame bel _, fun h => by cases h⟩

theorem evalOperators_said : Rows.EvalOperatorsSaid :=
  OpenClaim.holds_of_cond 4 Tryz.f4 rfl rfl rfl rfl rfl rfl rfl ⟨rfl, rfl, rfl, rfl, rfl⟩ rfl rfl rfl rfl rfl (by kernel_rfl) Tryz.func4 (by kernel_rfl)
    (of_decide_eq_true (by kernel_rfl)) (by unfold Func.isWrapper; first | (rw [if_pos (by decide +kernel)]; kernel_rfl) | (rw [if_neg (by decide +kernel)]; exact ⟨rfl, rfl⟩))
    (fun os started H enc _ F => by rw [OpenClaim.pre_eq_preRow]; exact lifted_evalOperators os started H enc F)

theorem plain_evalOperators (f : FuncId) (fn : Func) (hf : Tryz.pinned.checked.prog.funcNamed "cnc/cnclaw08.EvalOperators" = some f) (hfn : Tryz.pinned.checked.prog.funcs[f]? = some fn) :
    false = Tryz.pinned.checked.prog.looks [] ∧ ∀ (j : Nat) t, fn.params[j]? = some t → Tryz.pinned.checked.prog.wantsStandIn t = false := by
  obtain rfl : f = 4 := Option.some.inj ((show Tryz.prog.funcNamed "cnc/cnclaw08.EvalOperators" = some 4 by kernel_rfl).symm.trans hf) |>.symm
  obtain rfl : fn = Tryz.f4 := (Option.some.inj (Tryz.func4.symm.trans hfn)).symm
  refine ⟨by kernel_rfl, fun j t ht => ?_⟩
  rw [Tryz.params4] at ht
  have hm : t = 3 ∨ t = 4 := by simpa using Array.mem_of_getElem? ht
  rcases hm with rfl | rfl
  · exact (show Tryz.prog.wantsStandIn 3 = false by kernel_rfl)
  · exact (show Tryz.prog.wantsStandIn 4 = false by kernel_rfl)

/-- The statement. -/
theorem evalOperators_card : Rows.EvalOperatorsCardSaid :=
  Claim7.holds_tied_plain_at .later [] _ _ _ _ evalOperators_said (fun _ h => by cases h) (by kernel_rfl) (fun _ h => by cases h) evalOperators_row_tie rfl ⟨rfl, rfl⟩ (by kernel_rfl) rfl plain_evalOperators (by kernel_rfl)

end Go.Proofs.YtkfipjlknfinpaaGreatDoor
