
/- EvalVariables of layer 8: a variable has the value that it was given, also through a variable.
   Conditions: the listed tables lie as the program's own text lays them (the card ties them); every input. -/
import Derived.Test.YtkfipjlknfinpaaDoorFrameE
import Derived.Test.YtkfipjlknfinpaaDoorEvL
import Derived.Deep.Cut
set_option linter.unusedVariables false
set_option linter.unusedSimpArgs false
namespace Go.Proofs.YtkfipjlknfinpaaDoor
open Go.ChangeShapes Go.WideShapes Go.ChangeAt Go.RowKit

namespace Ev
theorem getD_set {l : List Int} {i j : Nat} {v : Int} (hi : i < l.length) : (l.set i v).getD j 0 = if i = j then v else l.getD j 0 := by
  rw [List.getD_eq_getElem?_getD, List.getD_eq_getElem?_getD, List.getElem?_set]
  split
  · rename_i h; subst h; first | rfl | (rw [if_pos hi]; rfl)
  · rfl
/-- What the variables of the law hold. -/
theorem vars_law {n m v : Int} (n1 : 1 ≤ n) (n2 : n ≤ 33) (m1 : 100 ≤ m) (m2 : m ≤ 199) (hv : Bd v) : ∃ s, s = (Vs.new.set n v).set m (n * 1000000) ∧ Vs.serr n v = 0 ∧ Vs.serr m (n * 1000000) = 0 ∧ Good s ∧ s.get n = v ∧ Vs.gerr n = 0 ∧ s.get m = n * 1000000 ∧ Vs.gerr m = 0 := by
  have hn : Vs.isL n := ⟨n1, n2⟩
  have hns : ¬ Vs.isS n := fun h => by unfold Vs.isS at h; omega
  have hm : Vs.isC m := ⟨m1, m2⟩
  have hml : ¬ Vs.isL m := fun h => by unfold Vs.isL at h; omega
  have hms : ¬ Vs.isS m := fun h => by unfold Vs.isS at h; omega
  have hv' : Vs.vld v := hv
  have hw : Vs.vld (n * 1000000) := ⟨by omega, by omega⟩
  have s1 : Vs.serr n v = 0 := by unfold Vs.serr; rw [if_neg hns, if_neg (fun h => h.1 hn), if_pos hv']
  have s2 : Vs.serr m (n * 1000000) = 0 := by unfold Vs.serr; rw [if_neg hms, if_neg (fun h => h.2 hm), if_pos hw]
  have e1 : Vs.new.set n v = { Vs.new with ls := Vs.new.ls.set (Vs.new.at n) v } := by unfold Vs.St.set; rw [if_neg (by rw [s1]; decide), if_pos hn]
  have e2 : ∀ s : Vs.St, s.set m (n * 1000000) = { s with cm := s.cm.set (m - 100).toNat (n * 1000000) } := fun s => by unfold Vs.St.set; rw [if_neg (by rw [s2]; decide), if_neg hml]
  refine ⟨_, rfl, s1, s2, (all_set (all_set all_new hv _) ⟨by omega, by omega⟩ _).good, ?_, ?_, ?_, ?_⟩
  · rw [e1, e2]
    unfold Vs.St.get
    rw [if_pos hn]
    show (Vs.new.ls.set (Vs.new.at n) v).getD (Vs.new.at n) 0 = v
    rw [getD_set (by show (1 - 1) * 33 + (n - 1).toNat < (Vs.zer 33).length; rw [Vs.zer_length]; omega), if_pos rfl]
  · unfold Vs.gerr; rw [if_pos (.inl hn)]
  · rw [e1, e2]
    unfold Vs.St.get
    rw [if_neg hml, if_pos hm]
    show ((Vs.zer 100).set (m - 100).toNat (n * 1000000)).getD (m - 100).toNat 0 = _
    rw [getD_set (by rw [Vs.zer_length]; omega), if_pos rfl]
  · unfold Vs.gerr; rw [if_pos (.inr (.inl hm))]
theorem whole_mul {n : Int} (n1 : 0 ≤ n) (n2 : n ≤ 1000) : whole (n * 1000000) = true ∧ wholev (n * 1000000) = n := by
  have h : whole (n * 1000000) = true := by
    unfold whole
    rw [vld_t (by omega) (by omega), decide_eq_true (by omega)]; rfl
  refine ⟨h, ?_⟩
  unfold wholev
  rw [if_pos h]; omega
theorem whole_no {n : Int} : whole (n * 1000000 + 1) = false := by
  unfold whole
  rw [decide_eq_false (by omega), Bool.and_false]
end Ev
set_option maxRecDepth 100000 in
set_option maxHeartbeats 4000000 in
theorem walk_evalVariables (a0 : Int) (x0 : -9223372036854775808 ≤ a0) (y0 : a0 ≤ 9223372036854775807) (a1 : Int) (x1 : -9223372036854775808 ≤ a1) (y1 : a1 ≤ 9223372036854775807) (a2 : Int) (x2 : -9223372036854775808 ≤ a2) (y2 : a2 ≤ 9223372036854775807) (w : World) (ht : Tw w) :
    Calls Tryd.prog 7 #[.int .i64 a0, .int .i64 a1, .int .i64 a2] w fun e w' => e = .returned (.bool true) ∧ Qw w w' := by
  have HT := Lib.hid ht
  have mn := fun w => modW a0 33 x0 y0 (by decide) (by decide) w
  have mm := fun w => modW a1 100 x1 y1 (by decide) (by decide) w
  have mb := fun w => betweenW a2 (-1000000000000000) 1000000000000000 x2 y2 (by decide) (by decide) (by decide) (by decide) w
  have b0 := Int.emod_nonneg a0 (show (33 : Int) ≠ 0 by decide)
  have b1 := Int.emod_lt_of_pos a0 (show (0 : Int) < 33 by decide)
  have b2 := Int.emod_nonneg a1 (show (100 : Int) ≠ 0 by decide)
  have b3 := Int.emod_lt_of_pos a1 (show (0 : Int) < 100 by decide)
  have b4 := btw8 a2 (-1000000000000000) 1000000000000000 (by decide)
  generalize a0 % 33 = n' at *
  generalize a1 % 100 = m' at *
  generalize (-1000000000000000 : Int) + a2 % (1000000000000000 - -1000000000000000 + 1) = v at *
  have MN := Lib.hid mn
  have MM := Lib.hid mm
  have MB := Lib.hid mb
  obtain ⟨n, hn⟩ : ∃ n, 1 + n' = n := ⟨_, rfl⟩
  obtain ⟨m, hm⟩ : ∃ m, 100 + m' = m := ⟨_, rfl⟩
  have wn : IntKind.i64.wrap (1 + n') = n := (IntWalk.i64_in _ (by omega)).trans hn
  have wm : IntKind.i64.wrap (100 + m') = m := (IntWalk.i64_in _ (by omega)).trans hm
  have wk : IntKind.i64.wrap (n * 1000000) = n * 1000000 := IntWalk.i64_in _ (by omega)
  have wl : IntKind.i64.wrap (m * 1000000) = m * 1000000 := IntWalk.i64_in _ (by omega)
  have wo : IntKind.i64.wrap (n * 1000000 + 1) = n * 1000000 + 1 := IntWalk.i64_in _ (by omega)
  obtain ⟨s, hs, s1, s2, hgood, g1, g2, g3, g4⟩ := Ev.vars_law (n := n) (m := m) (v := v) (by omega) (by omega) (by omega) (by omega) b4
  have okn := Sy.okx_num' (n := n * 1000000) (by omega) (by omega)
  have okm := Sy.okx_num' (n := m * 1000000) (by omega) (by omega)
  have oko := Sy.okx_num' (n := n * 1000000 + 1) (by omega) (by omega)
  have wh1 := Ev.whole_mul (n := n) (by omega) (by omega)
  have wh2 := Ev.whole_mul (n := m) (by omega) (by omega)
  have vx : Ev.evl s (Sy.un 1 (Sy.num (n * 1000000))) = (v, 0) := by
    rw [Ev.evl_un (by decide) rfl okn (by rw [Sy.dpt_num]; decide), Ev.evl_num (by omega) (by omega), Ev.opk_one]
    show Ev.varv s (n * 1000000) = _
    unfold Ev.varv
    rw [if_pos wh1.1, wh1.2, g1, g2]
  have vm : Ev.evl s (Sy.un 1 (Sy.num (m * 1000000))) = (n * 1000000, 0) := by
    rw [Ev.evl_un (by decide) rfl okm (by rw [Sy.dpt_num]; decide), Ev.evl_num (by omega) (by omega), Ev.opk_one]
    show Ev.varv s (m * 1000000) = _
    unfold Ev.varv
    rw [if_pos wh2.1, wh2.2, g3, g4]
  have vy : Ev.evl s (Sy.un 1 (Sy.un 1 (Sy.num (m * 1000000)))) = (v, 0) := by
    rw [Ev.evl_un (by decide) rfl (Sy.okx_un' (by decide) rfl okm) (by rw [Sy.dpt_un, Sy.dpt_num]; decide), vm, Ev.opk_one]
    show Ev.varv s (n * 1000000) = _
    unfold Ev.varv
    rw [if_pos wh1.1, wh1.2, g1, g2]
  have vz : Ev.evl s (Sy.un 1 (Sy.num (n * 1000000 + 1))) = (0, 6) := by
    rw [Ev.evl_un (by decide) rfl oko (by rw [Sy.dpt_num]; decide), Ev.evl_num (by omega) (by omega), Ev.opk_one]
    show Ev.varv s (n * 1000000 + 1) = _
    unfold Ev.varv
    rw [if_neg (by rw [Ev.whole_no]; decide)]
  have S1 := Lib.hid s1
  have S2 := Lib.hid s2
  have SE := Lib.hid hs.symm
  have b5 : -1000000000000000 ≤ v ∧ v ≤ 1000000000000000 := b4
  clear mn mm mb ht okn okm oko wh1 wh2 g1 g2 g3 g4 s1 s2 hs vm b4
  have nb : 1 ≤ n ∧ n ≤ 33 := by omega
  have mb : 100 ≤ m ∧ m ≤ 199 := by omega
  clear hn hm
  go_enter Tryd.func7, Tryd.ntmps7
  go_upto_region 5 with (first
    | (go_at_call 22; ((with_reducible refine (MN.out _).mono ?_); rintro e w' ⟨rfl, rfl⟩; skip))
    | (go_at_call 22; ((with_reducible refine (MM.out _).mono ?_); rintro e w' ⟨rfl, rfl⟩; skip))
    | (go_at_call 21; ((with_reducible refine (MB.out _).mono ?_); rintro e w' ⟨rfl, rfl⟩; skip))
    | (go_at_call 23; ((with_reducible refine (psNew (Qw.refl w)).mono ?_); rintro e w' ⟨B, L, cap, rfl, hP⟩; have P := Lib.hid hP; clear hP))
    | (go_at_call 10; ((with_reducible refine (awake8 _ (HT.out.kept P.out.q)).mono ?_); rintro e w' ⟨rfl, q⟩; replace P := Lib.hid (P.out.kept q); clear q))
    | (go_at_call 24; ((with_reducible refine (psSet P.out n v 0 S1.out).mono ?_); rintro e w' ⟨rfl, hP⟩; replace P := Lib.hid hP; clear hP))
    | (go_at_call 24; ((with_reducible refine (psSet P.out m (n * 1000000) 0 S2.out).mono ?_); rintro e w' ⟨rfl, hP⟩; rw [SE.out] at hP; replace P := Lib.hid hP; clear hP)))
  have eCX := vx
  have eCY := vy
  have eCZ := vz
  have CX := Lib.hid (fun (w1 : World) (b : Nat) (h1 : Ps w w1 B L cap s) (h3 : Kd w1 (some ⟨b, 0, none⟩) 1 [Sy.num (n * 1000000)]) => show Calls Tryd.prog 14 #[.agg #[.int .i64 1, .int .i64 0, .slice (some ⟨b, 0, none⟩) 1 1], .pointer (some ⟨B, 0, none⟩)] w1 fun e w' => e = .returned (.tuple #[.int .i64 v, .int .i64 0]) ∧ Qw w1 w' by
    have := evEval hgood (Sy.un 1 (Sy.num (n * 1000000))) (some ⟨b, 0, none⟩) 1 w1 h1.p (HT.out.kept h1.q) h3
    rw [eCX] at this
    exact this)
  have CY := Lib.hid (fun (w1 : World) (b : Nat) (h1 : Ps w w1 B L cap s) (h3 : Kd w1 (some ⟨b, 0, none⟩) 1 [Sy.un 1 (Sy.num (m * 1000000))]) => show Calls Tryd.prog 14 #[.agg #[.int .i64 1, .int .i64 0, .slice (some ⟨b, 0, none⟩) 1 1], .pointer (some ⟨B, 0, none⟩)] w1 fun e w' => e = .returned (.tuple #[.int .i64 v, .int .i64 0]) ∧ Qw w1 w' by
    have := evEval hgood (Sy.un 1 (Sy.un 1 (Sy.num (m * 1000000)))) (some ⟨b, 0, none⟩) 1 w1 h1.p (HT.out.kept h1.q) h3
    rw [eCY] at this
    exact this)
  have CZ := Lib.hid (fun (w1 : World) (b : Nat) (h1 : Ps w w1 B L cap s) (h3 : Kd w1 (some ⟨b, 0, none⟩) 1 [Sy.num (n * 1000000 + 1)]) => show Calls Tryd.prog 14 #[.agg #[.int .i64 1, .int .i64 0, .slice (some ⟨b, 0, none⟩) 1 1], .pointer (some ⟨B, 0, none⟩)] w1 fun e w' => e = .returned (.tuple #[.int .i64 0, .int .i64 6]) ∧ Qw w1 w' by
    have := evEval hgood (Sy.un 1 (Sy.num (n * 1000000 + 1))) (some ⟨b, 0, none⟩) 1 w1 h1.p (HT.out.kept h1.q) h3
    rw [eCZ] at this
    exact this)
  clear eCX eCY eCZ vx vy vz hgood S1 S2 SE
  go_upto_region 6 with (go_at_call 25; ((with_reducible refine (evNum _ _).mono ?_); rintro e w' ⟨rfl, q⟩; replace P := Lib.hid (P.out.kept q); clear q))
  refine code_of (fun w2 => Hid (Bx w2 (w'.heap.size + 1) #[.int .i64 1, .int .i64 0, .slice (some ⟨w'.heap.size, 0, none⟩) 1 1] 31) ∧ Hid (Kd w2 (some ⟨w'.heap.size, 0, none⟩) 1 [Sy.num (n * 1000000)]) ∧ Hid (Ps w w2 B L cap s)) ⟨Lib.hid (bx_at8 _ _ _ _ (by simp)), Lib.hid (KidsB.one (x := Sy.num (n * 1000000)) ((Bx.new w' _ _).alloc _) trivial (kd_nil _)), Lib.hid ((P.out.al _).al _)⟩ ?_
  clear P
  generalize w'.heap.size + 1 = D1
  generalize w'.heap.size = E1
  rintro w2 ⟨X1, K1, P⟩
  go_upto_region 7 with (go_at_call 25; ((with_reducible refine (evNum _ _).mono ?_); rintro e w' ⟨rfl, q⟩; replace P := Lib.hid (P.out.kept q); replace X1 := Lib.hid (X1.out.kept q); replace K1 := Lib.hid (KidsB.kept K1.out q); clear q))
  refine code_of (fun w3 => Hid (Bx w3 (w'.heap.size + 1 + 1) #[.int .i64 1, .int .i64 0, .slice (some ⟨w'.heap.size + 1, 0, none⟩) 1 1] 31) ∧ Hid (Kd w3 (some ⟨w'.heap.size + 1, 0, none⟩) 1 [Sy.un 1 (Sy.num (m * 1000000))]) ∧ Hid (Bx w3 D1 #[.int .i64 1, .int .i64 0, .slice (some ⟨E1, 0, none⟩) 1 1] 31) ∧ Hid (Kd w3 (some ⟨E1, 0, none⟩) 1 [Sy.num (n * 1000000)]) ∧ Hid (Ps w w3 B L cap s)) ⟨Lib.hid (bx_at8 _ _ _ _ (by simp)), Lib.hid (KidsB.one (x := Sy.un 1 (Sy.num (m * 1000000))) (Bx.alloc (bx_at8 _ _ _ _ (by simp)) _) trivial (KidsB.one (x := Sy.num (m * 1000000)) (((Bx.new w' _ _).alloc _).alloc _) trivial (kd_nil _))), Lib.hid (((X1.out.alloc _).alloc _).alloc _), Lib.hid (KidsB.kept K1.out (Qw.al (Qw.al (Qw.al (Qw.refl _) _) _) _)), Lib.hid (((P.out.al _).al _).al _)⟩ ?_
  clear P X1 K1
  generalize w'.heap.size + 1 + 1 = D2
  generalize w'.heap.size + 1 = E2
  rintro w3 ⟨X2, K2, X1, K1, P⟩
  go_upto_region 8 with (go_at_call 25; ((with_reducible refine (evNum _ _).mono ?_); rintro e w' ⟨rfl, q⟩; replace P := Lib.hid (P.out.kept q); replace X1 := Lib.hid (X1.out.kept q); replace K1 := Lib.hid (KidsB.kept K1.out q); replace X2 := Lib.hid (X2.out.kept q); replace K2 := Lib.hid (KidsB.kept K2.out q); clear q))
  refine code_of (fun w4 => Hid (Bx w4 (w'.heap.size + 1) #[.int .i64 1, .int .i64 0, .slice (some ⟨w'.heap.size, 0, none⟩) 1 1] 31) ∧ Hid (Kd w4 (some ⟨w'.heap.size, 0, none⟩) 1 [Sy.num (n * 1000000 + 1)]) ∧ Hid (Bx w4 D2 #[.int .i64 1, .int .i64 0, .slice (some ⟨E2, 0, none⟩) 1 1] 31) ∧ Hid (Kd w4 (some ⟨E2, 0, none⟩) 1 [Sy.un 1 (Sy.num (m * 1000000))]) ∧ Hid (Bx w4 D1 #[.int .i64 1, .int .i64 0, .slice (some ⟨E1, 0, none⟩) 1 1] 31) ∧ Hid (Kd w4 (some ⟨E1, 0, none⟩) 1 [Sy.num (n * 1000000)]) ∧ Hid (Ps w w4 B L cap s)) ⟨Lib.hid (bx_at8 _ _ _ _ (by simp)), Lib.hid (KidsB.one (x := Sy.num (n * 1000000 + 1)) ((Bx.new w' _ _).alloc _) trivial (kd_nil _)), Lib.hid ((X2.out.alloc _).alloc _), Lib.hid (KidsB.kept K2.out (Qw.al (Qw.al (Qw.refl _) _) _)), Lib.hid ((X1.out.alloc _).alloc _), Lib.hid (KidsB.kept K1.out (Qw.al (Qw.al (Qw.refl _) _) _)), Lib.hid ((P.out.al _).al _)⟩ ?_
  clear P X1 K1 X2 K2
  generalize w'.heap.size + 1 = D3
  generalize w'.heap.size = E3
  rintro w4 ⟨X3, K3, X2, K2, X1, K1, P⟩
  have p0 := X1.out.cell' 0 _ rfl; have p1 := X1.out.cell' 1 _ rfl; have p2 := X1.out.cell' 2 _ rfl; have p3 := X2.out.cell' 0 _ rfl; have p4 := X2.out.cell' 1 _ rfl; have p5 := X2.out.cell' 2 _ rfl; have p6 := X3.out.cell' 0 _ rfl; have p7 := X3.out.cell' 1 _ rfl; have p8 := X3.out.cell' 2 _ rfl
  go_wp2_with (first
    | (go_at_call 14; ((with_reducible refine (CX.out _ _ P.out K1.out).mono ?_); rintro e w' ⟨rfl, q⟩; replace P := Lib.hid (P.out.kept q); replace X1 := Lib.hid (X1.out.kept q); replace K1 := Lib.hid (KidsB.kept K1.out q); replace X2 := Lib.hid (X2.out.kept q); replace K2 := Lib.hid (KidsB.kept K2.out q); replace X3 := Lib.hid (X3.out.kept q); replace K3 := Lib.hid (KidsB.kept K3.out q); have p0 := X1.out.cell' 0 _ rfl; have p1 := X1.out.cell' 1 _ rfl; have p2 := X1.out.cell' 2 _ rfl; have p3 := X2.out.cell' 0 _ rfl; have p4 := X2.out.cell' 1 _ rfl; have p5 := X2.out.cell' 2 _ rfl; have p6 := X3.out.cell' 0 _ rfl; have p7 := X3.out.cell' 1 _ rfl; have p8 := X3.out.cell' 2 _ rfl; clear q))
    | (go_at_call 14; ((with_reducible refine (CY.out _ _ P.out K2.out).mono ?_); rintro e w' ⟨rfl, q⟩; replace P := Lib.hid (P.out.kept q); replace X1 := Lib.hid (X1.out.kept q); replace K1 := Lib.hid (KidsB.kept K1.out q); replace X2 := Lib.hid (X2.out.kept q); replace K2 := Lib.hid (KidsB.kept K2.out q); replace X3 := Lib.hid (X3.out.kept q); replace K3 := Lib.hid (KidsB.kept K3.out q); have p0 := X1.out.cell' 0 _ rfl; have p1 := X1.out.cell' 1 _ rfl; have p2 := X1.out.cell' 2 _ rfl; have p3 := X2.out.cell' 0 _ rfl; have p4 := X2.out.cell' 1 _ rfl; have p5 := X2.out.cell' 2 _ rfl; have p6 := X3.out.cell' 0 _ rfl; have p7 := X3.out.cell' 1 _ rfl; have p8 := X3.out.cell' 2 _ rfl; clear q))
    | (go_at_call 14; ((with_reducible refine (CZ.out _ _ P.out K3.out).mono ?_); rintro e w' ⟨rfl, q⟩; replace P := Lib.hid (P.out.kept q); replace X1 := Lib.hid (X1.out.kept q); replace K1 := Lib.hid (KidsB.kept K1.out q); replace X2 := Lib.hid (X2.out.kept q); replace K2 := Lib.hid (KidsB.kept K2.out q); replace X3 := Lib.hid (X3.out.kept q); replace K3 := Lib.hid (KidsB.kept K3.out q); have p0 := X1.out.cell' 0 _ rfl; have p1 := X1.out.cell' 1 _ rfl; have p2 := X1.out.cell' 2 _ rfl; have p3 := X2.out.cell' 0 _ rfl; have p4 := X2.out.cell' 1 _ rfl; have p5 := X2.out.cell' 2 _ rfl; have p6 := X3.out.cell' 0 _ rfl; have p7 := X3.out.cell' 1 _ rfl; have p8 := X3.out.cell' 2 _ rfl; clear q)))
  go_ret
  exact ⟨rfl, P.out.q⟩


/-! ### the row and the card -/
theorem reads_evalVariables (os : Os) {H : Type} (enc : TypeId × Value → H) : ∃ places, DataW.whole enc Tryd.prog ((laidWorldE os).forCall (fun _ _ => 0) ⟨#[], #[.int .i64 0, .int .i64 0, .int .i64 0], []⟩).memory Tryd.f7.params.toList Rows.evalVariablesSpec.vars false #[(.int .i64 0 : Value), .int .i64 0, .int .i64 0].toList 8 = some ([.lit (.int .i64 0), .lit (.int .i64 0), .lit (.int .i64 0)], [], places) :=
  ⟨[], by kernel_rfl⟩
set_option maxRecDepth 100000 in
theorem lifted_evalVariables (os : Os) (started : os.Started) (H : Type) (enc : TypeId × Value → H) (F : Stop.Interp) :
    ReturnsInHanded {} Tryd.checked os 7 .any ((OpenSpec.ofChange Rows.evalVariablesSpec).preRow enc Tryd.prog Tryd.f7 Rows.evalVariablesRow.domain false Rows.evalVariablesRow.laid) (((OpenSpec.ofChange Rows.evalVariablesSpec).at F).post enc Tryd.prog Tryd.f7 false true false false) := by
  obtain ⟨places, hx⟩ := reads_evalVariables os enc
  refine returnsInHanded_of_row (C := Tryd.checked) (s := OpenSpec.ofChange Rows.evalVariablesSpec) ownE started (by kernel_rfl) Tryd.func7
    (witness_row_at (enc := enc) (C := Tryd.checked) false (laidWorldE os) #[.int .i64 0, .int .i64 0, .int .i64 0] rfl (by kernel_rfl) (by kernel_rfl) (by kernel_rfl)
      (OpenSpec.preRow_of_cond 8 hx (by kernel_rfl) (fun k hk => by cases hk) (by kernel_rfl) (laid_metE os _))) ?_
  intro W base args ds gs before hval0 hW _ _ _ hL _ _
  have ht : Tw W := tableE hL
  have hval : ∀ (j : Nat) t v, Tryd.f7.params[j]? = some t → args[j]? = some v → Value.okWide Tryd.prog W .any base t v := hval0
  have hW' := hW
  obtain ⟨p, q, hA0, hV, rfl, hfz, hnd⟩ := hW
  have hA : DataW.TrodAll enc Tryd.prog W 0 (fun _ => true) true Tryd.f7.params.toList args.toList ds p := hA0
  rw [Tryd.params7] at hA hval
  obtain ⟨v0, vs0, d0, ds0, p0, q0, hargs, rfl, rfl, h0, r0⟩ := trodAll_cons hA
  obtain ⟨v1, vs1, d1, ds1, p1, q1, rfl, rfl, rfl, h1, r1⟩ := trodAll_cons r0
  obtain ⟨v2, vs2, d2, ds2, p2, q2, rfl, rfl, rfl, h2, r2⟩ := trodAll_cons r1
  obtain ⟨rfl, rfl, rfl⟩ := trodAll_nil r2
  obtain rfl : args = #[v0, v1, v2] := by cases args; simp_all
  obtain ⟨rfl, rfl⟩ := trodVars_none hV
  obtain ⟨a0, rfl, rfl, rfl, w0⟩ := open_int Tryd.underlying3 (hval 0 3 v0 rfl rfl) h0
  obtain ⟨x0, y0⟩ := i64_of_wf w0
  obtain ⟨a1, rfl, rfl, rfl, w1⟩ := open_int Tryd.underlying3 (hval 1 3 v1 rfl rfl) h1
  obtain ⟨x1, y1⟩ := i64_of_wf w1
  obtain ⟨a2, rfl, rfl, rfl, w2⟩ := open_int Tryd.underlying3 (hval 2 3 v2 rfl rfl) h2
  obtain ⟨x2, y2⟩ := i64_of_wf w2
  clear hA0 hval0 hL
  simp only [List.append_nil] at hW'
  refine (walk_evalVariables a0 x0 y0 a1 x1 y1 a2 x2 y2 W ht).mono fun e W' ⟨he, bel⟩ => ?_
  subst he
  exact ⟨_, rfl, _, _, _, [], _, [], hW', trodAll_mk1 (shut_bool Tryd.underlying4 _), (trodAll_cons_mk (shut_int Tryd.underlying3 w0) (trodAll_cons_mk (shut_int Tryd.underlying3 w1) (trodAll_cons_mk (shut_int Tryd.underlying3 w2) trodAll_mk0))), rfl, Below.frame bel _, fun h => by cases h⟩

theorem evalVariables_said : Rows.EvalVariablesSaid :=
  OpenClaim.holds_of_cond 7 Tryd.f7 rfl rfl rfl rfl rfl rfl rfl ⟨rfl, rfl, rfl, rfl, rfl⟩ rfl rfl rfl rfl rfl (by kernel_rfl) Tryd.func7 (by kernel_rfl)
    (of_decide_eq_true (by kernel_rfl)) (by unfold Func.isWrapper; first | (rw [if_pos (by decide +kernel)]; kernel_rfl) | (rw [if_neg (by decide +kernel)]; exact ⟨rfl, rfl⟩))
    (fun os started H enc _ F => by rw [OpenClaim.pre_eq_preRow]; exact lifted_evalVariables os started H enc F)

theorem plain_evalVariables (f : FuncId) (fn : Func) (hf : Tryd.pinned.checked.prog.funcNamed "cnc/cnclaw08.EvalVariables" = some f) (hfn : Tryd.pinned.checked.prog.funcs[f]? = some fn) :
    false = Tryd.pinned.checked.prog.looks [] ∧ ∀ (j : Nat) t, fn.params[j]? = some t → Tryd.pinned.checked.prog.wantsStandIn t = false := by
  obtain rfl : f = 7 := Option.some.inj ((show Tryd.prog.funcNamed "cnc/cnclaw08.EvalVariables" = some 7 by kernel_rfl).symm.trans hf) |>.symm
  obtain rfl : fn = Tryd.f7 := (Option.some.inj (Tryd.func7.symm.trans hfn)).symm
  refine ⟨by kernel_rfl, fun j t ht => ?_⟩
  rw [Tryd.params7] at ht
  obtain rfl : t = 3 := by simpa using Array.mem_of_getElem? ht
  exact (show Tryd.prog.wantsStandIn 3 = false by kernel_rfl)

/-- The statement. -/
theorem evalVariables_card : Rows.EvalVariablesCardSaid :=
  Claim7.holds_tied_plain_at .later [] _ _ _ _ evalVariables_said (fun _ h => by cases h) (by kernel_rfl) (fun _ h => by cases h) evalVariables_row_tie rfl ⟨rfl, rfl⟩ (by kernel_rfl) rfl plain_evalVariables (by kernel_rfl)

end Go.Proofs.YtkfipjlknfinpaaDoor
