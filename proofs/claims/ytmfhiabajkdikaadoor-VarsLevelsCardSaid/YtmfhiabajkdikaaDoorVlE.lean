
/- The walk of step. -/
import Derived.Test.YtmfhiabajkdikaaDoorVlD
import Derived.OrdersHeld
set_option linter.unusedVariables false
set_option linter.unusedSimpArgs false
namespace Go.Proofs.YtmfhiabajkdikaaDoor
open Go.RowKit


namespace Vs
theorem step_1 (s : St) {a : A} (h : a.what = 1) : s.step a = s.set a.var a.val := by unfold St.step; rw [if_pos h]
theorem step_2 (s : St) {a : A} (h : a.what = 2) : s.step a = s.host a.var a.val := by unfold St.step; rw [if_neg (by omega), if_pos h]
theorem step_3 (s : St) {a : A} (h : a.what = 3) : s.step a = s.push a.ars := by unfold St.step; rw [if_neg (by omega), if_neg (by omega), if_pos h]
theorem step_4 (s : St) {a : A} (h : a.what = 4) : s.step a = s.pop := by unfold St.step; rw [if_neg (by omega), if_neg (by omega), if_neg (by omega), if_pos h]
theorem step_5 (s : St) {a : A} (h1 : a.what ≠ 1) (h2 : a.what ≠ 2) (h3 : a.what ≠ 3) (h4 : a.what ≠ 4) : s.step a = s := by unfold St.step; rw [if_neg h1, if_neg h2, if_neg h3, if_neg h4]
end Vs

theorem five {w : World} {b : Nat} {x n v : Int} {near : Bool} {sv : Value} {t : TypeId} (X : Bx w b #[.int .i64 x, .int .i64 n, .int .i64 v, .bool near, sv] t) :
    w.cell? ⟨b, 0, none⟩ = some (.int .i64 x) ∧ w.cell? ⟨b, 1, none⟩ = some (.int .i64 n) ∧ w.cell? ⟨b, 2, none⟩ = some (.int .i64 v) ∧ w.cell? ⟨b, 3, none⟩ = some (.bool near) ∧ w.cell? ⟨b, 4, none⟩ = some sv :=
  ⟨X.cell' 0 _ rfl, X.cell' 1 _ rfl, X.cell' 2 _ rfl, X.cell' 3 _ rfl, X.cell' 4 _ rfl⟩

section
variable {P : Program} {ops : Array Oper} {Q : Exit → Act → World → Prop} {md : Region.Mode} {S : World → Prop}
/-- One alone may come up. -/
theorem wpAnyH_one {i : Nat} {oi : Oper} {fuel : Nat} {listed : Array Bool} {a : Act} {w : World} (hi : ops[i]? = some oi) (hr : Region.ready md ops listed = [i]) (hg : oi.guard = none)
    (h : ∀ K : Act → World → Prop, (∀ a' w', S w' → wpAnyH P md ops Q S fuel (listed.setIfInBounds i true) a' w' → K a' w') → oi.wp P a w K Q) : wpAnyH P md ops Q S (fuel + 1) listed a w := by
  refine ⟨fun h0 => (by rw [h0] at hr; cases hr), fun j hj => ?_⟩
  rw [hr] at hj
  obtain rfl : j = i := by simpa using hj
  unfold wpOp
  rw [hi]
  simp only
  rw [if_pos (by simp [Region.wanted, hg])]
  exact .inl (h _ fun a' w' hS H => ⟨hS, H⟩)
end

set_option maxRecDepth 100000 in
set_option maxHeartbeats 4000000 in
theorem vlStep0 {C : Nat} {w0 w : World} {B L c B' L' c' : Nat} {s t : Vs.St} {x n v : Int} {near : Bool} {l : Vs.Ar} {sv : Value} (h : Pr w0 w B L c B' L' c' s t) (hv : ValsB C w0 sv l) (hC : C ≤ w0.heap.size) (hT : Tl w0)
    (n1 : -9223372036854775808 ≤ n) (n2 : n ≤ 9223372036854775807) (v1 : -9223372036854775808 ≤ v) (v2 : v ≤ 9223372036854775807) :
    Calls Tryd.prog 14 #[.pointer (some ⟨B, 0, none⟩), .pointer (some ⟨B', 0, none⟩), .agg #[.int .i64 0, .int .i64 n, .int .i64 v, .bool near, sv]] w (StepR w0 w B L B' L' (s.step ⟨0, n, v, near, l⟩) (t.step ⟨0, n, v, near, l⟩) (s = t) 0) := by
  have hsv : ∃ a l c, sv = .slice a l c := by obtain ⟨a, cap, e, _⟩ := hv; exact ⟨_, _, _, e⟩
  obtain ⟨N, hN⟩ : ∃ N, Vs.A.var ⟨0, n, v, near, l⟩ = N := ⟨_, rfl⟩
  obtain ⟨V, hV⟩ : ∃ V, Vs.A.val ⟨0, n, v, near, l⟩ = V := ⟨_, rfl⟩
  have V1 := Lib.hid (fun w => vlVar 0 n v near sv hsv n1 n2 N hN w)
  have BT := Lib.hid (fun w => betweenW v (-1000000000000001) 1000000000000001 v1 v2 (by decide) (by decide) (by decide) (by decide) w)
  have H := Lib.hid h
  obtain ⟨X, hX⟩ : ∃ X, s.get N = X := ⟨_, rfl⟩
  obtain ⟨X', hX'⟩ : ∃ X', t.get N = X' := ⟨_, rfl⟩
  obtain ⟨Y, hY⟩ : ∃ Y, Vs.gerr N = Y := ⟨_, rfl⟩
  have g1 : ∀ w', Qw w w' → Calls Tryd.prog 18 #[.pointer (some ⟨B, 0, none⟩), .int .i64 N] w' fun e w'' => e = .returned (.tuple #[.int .i64 X, .int .i64 Y]) ∧ Qw w' w'' := fun w' q => by subst hX hY; exact vaGet (h.kept q).p N
  have g2 : ∀ w', Qw w w' → Calls Tryd.prog 28 #[.pointer (some ⟨B', 0, none⟩), .int .i64 N] w' fun e w'' => e = .returned (.tuple #[.int .i64 X', .int .i64 Y]) ∧ Qw w' w'' := fun w' q => by subst hX' hY; exact vrGet (h.kept q).r N
  have G1 := Lib.hid g1
  have G2 := Lib.hid g2
  have ES : Hid (s.step ⟨0, n, v, near, l⟩ = s ∧ t.step ⟨0, n, v, near, l⟩ = t) := Lib.hid ⟨Vs.step_5 s (show (0 : Int) ≠ 1 by decide) (show (0 : Int) ≠ 2 by decide) (show (0 : Int) ≠ 3 by decide) (show (0 : Int) ≠ 4 by decide), Vs.step_5 t (show (0 : Int) ≠ 1 by decide) (show (0 : Int) ≠ 2 by decide) (show (0 : Int) ≠ 3 by decide) (show (0 : Int) ≠ 4 by decide)⟩
  have EX : Hid (s = t → X = X') := Lib.hid (fun e => by rw [← hX, ← hX', e])
  rw [ES.out.1, ES.out.2]
  clear g1 g2 hX hX' hY ES
  obtain ⟨sa, sl, sc, rfl⟩ := hsv
  cases near with
  | false =>
    obtain rfl : v = V := hV
    clear n1 n2 v1 v2 hN hv hT h
    by_cases hx : X = X'
    · subst hx
      go_enter Tryd.func14, Tryd.ntmps14
      go_wp2_with (first
        | (go_at_call 26; ((with_reducible refine (V1.out _).mono ?_); rintro e w1 ⟨rfl, q⟩; have X1 := (Bx.new w #[.int .i64 0, .int .i64 n, .int .i64 v, .bool false, .slice sa sl sc] 34).kept q; have HX1 := Lib.hid X1; obtain ⟨c0, c1, c2, c3, c4⟩ := five X1; have Q1 := Lib.hid ((Qw.al (Qw.refl w) _).trans q); clear q X1))
        | (go_at_call 18; ((with_reducible refine (G1.out _ Q1.out).mono ?_); rintro e w2 ⟨rfl, q⟩; have Q2 := Lib.hid (Q1.out.trans q); clear q))
        | (go_at_call 28; ((with_reducible refine (G2.out _ Q2.out).mono ?_); rintro e w3 ⟨rfl, q⟩; have Q3 := Lib.hid (Q2.out.trans q); clear q)))
      go_ret2
      exact ⟨B, L, c, L', c', _, rfl, fun _ => by simp, H.out.kept Q3.out, .inl ⟨rfl, .inl rfl⟩, .inl rfl, Tf.of Q3.out⟩
    · have hxf : (X == X') = false := beq_eq_false_iff_ne.2 hx
      have HX := Lib.hid hx
      clear hx
      go_enter Tryd.func14, Tryd.ntmps14
      go_wp2_with (first
        | (go_at_call 26; ((with_reducible refine (V1.out _).mono ?_); rintro e w1 ⟨rfl, q⟩; have X1 := (Bx.new w #[.int .i64 0, .int .i64 n, .int .i64 v, .bool false, .slice sa sl sc] 34).kept q; have HX1 := Lib.hid X1; obtain ⟨c0, c1, c2, c3, c4⟩ := five X1; have Q1 := Lib.hid ((Qw.al (Qw.refl w) _).trans q); clear q X1))
        | (go_at_call 18; ((with_reducible refine (G1.out _ Q1.out).mono ?_); rintro e w2 ⟨rfl, q⟩; have Q2 := Lib.hid (Q1.out.trans q); clear q))
        | (go_at_call 28; ((with_reducible refine (G2.out _ Q2.out).mono ?_); rintro e w3 ⟨rfl, q⟩; have Q3 := Lib.hid (Q2.out.trans q); clear q)))
      go_ret2
      exact ⟨B, L, c, L', c', _, rfl, fun e => absurd (EX.out e) HX.out, H.out.kept Q3.out, .inl ⟨rfl, .inl rfl⟩, .inl rfl, Tf.of Q3.out⟩
  | true =>
    have Z : Hid (-1000000000000001 + v % (1000000000000001 - -1000000000000001 + 1) = V) := Lib.hid hV
    clear n1 n2 v1 v2 hN hv hT h
    by_cases hx : X = X'
    · subst hx
      go_enter Tryd.func14, Tryd.ntmps14
      go_wp2_with (first
        | (go_at_call 26; ((with_reducible refine (V1.out _).mono ?_); rintro e w1 ⟨rfl, q⟩; have X1 := (Bx.new w #[.int .i64 0, .int .i64 n, .int .i64 v, .bool true, .slice sa sl sc] 34).kept q; have HX1 := Lib.hid X1; obtain ⟨c0, c1, c2, c3, c4⟩ := five X1; have Q1 := Lib.hid ((Qw.al (Qw.refl w) _).trans q); clear q X1))
        | (go_at_call 22; ((with_reducible refine (BT.out _).mono ?_); rintro e wb ⟨rfl, rfl⟩; rw [Z.out]))
        | (go_at_call 18; ((with_reducible refine (G1.out _ Q1.out).mono ?_); rintro e w2 ⟨rfl, q⟩; have Q2 := Lib.hid (Q1.out.trans q); clear q))
        | (go_at_call 28; ((with_reducible refine (G2.out _ Q2.out).mono ?_); rintro e w3 ⟨rfl, q⟩; have Q3 := Lib.hid (Q2.out.trans q); clear q)))
      go_ret2
      exact ⟨B, L, c, L', c', _, rfl, fun _ => by simp, H.out.kept Q3.out, .inl ⟨rfl, .inl rfl⟩, .inl rfl, Tf.of Q3.out⟩
    · have hxf : (X == X') = false := beq_eq_false_iff_ne.2 hx
      have HX := Lib.hid hx
      clear hx
      go_enter Tryd.func14, Tryd.ntmps14
      go_wp2_with (first
        | (go_at_call 26; ((with_reducible refine (V1.out _).mono ?_); rintro e w1 ⟨rfl, q⟩; have X1 := (Bx.new w #[.int .i64 0, .int .i64 n, .int .i64 v, .bool true, .slice sa sl sc] 34).kept q; have HX1 := Lib.hid X1; obtain ⟨c0, c1, c2, c3, c4⟩ := five X1; have Q1 := Lib.hid ((Qw.al (Qw.refl w) _).trans q); clear q X1))
        | (go_at_call 22; ((with_reducible refine (BT.out _).mono ?_); rintro e wb ⟨rfl, rfl⟩; rw [Z.out]))
        | (go_at_call 18; ((with_reducible refine (G1.out _ Q1.out).mono ?_); rintro e w2 ⟨rfl, q⟩; have Q2 := Lib.hid (Q1.out.trans q); clear q))
        | (go_at_call 28; ((with_reducible refine (G2.out _ Q2.out).mono ?_); rintro e w3 ⟨rfl, q⟩; have Q3 := Lib.hid (Q2.out.trans q); clear q)))
      go_ret2
      exact ⟨B, L, c, L', c', _, rfl, fun e => absurd (EX.out e) HX.out, H.out.kept Q3.out, .inl ⟨rfl, .inl rfl⟩, .inl rfl, Tf.of Q3.out⟩

set_option maxRecDepth 100000 in
set_option maxHeartbeats 4000000 in
theorem vlStep1 {C : Nat} {w0 w : World} {B L c B' L' c' : Nat} {s t : Vs.St} {x n v : Int} {near : Bool} {l : Vs.Ar} {sv : Value} (h : Pr w0 w B L c B' L' c' s t) (hv : ValsB C w0 sv l) (hC : C ≤ w0.heap.size) (hT : Tl w0)
    (n1 : -9223372036854775808 ≤ n) (n2 : n ≤ 9223372036854775807) (v1 : -9223372036854775808 ≤ v) (v2 : v ≤ 9223372036854775807) :
    Calls Tryd.prog 14 #[.pointer (some ⟨B, 0, none⟩), .pointer (some ⟨B', 0, none⟩), .agg #[.int .i64 1, .int .i64 n, .int .i64 v, .bool near, sv]] w (StepR w0 w B L B' L' (s.step ⟨1, n, v, near, l⟩) (t.step ⟨1, n, v, near, l⟩) (s = t) 1) := by
  have hsv : ∃ a l c, sv = .slice a l c := by obtain ⟨a, cap, e, _⟩ := hv; exact ⟨_, _, _, e⟩
  obtain ⟨N, hN⟩ : ∃ N, Vs.A.var ⟨1, n, v, near, l⟩ = N := ⟨_, rfl⟩
  obtain ⟨V, hV⟩ : ∃ V, Vs.A.val ⟨1, n, v, near, l⟩ = V := ⟨_, rfl⟩
  have V1 := Lib.hid (fun w => vlVar 1 n v near sv hsv n1 n2 N hN w)
  have BT := Lib.hid (fun w => betweenW v (-1000000000000001) 1000000000000001 v1 v2 (by decide) (by decide) (by decide) (by decide) w)
  have H := Lib.hid h
  obtain ⟨Y, hY⟩ : ∃ Y, Vs.serr N V = Y := ⟨_, rfl⟩
  have s1 : ∀ w', Qw w w' → Calls Tryd.prog 21 #[.pointer (some ⟨B, 0, none⟩), .int .i64 N, .int .i64 V] w' fun e w'' => e = .returned (.int .i64 Y) ∧ Pst w'' B L c (s.set N V) ∧ Ty B L w' w'' := fun w' q => by subst hY; exact vaSet (h.kept q).p N V
  have s2 : ∀ w' w'', Qw w w' → Ty B L w' w'' → Calls Tryd.prog 30 #[.pointer (some ⟨B', 0, none⟩), .int .i64 N, .int .i64 V] w'' fun e w3 => e = .returned (.int .i64 Y) ∧ Rst w3 B' L' c' (t.set N V) ∧ Ty B' L' w'' w3 := fun w' w'' q q2 => by subst hY; exact vrSet ((h.kept q).r1 q2) N V
  have S1 := Lib.hid s1
  have S2 := Lib.hid s2
  have ES : s.step ⟨1, n, v, near, l⟩ = s.set N V ∧ t.step ⟨1, n, v, near, l⟩ = t.set N V := ⟨by rw [Vs.step_1 s rfl, hN, hV], by rw [Vs.step_1 t rfl, hN, hV]⟩
  rw [ES.1, ES.2]
  generalize s.set N V = sn at *
  generalize t.set N V = tn at *
  clear s1 s2 hY ES
  obtain ⟨sa, sl, sc, rfl⟩ := hsv
  cases near with
  | false =>
    obtain rfl : v = V := hV
    clear n1 n2 v1 v2 hN hv hT h
    go_enter Tryd.func14, Tryd.ntmps14
    go_wp2_with (first
      | (go_at_call 26; ((with_reducible refine (V1.out _).mono ?_); rintro e w1 ⟨rfl, q⟩; have X1 := (Bx.new w #[.int .i64 1, .int .i64 n, .int .i64 v, .bool false, .slice sa sl sc] 34).kept q; have HX1 := Lib.hid X1; obtain ⟨c0, c1, c2, c3, c4⟩ := five X1; have Q1 := Lib.hid ((Qw.al (Qw.refl w) _).trans q); clear q X1))
      | (go_at_call 21; ((with_reducible refine (S1.out _ Q1.out).mono ?_); rintro e w2 ⟨rfl, P, T⟩; have P2 := Lib.hid P; have T2 := Lib.hid T; clear P T))
      | (go_at_call 30; ((with_reducible refine (S2.out _ _ Q1.out T2.out).mono ?_); rintro e w3 ⟨rfl, P, T⟩; have P3 := Lib.hid P; have T3 := Lib.hid T; clear P T)))
    go_ret2
    have K := (H.out.kept Q1.out).two T2.out P2.out (.inl rfl) T3.out P3.out (.inl rfl)
    exact ⟨B, L, c, L', c', _, rfl, fun _ => by simp, K.1, .inl ⟨rfl, .inl rfl⟩, .inl rfl, (Tf.of Q1.out).trans K.2.2⟩
  | true =>
    have Z : Hid (-1000000000000001 + v % (1000000000000001 - -1000000000000001 + 1) = V) := Lib.hid hV
    clear n1 n2 v1 v2 hN hv hT h
    go_enter Tryd.func14, Tryd.ntmps14
    go_wp2_with (first
      | (go_at_call 26; ((with_reducible refine (V1.out _).mono ?_); rintro e w1 ⟨rfl, q⟩; have X1 := (Bx.new w #[.int .i64 1, .int .i64 n, .int .i64 v, .bool true, .slice sa sl sc] 34).kept q; have HX1 := Lib.hid X1; obtain ⟨c0, c1, c2, c3, c4⟩ := five X1; have Q1 := Lib.hid ((Qw.al (Qw.refl w) _).trans q); clear q X1))
      | (go_at_call 22; ((with_reducible refine (BT.out _).mono ?_); rintro e wb ⟨rfl, rfl⟩; rw [Z.out]))
      | (go_at_call 21; ((with_reducible refine (S1.out _ Q1.out).mono ?_); rintro e w2 ⟨rfl, P, T⟩; have P2 := Lib.hid P; have T2 := Lib.hid T; clear P T))
      | (go_at_call 30; ((with_reducible refine (S2.out _ _ Q1.out T2.out).mono ?_); rintro e w3 ⟨rfl, P, T⟩; have P3 := Lib.hid P; have T3 := Lib.hid T; clear P T)))
    go_ret2
    have K := (H.out.kept Q1.out).two T2.out P2.out (.inl rfl) T3.out P3.out (.inl rfl)
    exact ⟨B, L, c, L', c', _, rfl, fun _ => by simp, K.1, .inl ⟨rfl, .inl rfl⟩, .inl rfl, (Tf.of Q1.out).trans K.2.2⟩

set_option maxRecDepth 100000 in
set_option maxHeartbeats 4000000 in
theorem vlStep2 {C : Nat} {w0 w : World} {B L c B' L' c' : Nat} {s t : Vs.St} {x n v : Int} {near : Bool} {l : Vs.Ar} {sv : Value} (h : Pr w0 w B L c B' L' c' s t) (hv : ValsB C w0 sv l) (hC : C ≤ w0.heap.size) (hT : Tl w0)
    (n1 : -9223372036854775808 ≤ n) (n2 : n ≤ 9223372036854775807) (v1 : -9223372036854775808 ≤ v) (v2 : v ≤ 9223372036854775807) :
    Calls Tryd.prog 14 #[.pointer (some ⟨B, 0, none⟩), .pointer (some ⟨B', 0, none⟩), .agg #[.int .i64 2, .int .i64 n, .int .i64 v, .bool near, sv]] w (StepR w0 w B L B' L' (s.step ⟨2, n, v, near, l⟩) (t.step ⟨2, n, v, near, l⟩) (s = t) 2) := by
  have hsv : ∃ a l c, sv = .slice a l c := by obtain ⟨a, cap, e, _⟩ := hv; exact ⟨_, _, _, e⟩
  obtain ⟨N, hN⟩ : ∃ N, Vs.A.var ⟨2, n, v, near, l⟩ = N := ⟨_, rfl⟩
  obtain ⟨V, hV⟩ : ∃ V, Vs.A.val ⟨2, n, v, near, l⟩ = V := ⟨_, rfl⟩
  have V1 := Lib.hid (fun w => vlVar 2 n v near sv hsv n1 n2 N hN w)
  have BT := Lib.hid (fun w => betweenW v (-1000000000000001) 1000000000000001 v1 v2 (by decide) (by decide) (by decide) (by decide) w)
  have H := Lib.hid h
  obtain ⟨Y, hY⟩ : ∃ Y, Vs.herr N V = Y := ⟨_, rfl⟩
  have s1 : ∀ w', Qw w w' → Calls Tryd.prog 31 #[.pointer (some ⟨B, 0, none⟩), .int .i64 N, .int .i64 V] w' fun e w'' => e = .returned (.int .i64 Y) ∧ Pst w'' B L c (s.host N V) ∧ Ty B L w' w'' := fun w' q => by subst hY; exact vaHost (h.kept q).p N V
  have s2 : ∀ w' w'', Qw w w' → Ty B L w' w'' → Calls Tryd.prog 32 #[.pointer (some ⟨B', 0, none⟩), .int .i64 N, .int .i64 V] w'' fun e w3 => e = .returned (.int .i64 Y) ∧ Rst w3 B' L' c' (t.host N V) ∧ Ty B' L' w'' w3 := fun w' w'' q q2 => by subst hY; exact vrHost ((h.kept q).r1 q2) N V
  have S1 := Lib.hid s1
  have S2 := Lib.hid s2
  have ES : s.step ⟨2, n, v, near, l⟩ = s.host N V ∧ t.step ⟨2, n, v, near, l⟩ = t.host N V := ⟨by rw [Vs.step_2 s rfl, hN, hV], by rw [Vs.step_2 t rfl, hN, hV]⟩
  rw [ES.1, ES.2]
  generalize s.host N V = sn at *
  generalize t.host N V = tn at *
  clear s1 s2 hY ES
  obtain ⟨sa, sl, sc, rfl⟩ := hsv
  cases near with
  | false =>
    obtain rfl : v = V := hV
    clear n1 n2 v1 v2 hN hv hT h
    go_enter Tryd.func14, Tryd.ntmps14
    go_wp2_with (first
      | (go_at_call 26; ((with_reducible refine (V1.out _).mono ?_); rintro e w1 ⟨rfl, q⟩; have X1 := (Bx.new w #[.int .i64 2, .int .i64 n, .int .i64 v, .bool false, .slice sa sl sc] 34).kept q; have HX1 := Lib.hid X1; obtain ⟨c0, c1, c2, c3, c4⟩ := five X1; have Q1 := Lib.hid ((Qw.al (Qw.refl w) _).trans q); clear q X1))
      | (go_at_call 31; ((with_reducible refine (S1.out _ Q1.out).mono ?_); rintro e w2 ⟨rfl, P, T⟩; have P2 := Lib.hid P; have T2 := Lib.hid T; clear P T))
      | (go_at_call 32; ((with_reducible refine (S2.out _ _ Q1.out T2.out).mono ?_); rintro e w3 ⟨rfl, P, T⟩; have P3 := Lib.hid P; have T3 := Lib.hid T; clear P T)))
    go_ret2
    have K := (H.out.kept Q1.out).two T2.out P2.out (.inl rfl) T3.out P3.out (.inl rfl)
    exact ⟨B, L, c, L', c', _, rfl, fun _ => by simp, K.1, .inl ⟨rfl, .inl rfl⟩, .inl rfl, (Tf.of Q1.out).trans K.2.2⟩
  | true =>
    have Z : Hid (-1000000000000001 + v % (1000000000000001 - -1000000000000001 + 1) = V) := Lib.hid hV
    clear n1 n2 v1 v2 hN hv hT h
    go_enter Tryd.func14, Tryd.ntmps14
    go_wp2_with (first
      | (go_at_call 26; ((with_reducible refine (V1.out _).mono ?_); rintro e w1 ⟨rfl, q⟩; have X1 := (Bx.new w #[.int .i64 2, .int .i64 n, .int .i64 v, .bool true, .slice sa sl sc] 34).kept q; have HX1 := Lib.hid X1; obtain ⟨c0, c1, c2, c3, c4⟩ := five X1; have Q1 := Lib.hid ((Qw.al (Qw.refl w) _).trans q); clear q X1))
      | (go_at_call 22; ((with_reducible refine (BT.out _).mono ?_); rintro e wb ⟨rfl, rfl⟩; rw [Z.out]))
      | (go_at_call 31; ((with_reducible refine (S1.out _ Q1.out).mono ?_); rintro e w2 ⟨rfl, P, T⟩; have P2 := Lib.hid P; have T2 := Lib.hid T; clear P T))
      | (go_at_call 32; ((with_reducible refine (S2.out _ _ Q1.out T2.out).mono ?_); rintro e w3 ⟨rfl, P, T⟩; have P3 := Lib.hid P; have T3 := Lib.hid T; clear P T)))
    go_ret2
    have K := (H.out.kept Q1.out).two T2.out P2.out (.inl rfl) T3.out P3.out (.inl rfl)
    exact ⟨B, L, c, L', c', _, rfl, fun _ => by simp, K.1, .inl ⟨rfl, .inl rfl⟩, .inl rfl, (Tf.of Q1.out).trans K.2.2⟩

set_option maxRecDepth 100000 in
set_option maxHeartbeats 4000000 in
theorem vlStep4 {C : Nat} {w0 w : World} {B L c B' L' c' : Nat} {s t : Vs.St} {x n v : Int} {near : Bool} {l : Vs.Ar} {sv : Value} (h : Pr w0 w B L c B' L' c' s t) (hv : ValsB C w0 sv l) (hC : C ≤ w0.heap.size) (hT : Tl w0)
    (n1 : -9223372036854775808 ≤ n) (n2 : n ≤ 9223372036854775807) (v1 : -9223372036854775808 ≤ v) (v2 : v ≤ 9223372036854775807) :
    Calls Tryd.prog 14 #[.pointer (some ⟨B, 0, none⟩), .pointer (some ⟨B', 0, none⟩), .agg #[.int .i64 4, .int .i64 n, .int .i64 v, .bool near, sv]] w (StepR w0 w B L B' L' (s.step ⟨4, n, v, near, l⟩) (t.step ⟨4, n, v, near, l⟩) (s = t) 4) := by
  have hsv : ∃ a l c, sv = .slice a l c := by obtain ⟨a, cap, e, _⟩ := hv; exact ⟨_, _, _, e⟩
  obtain ⟨N, hN⟩ : ∃ N, Vs.A.var ⟨4, n, v, near, l⟩ = N := ⟨_, rfl⟩
  obtain ⟨V, hV⟩ : ∃ V, Vs.A.val ⟨4, n, v, near, l⟩ = V := ⟨_, rfl⟩
  have V1 := Lib.hid (fun w => vlVar 4 n v near sv hsv n1 n2 N hN w)
  have BT := Lib.hid (fun w => betweenW v (-1000000000000001) 1000000000000001 v1 v2 (by decide) (by decide) (by decide) (by decide) w)
  have H := Lib.hid h
  obtain ⟨Y, hY⟩ : ∃ Y, Vs.St.poperr s = Y := ⟨_, rfl⟩
  obtain ⟨Y', hY'⟩ : ∃ Y', Vs.St.poperr t = Y' := ⟨_, rfl⟩
  have s1 : ∀ w', Qw w w' → Calls Tryd.prog 23 #[.pointer (some ⟨B, 0, none⟩)] w' fun e w'' => e = .returned (.int .i64 Y) ∧ (∃ L1 c1, Pst w'' B L1 c1 s.pop ∧ (L1 = L ∨ w'.heap.size ≤ L1)) ∧ Ty B L w' w'' := fun w' q => by subst hY; exact vaPop (h.kept q).p
  have s2 : ∀ w' w'', Qw w w' → Ty B L w' w'' → Calls Tryd.prog 35 #[.pointer (some ⟨B', 0, none⟩)] w'' fun e w3 => e = .returned (.int .i64 Y') ∧ (∃ L1 c1, Rst w3 B' L1 c1 t.pop ∧ (L1 = L' ∨ w''.heap.size ≤ L1)) ∧ Ty B' L' w'' w3 := fun w' w'' q q2 => by subst hY'; exact vrPop ((h.kept q).r1 q2)
  have S1 := Lib.hid s1
  have S2 := Lib.hid s2
  have ES : s.step ⟨4, n, v, near, l⟩ = s.pop ∧ t.step ⟨4, n, v, near, l⟩ = t.pop := ⟨Vs.step_4 s rfl, Vs.step_4 t rfl⟩
  rw [ES.1, ES.2]
  have EX : Hid (s = t → Y = Y') := Lib.hid (fun e => by rw [← hY, ← hY', e])
  clear s1 s2 hY hY' ES
  obtain ⟨sa, sl, sc, rfl⟩ := hsv
  cases near with
  | false =>
    obtain rfl : v = V := hV
    clear n1 n2 v1 v2 hN hv hT h
    by_cases hx : Y = Y'
    · subst hx
      go_enter Tryd.func14, Tryd.ntmps14
      go_wp2_with (first
        | (go_at_call 26; ((with_reducible refine (V1.out _).mono ?_); rintro e w1 ⟨rfl, q⟩; have X1 := (Bx.new w #[.int .i64 4, .int .i64 n, .int .i64 v, .bool false, .slice sa sl sc] 34).kept q; have HX1 := Lib.hid X1; obtain ⟨c0, c1, c2, c3, c4⟩ := five X1; have Q1 := Lib.hid ((Qw.al (Qw.refl w) _).trans q); clear q X1))
        | (go_at_call 23; ((with_reducible refine (S1.out _ Q1.out).mono ?_); rintro e w2 ⟨rfl, ⟨L1, c1, P, hL1⟩, T⟩; have P2 := Lib.hid P; have T2 := Lib.hid T; have N1 := Lib.hid hL1; clear P T hL1))
        | (go_at_call 35; ((with_reducible refine (S2.out _ _ Q1.out T2.out).mono ?_); rintro e w3 ⟨rfl, ⟨L2, c2, P, hL2⟩, T⟩; have P3 := Lib.hid P; have T3 := Lib.hid T; have N2 := Lib.hid hL2; clear P T hL2)))
      go_ret2
      have K := (H.out.kept Q1.out).two T2.out P2.out N1.out T3.out P3.out N2.out
      exact ⟨B, L1, c1, L2, c2, _, rfl, fun _ => by simp, K.1, .inl ⟨rfl, N1.out.imp id (Nat.le_trans Q1.out.size)⟩, K.2.1.imp id (Nat.le_trans Q1.out.size), (Tf.of Q1.out).trans K.2.2⟩
    · have hxf : (Y == Y') = false := beq_eq_false_iff_ne.2 hx
      have HX := Lib.hid hx
      clear hx
      go_enter Tryd.func14, Tryd.ntmps14
      go_wp2_with (first
        | (go_at_call 26; ((with_reducible refine (V1.out _).mono ?_); rintro e w1 ⟨rfl, q⟩; have X1 := (Bx.new w #[.int .i64 4, .int .i64 n, .int .i64 v, .bool false, .slice sa sl sc] 34).kept q; have HX1 := Lib.hid X1; obtain ⟨c0, c1, c2, c3, c4⟩ := five X1; have Q1 := Lib.hid ((Qw.al (Qw.refl w) _).trans q); clear q X1))
        | (go_at_call 23; ((with_reducible refine (S1.out _ Q1.out).mono ?_); rintro e w2 ⟨rfl, ⟨L1, c1, P, hL1⟩, T⟩; have P2 := Lib.hid P; have T2 := Lib.hid T; have N1 := Lib.hid hL1; clear P T hL1))
        | (go_at_call 35; ((with_reducible refine (S2.out _ _ Q1.out T2.out).mono ?_); rintro e w3 ⟨rfl, ⟨L2, c2, P, hL2⟩, T⟩; have P3 := Lib.hid P; have T3 := Lib.hid T; have N2 := Lib.hid hL2; clear P T hL2)))
      go_ret2
      have K := (H.out.kept Q1.out).two T2.out P2.out N1.out T3.out P3.out N2.out
      exact ⟨B, L1, c1, L2, c2, _, rfl, fun e => absurd (EX.out e) HX.out, K.1, .inl ⟨rfl, N1.out.imp id (Nat.le_trans Q1.out.size)⟩, K.2.1.imp id (Nat.le_trans Q1.out.size), (Tf.of Q1.out).trans K.2.2⟩
  | true =>
    have Z : Hid (-1000000000000001 + v % (1000000000000001 - -1000000000000001 + 1) = V) := Lib.hid hV
    clear n1 n2 v1 v2 hN hv hT h
    by_cases hx : Y = Y'
    · subst hx
      go_enter Tryd.func14, Tryd.ntmps14
      go_wp2_with (first
        | (go_at_call 26; ((with_reducible refine (V1.out _).mono ?_); rintro e w1 ⟨rfl, q⟩; have X1 := (Bx.new w #[.int .i64 4, .int .i64 n, .int .i64 v, .bool true, .slice sa sl sc] 34).kept q; have HX1 := Lib.hid X1; obtain ⟨c0, c1, c2, c3, c4⟩ := five X1; have Q1 := Lib.hid ((Qw.al (Qw.refl w) _).trans q); clear q X1))
        | (go_at_call 22; ((with_reducible refine (BT.out _).mono ?_); rintro e wb ⟨rfl, rfl⟩; rw [Z.out]))
        | (go_at_call 23; ((with_reducible refine (S1.out _ Q1.out).mono ?_); rintro e w2 ⟨rfl, ⟨L1, c1, P, hL1⟩, T⟩; have P2 := Lib.hid P; have T2 := Lib.hid T; have N1 := Lib.hid hL1; clear P T hL1))
        | (go_at_call 35; ((with_reducible refine (S2.out _ _ Q1.out T2.out).mono ?_); rintro e w3 ⟨rfl, ⟨L2, c2, P, hL2⟩, T⟩; have P3 := Lib.hid P; have T3 := Lib.hid T; have N2 := Lib.hid hL2; clear P T hL2)))
      go_ret2
      have K := (H.out.kept Q1.out).two T2.out P2.out N1.out T3.out P3.out N2.out
      exact ⟨B, L1, c1, L2, c2, _, rfl, fun _ => by simp, K.1, .inl ⟨rfl, N1.out.imp id (Nat.le_trans Q1.out.size)⟩, K.2.1.imp id (Nat.le_trans Q1.out.size), (Tf.of Q1.out).trans K.2.2⟩
    · have hxf : (Y == Y') = false := beq_eq_false_iff_ne.2 hx
      have HX := Lib.hid hx
      clear hx
      go_enter Tryd.func14, Tryd.ntmps14
      go_wp2_with (first
        | (go_at_call 26; ((with_reducible refine (V1.out _).mono ?_); rintro e w1 ⟨rfl, q⟩; have X1 := (Bx.new w #[.int .i64 4, .int .i64 n, .int .i64 v, .bool true, .slice sa sl sc] 34).kept q; have HX1 := Lib.hid X1; obtain ⟨c0, c1, c2, c3, c4⟩ := five X1; have Q1 := Lib.hid ((Qw.al (Qw.refl w) _).trans q); clear q X1))
        | (go_at_call 22; ((with_reducible refine (BT.out _).mono ?_); rintro e wb ⟨rfl, rfl⟩; rw [Z.out]))
        | (go_at_call 23; ((with_reducible refine (S1.out _ Q1.out).mono ?_); rintro e w2 ⟨rfl, ⟨L1, c1, P, hL1⟩, T⟩; have P2 := Lib.hid P; have T2 := Lib.hid T; have N1 := Lib.hid hL1; clear P T hL1))
        | (go_at_call 35; ((with_reducible refine (S2.out _ _ Q1.out T2.out).mono ?_); rintro e w3 ⟨rfl, ⟨L2, c2, P, hL2⟩, T⟩; have P3 := Lib.hid P; have T3 := Lib.hid T; have N2 := Lib.hid hL2; clear P T hL2)))
      go_ret2
      have K := (H.out.kept Q1.out).two T2.out P2.out N1.out T3.out P3.out N2.out
      exact ⟨B, L1, c1, L2, c2, _, rfl, fun e => absurd (EX.out e) HX.out, K.1, .inl ⟨rfl, N1.out.imp id (Nat.le_trans Q1.out.size)⟩, K.2.1.imp id (Nat.le_trans Q1.out.size), (Tf.of Q1.out).trans K.2.2⟩

set_option maxRecDepth 100000 in
set_option maxHeartbeats 4000000 in
theorem vlStep3 {C : Nat} {w0 w : World} {B L c B' L' c' : Nat} {s t : Vs.St} {x n v : Int} {near : Bool} {l : Vs.Ar} {sv : Value} (h : Pr w0 w B L c B' L' c' s t) (hv : ValsB C w0 sv l) (hC : C ≤ w0.heap.size) (hT : Tl w0)
    (n1 : -9223372036854775808 ≤ n) (n2 : n ≤ 9223372036854775807) (v1 : -9223372036854775808 ≤ v) (v2 : v ≤ 9223372036854775807) :
    Calls Tryd.prog 14 #[.pointer (some ⟨B, 0, none⟩), .pointer (some ⟨B', 0, none⟩), .agg #[.int .i64 3, .int .i64 n, .int .i64 v, .bool near, sv]] w (StepR w0 w B L B' L' (s.step ⟨3, n, v, near, l⟩) (t.step ⟨3, n, v, near, l⟩) (s = t) 3) := by
  have hsv : ∃ a l c, sv = .slice a l c := by obtain ⟨a, cap, e, _⟩ := hv; exact ⟨_, _, _, e⟩
  obtain ⟨N, hN⟩ : ∃ N, Vs.A.var ⟨3, n, v, near, l⟩ = N := ⟨_, rfl⟩
  obtain ⟨V, hV⟩ : ∃ V, Vs.A.val ⟨3, n, v, near, l⟩ = V := ⟨_, rfl⟩
  have V1 := Lib.hid (fun w => vlVar 3 n v near sv hsv n1 n2 N hN w)
  have BT := Lib.hid (fun w => betweenW v (-1000000000000001) 1000000000000001 v1 v2 (by decide) (by decide) (by decide) (by decide) w)
  have H := Lib.hid h
  obtain ⟨Y, hY⟩ : ∃ Y, Vs.perr s (Vs.A.ars ⟨3, n, v, near, l⟩) = Y := ⟨_, rfl⟩
  obtain ⟨Y', hY'⟩ : ∃ Y', Vs.perr t (Vs.A.ars ⟨3, n, v, near, l⟩) = Y' := ⟨_, rfl⟩
  have hu : ActV C w0 (.agg #[.int .i64 3, .int .i64 n, .int .i64 v, .bool near, sv]) ⟨3, n, v, near, l⟩ := ⟨sv, rfl, hv, n1, n2, v1, v2⟩
  have ES : s.step ⟨3, n, v, near, l⟩ = s.push (Vs.A.ars ⟨3, n, v, near, l⟩) ∧ t.step ⟨3, n, v, near, l⟩ = t.push (Vs.A.ars ⟨3, n, v, near, l⟩) := ⟨Vs.step_3 s rfl, Vs.step_3 t rfl⟩
  rw [ES.1, ES.2]
  have a1 : ∀ w', Qw w0 w' → Calls Tryd.prog 33 #[.agg #[.int .i64 3, .int .i64 n, .int .i64 v, .bool near, sv]] w' fun e w'' => (∃ sv', e = .returned sv' ∧ ValsB w''.heap.size w'' sv' (Vs.A.ars ⟨3, n, v, near, l⟩)) ∧ Qw w' w'' := fun w' q => vlArs (hu.kept q hC) (Nat.le_trans hC q.size)
  generalize Vs.A.ars ⟨3, n, v, near, l⟩ = ar at *
  have s1 : ∀ w' sv', Qw w w' → ValsB w'.heap.size w' sv' ar → Calls Tryd.prog 20 #[.pointer (some ⟨B, 0, none⟩), sv'] w' fun e w'' => e = .returned (.int .i64 Y) ∧ (∃ L1 c1, Pst w'' B L1 c1 (s.push ar) ∧ (L1 = L ∨ w'.heap.size ≤ L1)) ∧ Ty B L w' w'' := fun w' sv' q hv' => by subst hY; exact vaPush (h.kept q).p hv' (hT.kept (h.kept q).q)
  have s2 : ∀ w' w'' w3 sv', Qw w w' → Ty B L w' w'' → Qw w'' w3 → ValsB w3.heap.size w3 sv' ar → Calls Tryd.prog 34 #[.pointer (some ⟨B', 0, none⟩), sv'] w3 fun e w4 => e = .returned (.int .i64 Y') ∧ (∃ L1 c1, Rst w4 B' L1 c1 (t.push ar) ∧ (L1 = L' ∨ w3.heap.size ≤ L1)) ∧ Ty B' L' w3 w4 := fun w' w'' w3 sv' q q2 q3 hv' => by subst hY'; exact vrPush (((h.kept q).r1 q2).kept q3) hv'
  have q2 : ∀ w' w'', Qw w w' → Ty B L w' w'' → Qw w0 w'' := fun w' w'' q q2 => (h.kept q).q.tyn q2 h.b.1 h.b.2.1
  have q1 : ∀ w', Qw w w' → Qw w0 w' := fun w' q => (h.kept q).q
  have A1 := Lib.hid a1
  have HBL : Hid (w.heap.size ≠ B ∧ w.heap.size ≠ L ∧ w.heap.size ≠ B' ∧ w.heap.size ≠ L') := Lib.hid ⟨by have := h.p.ltB; omega, by have := h.p.ltL; omega, by have := h.r.ltB; omega, by have := h.r.ltL; omega⟩
  have S1 := Lib.hid s1
  have S2 := Lib.hid s2
  have T0 := Lib.hid q1
  have T1 := Lib.hid q2
  have EX : Hid (s = t → Y = Y') := Lib.hid (fun e => by rw [← hY, ← hY', e])
  clear a1 s1 s2 q1 q2 hY hY' ES hu
  obtain ⟨sa, sl, sc, rfl⟩ := hsv
  cases near with
  | false =>
    obtain rfl : v = V := hV
    clear n1 n2 v1 v2 hN hv hT h
    by_cases hx : Y = Y'
    · subst hx
      go_enter Tryd.func14, Tryd.ntmps14
      go_wp2_with (first | (go_at_call 26; ((with_reducible refine (V1.out _).mono ?_); rintro e w1 ⟨rfl, q⟩; have X1 := (Bx.new w #[.int .i64 3, .int .i64 n, .int .i64 v, .bool false, .slice sa sl sc] 34).kept q; have HX1 := Lib.hid X1; obtain ⟨c0, c1, c2, c3, c4⟩ := five X1; have Q1 := Lib.hid ((Qw.al (Qw.refl w) _).trans q); clear q X1)))
      obtain ⟨S, hS⟩ : ∃ S : World → Prop, ∀ w', S w' ↔ Bx w' w.heap.size #[.int .i64 3, .int .i64 n, .int .i64 v, .bool false, .slice sa sl sc] 34 := ⟨_, fun _ => Iff.rfl⟩
      have F := Lib.hid (fun w' (q : S w') => five ((hS w').1 q))
      have HS := Lib.hid hS
      clear hS c0 c1 c2 c3 c4
      refine wp_region_held (S := S) (by kernel_rfl) ?_
      change wpAnyH _ _ _ _ _ _ _ _ (World.drew w1)
      have hSS := (HS.out (World.drew w1)).2 (Bx.dr HX1.out)
      refine wpAnyH_take (i := 0) (v := ?_) rfl (by kernel_rfl) (by kernel_rfl) (by kernel_rfl) (fun _ _ _ h => h) (Or.inl ⟨by rfl, ?_⟩) hSS ?_
      rotate_left 1
      · intro wS hwS
        go_simp
        try with_reducible rfl
      simp only [List.getElem_toArray, List.getElem_cons_succ, List.getElem_cons_zero, Act.put, List.setIfInBounds_toArray, List.set_cons_zero, List.set_cons_succ]
      refine wpAnyH_take (i := 1) (v := ?_) rfl (by kernel_rfl) (by kernel_rfl) (by kernel_rfl) (fun _ _ _ h => h) (Or.inl ⟨by rfl, ?_⟩) hSS ?_
      rotate_left 1
      · intro wS hwS
        go_simp
        try with_reducible rfl
      simp only [List.getElem_toArray, List.getElem_cons_succ, List.getElem_cons_zero, Act.put, List.setIfInBounds_toArray, List.set_cons_zero, List.set_cons_succ]
      refine wpAnyH_take (i := 2) (v := ?_) rfl (by kernel_rfl) (by kernel_rfl) (by kernel_rfl) (fun _ _ _ h => h) (Or.inl ⟨by rfl, ?_⟩) hSS ?_
      rotate_left 1
      · intro wS hwS
        obtain ⟨c0, c1, c2, c3, c4⟩ := F.out wS hwS; go_simp
        try with_reducible rfl
      simp only [List.getElem_toArray, List.getElem_cons_succ, List.getElem_cons_zero, Act.put, List.setIfInBounds_toArray, List.set_cons_zero, List.set_cons_succ]
      refine wpAnyH_take (i := 5) (v := ?_) rfl (by kernel_rfl) (by kernel_rfl) (by kernel_rfl) (fun _ _ _ h => h) (Or.inl ⟨by rfl, ?_⟩) hSS ?_
      rotate_left 1
      · intro wS hwS
        go_simp
        try with_reducible rfl
      simp only [List.getElem_toArray, List.getElem_cons_succ, List.getElem_cons_zero, Act.put, List.setIfInBounds_toArray, List.set_cons_zero, List.set_cons_succ]
      refine wpAnyH_take (i := 6) (v := ?_) rfl (by kernel_rfl) (by kernel_rfl) (by kernel_rfl) (fun _ _ _ h => h) (Or.inl ⟨by rfl, ?_⟩) hSS ?_
      rotate_left 1
      · intro wS hwS
        obtain ⟨c0, c1, c2, c3, c4⟩ := F.out wS hwS; go_simp
        try with_reducible rfl
      simp only [List.getElem_toArray, List.getElem_cons_succ, List.getElem_cons_zero, Act.put, List.setIfInBounds_toArray, List.set_cons_zero, List.set_cons_succ]
      refine wpAnyH_one (i := 3) rfl (by kernel_rfl) rfl (fun K hK => ?_)
      go_simp
      refine (A1.out _ (T0.out _ (Qw.dr Q1.out))).mono ?_
      rintro e w2 ⟨⟨sv2, rfl, hv2⟩, q⟩
      have Q2 := Lib.hid ((Qw.dr Q1.out).trans q)
      have HV2 := Lib.hid hv2
      have X2 := Lib.hid ((Bx.dr HX1.out).kept q)
      clear q hv2
      have hSS := (HS.out w2).2 X2.out
      refine hK _ _ hSS ?_
      clear hK K
      try simp only [List.getElem_toArray, List.getElem_cons_succ, List.getElem_cons_zero, Act.put, List.setIfInBounds_toArray, List.set_cons_zero, List.set_cons_succ]
      refine wpAnyH_one (i := 4) rfl (by kernel_rfl) rfl (fun K hK => ?_)
      go_simp
      refine (S1.out _ _ Q2.out HV2.out).mono ?_
      rintro e w3 ⟨rfl, ⟨L1, c1, P, hL1⟩, T⟩
      have P2 := Lib.hid P
      have T2 := Lib.hid T
      have N1 := Lib.hid hL1
      have X3 := Lib.hid (X2.out.ty T HBL.out.1 HBL.out.2.1)
      clear P T hL1
      have hSS := (HS.out w3).2 X3.out
      refine hK _ _ hSS ?_
      clear hK K
      try simp only [List.getElem_toArray, List.getElem_cons_succ, List.getElem_cons_zero, Act.put, List.setIfInBounds_toArray, List.set_cons_zero, List.set_cons_succ]
      refine wpAnyH_one (i := 7) rfl (by kernel_rfl) rfl (fun K hK => ?_)
      go_simp
      refine (A1.out _ (T1.out _ _ Q2.out T2.out)).mono ?_
      rintro e w4 ⟨⟨sv4, rfl, hv4⟩, q⟩
      have Q4 := Lib.hid q
      have HV4 := Lib.hid hv4
      have X4 := Lib.hid (X3.out.kept q)
      clear q hv4
      have hSS := (HS.out w4).2 X4.out
      refine hK _ _ hSS ?_
      clear hK K
      try simp only [List.getElem_toArray, List.getElem_cons_succ, List.getElem_cons_zero, Act.put, List.setIfInBounds_toArray, List.set_cons_zero, List.set_cons_succ]
      refine wpAnyH_one (i := 8) rfl (by kernel_rfl) rfl (fun K hK => ?_)
      go_simp
      refine (S2.out _ _ _ _ Q2.out T2.out Q4.out HV4.out).mono ?_
      rintro e w5 ⟨rfl, ⟨L2, c2, P, hL2⟩, T⟩
      have P3 := Lib.hid P
      have T3 := Lib.hid T
      have N2 := Lib.hid hL2
      have X5 := Lib.hid (X4.out.ty T HBL.out.2.2.1 HBL.out.2.2.2)
      clear P T hL2
      have hSS := (HS.out w5).2 X5.out
      refine hK _ _ hSS ?_
      clear hK K
      try simp only [List.getElem_toArray, List.getElem_cons_succ, List.getElem_cons_zero, Act.put, List.setIfInBounds_toArray, List.set_cons_zero, List.set_cons_succ]
      refine wpAnyH_take (i := 9) (v := ?_) rfl (by kernel_rfl) (by kernel_rfl) (by kernel_rfl) (fun _ _ _ h => h) (Or.inl ⟨by rfl, ?_⟩) hSS ?_
      rotate_left 1
      · intro wS hwS
        go_simp
        try with_reducible rfl
      simp only [List.getElem_toArray, List.getElem_cons_succ, List.getElem_cons_zero, Act.put, List.setIfInBounds_toArray, List.set_cons_zero, List.set_cons_succ]
      refine wpAnyH_one (i := 10) rfl (by kernel_rfl) rfl (fun K hK => ?_)
      go_simp
      refine hK _ _ hSS ?_
      clear hK K
      try simp only [List.getElem_toArray, List.getElem_cons_succ, List.getElem_cons_zero, Act.put, List.setIfInBounds_toArray, List.set_cons_zero, List.set_cons_succ]
      refine wpAnyH_one (i := 11) rfl (by kernel_rfl) rfl (fun K hK => ?_)
      go_simp
      refine hK _ _ hSS ?_
      clear hK K
      try simp only [List.getElem_toArray, List.getElem_cons_succ, List.getElem_cons_zero, Act.put, List.setIfInBounds_toArray, List.set_cons_zero, List.set_cons_succ]
      refine wpAnyH_done (by kernel_rfl) ?_ _
      go_wp2
      go_ret2
      have K := (H.out.kept Q2.out).two (T2.out.trans (Ty.of Q4.out)) (P2.out.kept Q4.out) N1.out T3.out P3.out N2.out
      exact ⟨B, L1, c1, L2, c2, _, rfl, fun _ => by simp, K.1, .inl ⟨rfl, N1.out.imp id (Nat.le_trans Q2.out.size)⟩, K.2.1.imp id (fun h => Nat.le_trans Q2.out.size h), (Tf.of Q2.out).trans K.2.2⟩
    · have hxf : (Y == Y') = false := beq_eq_false_iff_ne.2 hx
      have HX := Lib.hid hx
      clear hx
      go_enter Tryd.func14, Tryd.ntmps14
      go_wp2_with (first | (go_at_call 26; ((with_reducible refine (V1.out _).mono ?_); rintro e w1 ⟨rfl, q⟩; have X1 := (Bx.new w #[.int .i64 3, .int .i64 n, .int .i64 v, .bool false, .slice sa sl sc] 34).kept q; have HX1 := Lib.hid X1; obtain ⟨c0, c1, c2, c3, c4⟩ := five X1; have Q1 := Lib.hid ((Qw.al (Qw.refl w) _).trans q); clear q X1)))
      obtain ⟨S, hS⟩ : ∃ S : World → Prop, ∀ w', S w' ↔ Bx w' w.heap.size #[.int .i64 3, .int .i64 n, .int .i64 v, .bool false, .slice sa sl sc] 34 := ⟨_, fun _ => Iff.rfl⟩
      have F := Lib.hid (fun w' (q : S w') => five ((hS w').1 q))
      have HS := Lib.hid hS
      clear hS c0 c1 c2 c3 c4
      refine wp_region_held (S := S) (by kernel_rfl) ?_
      change wpAnyH _ _ _ _ _ _ _ _ (World.drew w1)
      have hSS := (HS.out (World.drew w1)).2 (Bx.dr HX1.out)
      refine wpAnyH_take (i := 0) (v := ?_) rfl (by kernel_rfl) (by kernel_rfl) (by kernel_rfl) (fun _ _ _ h => h) (Or.inl ⟨by rfl, ?_⟩) hSS ?_
      rotate_left 1
      · intro wS hwS
        go_simp
        try with_reducible rfl
      simp only [List.getElem_toArray, List.getElem_cons_succ, List.getElem_cons_zero, Act.put, List.setIfInBounds_toArray, List.set_cons_zero, List.set_cons_succ]
      refine wpAnyH_take (i := 1) (v := ?_) rfl (by kernel_rfl) (by kernel_rfl) (by kernel_rfl) (fun _ _ _ h => h) (Or.inl ⟨by rfl, ?_⟩) hSS ?_
      rotate_left 1
      · intro wS hwS
        go_simp
        try with_reducible rfl
      simp only [List.getElem_toArray, List.getElem_cons_succ, List.getElem_cons_zero, Act.put, List.setIfInBounds_toArray, List.set_cons_zero, List.set_cons_succ]
      refine wpAnyH_take (i := 2) (v := ?_) rfl (by kernel_rfl) (by kernel_rfl) (by kernel_rfl) (fun _ _ _ h => h) (Or.inl ⟨by rfl, ?_⟩) hSS ?_
      rotate_left 1
      · intro wS hwS
        obtain ⟨c0, c1, c2, c3, c4⟩ := F.out wS hwS; go_simp
        try with_reducible rfl
      simp only [List.getElem_toArray, List.getElem_cons_succ, List.getElem_cons_zero, Act.put, List.setIfInBounds_toArray, List.set_cons_zero, List.set_cons_succ]
      refine wpAnyH_take (i := 5) (v := ?_) rfl (by kernel_rfl) (by kernel_rfl) (by kernel_rfl) (fun _ _ _ h => h) (Or.inl ⟨by rfl, ?_⟩) hSS ?_
      rotate_left 1
      · intro wS hwS
        go_simp
        try with_reducible rfl
      simp only [List.getElem_toArray, List.getElem_cons_succ, List.getElem_cons_zero, Act.put, List.setIfInBounds_toArray, List.set_cons_zero, List.set_cons_succ]
      refine wpAnyH_take (i := 6) (v := ?_) rfl (by kernel_rfl) (by kernel_rfl) (by kernel_rfl) (fun _ _ _ h => h) (Or.inl ⟨by rfl, ?_⟩) hSS ?_
      rotate_left 1
      · intro wS hwS
        obtain ⟨c0, c1, c2, c3, c4⟩ := F.out wS hwS; go_simp
        try with_reducible rfl
      simp only [List.getElem_toArray, List.getElem_cons_succ, List.getElem_cons_zero, Act.put, List.setIfInBounds_toArray, List.set_cons_zero, List.set_cons_succ]
      refine wpAnyH_one (i := 3) rfl (by kernel_rfl) rfl (fun K hK => ?_)
      go_simp
      refine (A1.out _ (T0.out _ (Qw.dr Q1.out))).mono ?_
      rintro e w2 ⟨⟨sv2, rfl, hv2⟩, q⟩
      have Q2 := Lib.hid ((Qw.dr Q1.out).trans q)
      have HV2 := Lib.hid hv2
      have X2 := Lib.hid ((Bx.dr HX1.out).kept q)
      clear q hv2
      have hSS := (HS.out w2).2 X2.out
      refine hK _ _ hSS ?_
      clear hK K
      try simp only [List.getElem_toArray, List.getElem_cons_succ, List.getElem_cons_zero, Act.put, List.setIfInBounds_toArray, List.set_cons_zero, List.set_cons_succ]
      refine wpAnyH_one (i := 4) rfl (by kernel_rfl) rfl (fun K hK => ?_)
      go_simp
      refine (S1.out _ _ Q2.out HV2.out).mono ?_
      rintro e w3 ⟨rfl, ⟨L1, c1, P, hL1⟩, T⟩
      have P2 := Lib.hid P
      have T2 := Lib.hid T
      have N1 := Lib.hid hL1
      have X3 := Lib.hid (X2.out.ty T HBL.out.1 HBL.out.2.1)
      clear P T hL1
      have hSS := (HS.out w3).2 X3.out
      refine hK _ _ hSS ?_
      clear hK K
      try simp only [List.getElem_toArray, List.getElem_cons_succ, List.getElem_cons_zero, Act.put, List.setIfInBounds_toArray, List.set_cons_zero, List.set_cons_succ]
      refine wpAnyH_one (i := 7) rfl (by kernel_rfl) rfl (fun K hK => ?_)
      go_simp
      refine (A1.out _ (T1.out _ _ Q2.out T2.out)).mono ?_
      rintro e w4 ⟨⟨sv4, rfl, hv4⟩, q⟩
      have Q4 := Lib.hid q
      have HV4 := Lib.hid hv4
      have X4 := Lib.hid (X3.out.kept q)
      clear q hv4
      have hSS := (HS.out w4).2 X4.out
      refine hK _ _ hSS ?_
      clear hK K
      try simp only [List.getElem_toArray, List.getElem_cons_succ, List.getElem_cons_zero, Act.put, List.setIfInBounds_toArray, List.set_cons_zero, List.set_cons_succ]
      refine wpAnyH_one (i := 8) rfl (by kernel_rfl) rfl (fun K hK => ?_)
      go_simp
      refine (S2.out _ _ _ _ Q2.out T2.out Q4.out HV4.out).mono ?_
      rintro e w5 ⟨rfl, ⟨L2, c2, P, hL2⟩, T⟩
      have P3 := Lib.hid P
      have T3 := Lib.hid T
      have N2 := Lib.hid hL2
      have X5 := Lib.hid (X4.out.ty T HBL.out.2.2.1 HBL.out.2.2.2)
      clear P T hL2
      have hSS := (HS.out w5).2 X5.out
      refine hK _ _ hSS ?_
      clear hK K
      try simp only [List.getElem_toArray, List.getElem_cons_succ, List.getElem_cons_zero, Act.put, List.setIfInBounds_toArray, List.set_cons_zero, List.set_cons_succ]
      refine wpAnyH_take (i := 9) (v := ?_) rfl (by kernel_rfl) (by kernel_rfl) (by kernel_rfl) (fun _ _ _ h => h) (Or.inl ⟨by rfl, ?_⟩) hSS ?_
      rotate_left 1
      · intro wS hwS
        go_simp
        try with_reducible rfl
      simp only [List.getElem_toArray, List.getElem_cons_succ, List.getElem_cons_zero, Act.put, List.setIfInBounds_toArray, List.set_cons_zero, List.set_cons_succ]
      refine wpAnyH_one (i := 10) rfl (by kernel_rfl) rfl (fun K hK => ?_)
      go_simp
      refine hK _ _ hSS ?_
      clear hK K
      try simp only [List.getElem_toArray, List.getElem_cons_succ, List.getElem_cons_zero, Act.put, List.setIfInBounds_toArray, List.set_cons_zero, List.set_cons_succ]
      refine wpAnyH_one (i := 11) rfl (by kernel_rfl) rfl (fun K hK => ?_)
      go_simp
      refine hK _ _ hSS ?_
      clear hK K
      try simp only [List.getElem_toArray, List.getElem_cons_succ, List.getElem_cons_zero, Act.put, List.setIfInBounds_toArray, List.set_cons_zero, List.set_cons_succ]
      refine wpAnyH_done (by kernel_rfl) ?_ _
      go_wp2
      go_ret2
      have K := (H.out.kept Q2.out).two (T2.out.trans (Ty.of Q4.out)) (P2.out.kept Q4.out) N1.out T3.out P3.out N2.out
      exact ⟨B, L1, c1, L2, c2, _, rfl, fun e => absurd (EX.out e) HX.out, K.1, .inl ⟨rfl, N1.out.imp id (Nat.le_trans Q2.out.size)⟩, K.2.1.imp id (fun h => Nat.le_trans Q2.out.size h), (Tf.of Q2.out).trans K.2.2⟩
  | true =>
    have Z : Hid (-1000000000000001 + v % (1000000000000001 - -1000000000000001 + 1) = V) := Lib.hid hV
    clear n1 n2 v1 v2 hN hv hT h
    by_cases hx : Y = Y'
    · subst hx
      go_enter Tryd.func14, Tryd.ntmps14
      go_wp2_with (first | (go_at_call 26; ((with_reducible refine (V1.out _).mono ?_); rintro e w1 ⟨rfl, q⟩; have X1 := (Bx.new w #[.int .i64 3, .int .i64 n, .int .i64 v, .bool true, .slice sa sl sc] 34).kept q; have HX1 := Lib.hid X1; obtain ⟨c0, c1, c2, c3, c4⟩ := five X1; have Q1 := Lib.hid ((Qw.al (Qw.refl w) _).trans q); clear q X1)) | (go_at_call 22; ((with_reducible refine (BT.out _).mono ?_); rintro e wb ⟨rfl, rfl⟩; rw [Z.out])))
      obtain ⟨S, hS⟩ : ∃ S : World → Prop, ∀ w', S w' ↔ Bx w' w.heap.size #[.int .i64 3, .int .i64 n, .int .i64 v, .bool true, .slice sa sl sc] 34 := ⟨_, fun _ => Iff.rfl⟩
      have F := Lib.hid (fun w' (q : S w') => five ((hS w').1 q))
      have HS := Lib.hid hS
      clear hS c0 c1 c2 c3 c4
      refine wp_region_held (S := S) (by kernel_rfl) ?_
      change wpAnyH _ _ _ _ _ _ _ _ (World.drew w1)
      have hSS := (HS.out (World.drew w1)).2 (Bx.dr HX1.out)
      refine wpAnyH_take (i := 0) (v := ?_) rfl (by kernel_rfl) (by kernel_rfl) (by kernel_rfl) (fun _ _ _ h => h) (Or.inl ⟨by rfl, ?_⟩) hSS ?_
      rotate_left 1
      · intro wS hwS
        go_simp
        try with_reducible rfl
      simp only [List.getElem_toArray, List.getElem_cons_succ, List.getElem_cons_zero, Act.put, List.setIfInBounds_toArray, List.set_cons_zero, List.set_cons_succ]
      refine wpAnyH_take (i := 1) (v := ?_) rfl (by kernel_rfl) (by kernel_rfl) (by kernel_rfl) (fun _ _ _ h => h) (Or.inl ⟨by rfl, ?_⟩) hSS ?_
      rotate_left 1
      · intro wS hwS
        go_simp
        try with_reducible rfl
      simp only [List.getElem_toArray, List.getElem_cons_succ, List.getElem_cons_zero, Act.put, List.setIfInBounds_toArray, List.set_cons_zero, List.set_cons_succ]
      refine wpAnyH_take (i := 2) (v := ?_) rfl (by kernel_rfl) (by kernel_rfl) (by kernel_rfl) (fun _ _ _ h => h) (Or.inl ⟨by rfl, ?_⟩) hSS ?_
      rotate_left 1
      · intro wS hwS
        obtain ⟨c0, c1, c2, c3, c4⟩ := F.out wS hwS; go_simp
        try with_reducible rfl
      simp only [List.getElem_toArray, List.getElem_cons_succ, List.getElem_cons_zero, Act.put, List.setIfInBounds_toArray, List.set_cons_zero, List.set_cons_succ]
      refine wpAnyH_take (i := 5) (v := ?_) rfl (by kernel_rfl) (by kernel_rfl) (by kernel_rfl) (fun _ _ _ h => h) (Or.inl ⟨by rfl, ?_⟩) hSS ?_
      rotate_left 1
      · intro wS hwS
        go_simp
        try with_reducible rfl
      simp only [List.getElem_toArray, List.getElem_cons_succ, List.getElem_cons_zero, Act.put, List.setIfInBounds_toArray, List.set_cons_zero, List.set_cons_succ]
      refine wpAnyH_take (i := 6) (v := ?_) rfl (by kernel_rfl) (by kernel_rfl) (by kernel_rfl) (fun _ _ _ h => h) (Or.inl ⟨by rfl, ?_⟩) hSS ?_
      rotate_left 1
      · intro wS hwS
        obtain ⟨c0, c1, c2, c3, c4⟩ := F.out wS hwS; go_simp
        try with_reducible rfl
      simp only [List.getElem_toArray, List.getElem_cons_succ, List.getElem_cons_zero, Act.put, List.setIfInBounds_toArray, List.set_cons_zero, List.set_cons_succ]
      refine wpAnyH_one (i := 3) rfl (by kernel_rfl) rfl (fun K hK => ?_)
      go_simp
      refine (A1.out _ (T0.out _ (Qw.dr Q1.out))).mono ?_
      rintro e w2 ⟨⟨sv2, rfl, hv2⟩, q⟩
      have Q2 := Lib.hid ((Qw.dr Q1.out).trans q)
      have HV2 := Lib.hid hv2
      have X2 := Lib.hid ((Bx.dr HX1.out).kept q)
      clear q hv2
      have hSS := (HS.out w2).2 X2.out
      refine hK _ _ hSS ?_
      clear hK K
      try simp only [List.getElem_toArray, List.getElem_cons_succ, List.getElem_cons_zero, Act.put, List.setIfInBounds_toArray, List.set_cons_zero, List.set_cons_succ]
      refine wpAnyH_one (i := 4) rfl (by kernel_rfl) rfl (fun K hK => ?_)
      go_simp
      refine (S1.out _ _ Q2.out HV2.out).mono ?_
      rintro e w3 ⟨rfl, ⟨L1, c1, P, hL1⟩, T⟩
      have P2 := Lib.hid P
      have T2 := Lib.hid T
      have N1 := Lib.hid hL1
      have X3 := Lib.hid (X2.out.ty T HBL.out.1 HBL.out.2.1)
      clear P T hL1
      have hSS := (HS.out w3).2 X3.out
      refine hK _ _ hSS ?_
      clear hK K
      try simp only [List.getElem_toArray, List.getElem_cons_succ, List.getElem_cons_zero, Act.put, List.setIfInBounds_toArray, List.set_cons_zero, List.set_cons_succ]
      refine wpAnyH_one (i := 7) rfl (by kernel_rfl) rfl (fun K hK => ?_)
      go_simp
      refine (A1.out _ (T1.out _ _ Q2.out T2.out)).mono ?_
      rintro e w4 ⟨⟨sv4, rfl, hv4⟩, q⟩
      have Q4 := Lib.hid q
      have HV4 := Lib.hid hv4
      have X4 := Lib.hid (X3.out.kept q)
      clear q hv4
      have hSS := (HS.out w4).2 X4.out
      refine hK _ _ hSS ?_
      clear hK K
      try simp only [List.getElem_toArray, List.getElem_cons_succ, List.getElem_cons_zero, Act.put, List.setIfInBounds_toArray, List.set_cons_zero, List.set_cons_succ]
      refine wpAnyH_one (i := 8) rfl (by kernel_rfl) rfl (fun K hK => ?_)
      go_simp
      refine (S2.out _ _ _ _ Q2.out T2.out Q4.out HV4.out).mono ?_
      rintro e w5 ⟨rfl, ⟨L2, c2, P, hL2⟩, T⟩
      have P3 := Lib.hid P
      have T3 := Lib.hid T
      have N2 := Lib.hid hL2
      have X5 := Lib.hid (X4.out.ty T HBL.out.2.2.1 HBL.out.2.2.2)
      clear P T hL2
      have hSS := (HS.out w5).2 X5.out
      refine hK _ _ hSS ?_
      clear hK K
      try simp only [List.getElem_toArray, List.getElem_cons_succ, List.getElem_cons_zero, Act.put, List.setIfInBounds_toArray, List.set_cons_zero, List.set_cons_succ]
      refine wpAnyH_take (i := 9) (v := ?_) rfl (by kernel_rfl) (by kernel_rfl) (by kernel_rfl) (fun _ _ _ h => h) (Or.inl ⟨by rfl, ?_⟩) hSS ?_
      rotate_left 1
      · intro wS hwS
        go_simp
        try with_reducible rfl
      simp only [List.getElem_toArray, List.getElem_cons_succ, List.getElem_cons_zero, Act.put, List.setIfInBounds_toArray, List.set_cons_zero, List.set_cons_succ]
      refine wpAnyH_one (i := 10) rfl (by kernel_rfl) rfl (fun K hK => ?_)
      go_simp
      refine hK _ _ hSS ?_
      clear hK K
      try simp only [List.getElem_toArray, List.getElem_cons_succ, List.getElem_cons_zero, Act.put, List.setIfInBounds_toArray, List.set_cons_zero, List.set_cons_succ]
      refine wpAnyH_one (i := 11) rfl (by kernel_rfl) rfl (fun K hK => ?_)
      go_simp
      refine hK _ _ hSS ?_
      clear hK K
      try simp only [List.getElem_toArray, List.getElem_cons_succ, List.getElem_cons_zero, Act.put, List.setIfInBounds_toArray, List.set_cons_zero, List.set_cons_succ]
      refine wpAnyH_done (by kernel_rfl) ?_ _
      go_wp2
      go_ret2
      have K := (H.out.kept Q2.out).two (T2.out.trans (Ty.of Q4.out)) (P2.out.kept Q4.out) N1.out T3.out P3.out N2.out
      exact ⟨B, L1, c1, L2, c2, _, rfl, fun _ => by simp, K.1, .inl ⟨rfl, N1.out.imp id (Nat.le_trans Q2.out.size)⟩, K.2.1.imp id (fun h => Nat.le_trans Q2.out.size h), (Tf.of Q2.out).trans K.2.2⟩
    · have hxf : (Y == Y') = false := beq_eq_false_iff_ne.2 hx
      have HX := Lib.hid hx
      clear hx
      go_enter Tryd.func14, Tryd.ntmps14
      go_wp2_with (first | (go_at_call 26; ((with_reducible refine (V1.out _).mono ?_); rintro e w1 ⟨rfl, q⟩; have X1 := (Bx.new w #[.int .i64 3, .int .i64 n, .int .i64 v, .bool true, .slice sa sl sc] 34).kept q; have HX1 := Lib.hid X1; obtain ⟨c0, c1, c2, c3, c4⟩ := five X1; have Q1 := Lib.hid ((Qw.al (Qw.refl w) _).trans q); clear q X1)) | (go_at_call 22; ((with_reducible refine (BT.out _).mono ?_); rintro e wb ⟨rfl, rfl⟩; rw [Z.out])))
      obtain ⟨S, hS⟩ : ∃ S : World → Prop, ∀ w', S w' ↔ Bx w' w.heap.size #[.int .i64 3, .int .i64 n, .int .i64 v, .bool true, .slice sa sl sc] 34 := ⟨_, fun _ => Iff.rfl⟩
      have F := Lib.hid (fun w' (q : S w') => five ((hS w').1 q))
      have HS := Lib.hid hS
      clear hS c0 c1 c2 c3 c4
      refine wp_region_held (S := S) (by kernel_rfl) ?_
      change wpAnyH _ _ _ _ _ _ _ _ (World.drew w1)
      have hSS := (HS.out (World.drew w1)).2 (Bx.dr HX1.out)
      refine wpAnyH_take (i := 0) (v := ?_) rfl (by kernel_rfl) (by kernel_rfl) (by kernel_rfl) (fun _ _ _ h => h) (Or.inl ⟨by rfl, ?_⟩) hSS ?_
      rotate_left 1
      · intro wS hwS
        go_simp
        try with_reducible rfl
      simp only [List.getElem_toArray, List.getElem_cons_succ, List.getElem_cons_zero, Act.put, List.setIfInBounds_toArray, List.set_cons_zero, List.set_cons_succ]
      refine wpAnyH_take (i := 1) (v := ?_) rfl (by kernel_rfl) (by kernel_rfl) (by kernel_rfl) (fun _ _ _ h => h) (Or.inl ⟨by rfl, ?_⟩) hSS ?_
      rotate_left 1
      · intro wS hwS
        go_simp
        try with_reducible rfl
      simp only [List.getElem_toArray, List.getElem_cons_succ, List.getElem_cons_zero, Act.put, List.setIfInBounds_toArray, List.set_cons_zero, List.set_cons_succ]
      refine wpAnyH_take (i := 2) (v := ?_) rfl (by kernel_rfl) (by kernel_rfl) (by kernel_rfl) (fun _ _ _ h => h) (Or.inl ⟨by rfl, ?_⟩) hSS ?_
      rotate_left 1
      · intro wS hwS
        obtain ⟨c0, c1, c2, c3, c4⟩ := F.out wS hwS; go_simp
        try with_reducible rfl
      simp only [List.getElem_toArray, List.getElem_cons_succ, List.getElem_cons_zero, Act.put, List.setIfInBounds_toArray, List.set_cons_zero, List.set_cons_succ]
      refine wpAnyH_take (i := 5) (v := ?_) rfl (by kernel_rfl) (by kernel_rfl) (by kernel_rfl) (fun _ _ _ h => h) (Or.inl ⟨by rfl, ?_⟩) hSS ?_
      rotate_left 1
      · intro wS hwS
        go_simp
        try with_reducible rfl
      simp only [List.getElem_toArray, List.getElem_cons_succ, List.getElem_cons_zero, Act.put, List.setIfInBounds_toArray, List.set_cons_zero, List.set_cons_succ]
      refine wpAnyH_take (i := 6) (v := ?_) rfl (by kernel_rfl) (by kernel_rfl) (by kernel_rfl) (fun _ _ _ h => h) (Or.inl ⟨by rfl, ?_⟩) hSS ?_
      rotate_left 1
      · intro wS hwS
        obtain ⟨c0, c1, c2, c3, c4⟩ := F.out wS hwS; go_simp
        try with_reducible rfl
      simp only [List.getElem_toArray, List.getElem_cons_succ, List.getElem_cons_zero, Act.put, List.setIfInBounds_toArray, List.set_cons_zero, List.set_cons_succ]
      refine wpAnyH_one (i := 3) rfl (by kernel_rfl) rfl (fun K hK => ?_)
      go_simp
      refine (A1.out _ (T0.out _ (Qw.dr Q1.out))).mono ?_
      rintro e w2 ⟨⟨sv2, rfl, hv2⟩, q⟩
      have Q2 := Lib.hid ((Qw.dr Q1.out).trans q)
      have HV2 := Lib.hid hv2
      have X2 := Lib.hid ((Bx.dr HX1.out).kept q)
      clear q hv2
      have hSS := (HS.out w2).2 X2.out
      refine hK _ _ hSS ?_
      clear hK K
      try simp only [List.getElem_toArray, List.getElem_cons_succ, List.getElem_cons_zero, Act.put, List.setIfInBounds_toArray, List.set_cons_zero, List.set_cons_succ]
      refine wpAnyH_one (i := 4) rfl (by kernel_rfl) rfl (fun K hK => ?_)
      go_simp
      refine (S1.out _ _ Q2.out HV2.out).mono ?_
      rintro e w3 ⟨rfl, ⟨L1, c1, P, hL1⟩, T⟩
      have P2 := Lib.hid P
      have T2 := Lib.hid T
      have N1 := Lib.hid hL1
      have X3 := Lib.hid (X2.out.ty T HBL.out.1 HBL.out.2.1)
      clear P T hL1
      have hSS := (HS.out w3).2 X3.out
      refine hK _ _ hSS ?_
      clear hK K
      try simp only [List.getElem_toArray, List.getElem_cons_succ, List.getElem_cons_zero, Act.put, List.setIfInBounds_toArray, List.set_cons_zero, List.set_cons_succ]
      refine wpAnyH_one (i := 7) rfl (by kernel_rfl) rfl (fun K hK => ?_)
      go_simp
      refine (A1.out _ (T1.out _ _ Q2.out T2.out)).mono ?_
      rintro e w4 ⟨⟨sv4, rfl, hv4⟩, q⟩
      have Q4 := Lib.hid q
      have HV4 := Lib.hid hv4
      have X4 := Lib.hid (X3.out.kept q)
      clear q hv4
      have hSS := (HS.out w4).2 X4.out
      refine hK _ _ hSS ?_
      clear hK K
      try simp only [List.getElem_toArray, List.getElem_cons_succ, List.getElem_cons_zero, Act.put, List.setIfInBounds_toArray, List.set_cons_zero, List.set_cons_succ]
      refine wpAnyH_one (i := 8) rfl (by kernel_rfl) rfl (fun K hK => ?_)
      go_simp
      refine (S2.out _ _ _ _ Q2.out T2.out Q4.out HV4.out).mono ?_
      rintro e w5 ⟨rfl, ⟨L2, c2, P, hL2⟩, T⟩
      have P3 := Lib.hid P
      have T3 := Lib.hid T
      have N2 := Lib.hid hL2
      have X5 := Lib.hid (X4.out.ty T HBL.out.2.2.1 HBL.out.2.2.2)
      clear P T hL2
      have hSS := (HS.out w5).2 X5.out
      refine hK _ _ hSS ?_
      clear hK K
      try simp only [List.getElem_toArray, List.getElem_cons_succ, List.getElem_cons_zero, Act.put, List.setIfInBounds_toArray, List.set_cons_zero, List.set_cons_succ]
      refine wpAnyH_take (i := 9) (v := ?_) rfl (by kernel_rfl) (by kernel_rfl) (by kernel_rfl) (fun _ _ _ h => h) (Or.inl ⟨by rfl, ?_⟩) hSS ?_
      rotate_left 1
      · intro wS hwS
        go_simp
        try with_reducible rfl
      simp only [List.getElem_toArray, List.getElem_cons_succ, List.getElem_cons_zero, Act.put, List.setIfInBounds_toArray, List.set_cons_zero, List.set_cons_succ]
      refine wpAnyH_one (i := 10) rfl (by kernel_rfl) rfl (fun K hK => ?_)
      go_simp
      refine hK _ _ hSS ?_
      clear hK K
      try simp only [List.getElem_toArray, List.getElem_cons_succ, List.getElem_cons_zero, Act.put, List.setIfInBounds_toArray, List.set_cons_zero, List.set_cons_succ]
      refine wpAnyH_one (i := 11) rfl (by kernel_rfl) rfl (fun K hK => ?_)
      go_simp
      refine hK _ _ hSS ?_
      clear hK K
      try simp only [List.getElem_toArray, List.getElem_cons_succ, List.getElem_cons_zero, Act.put, List.setIfInBounds_toArray, List.set_cons_zero, List.set_cons_succ]
      refine wpAnyH_done (by kernel_rfl) ?_ _
      go_wp2
      go_ret2
      have K := (H.out.kept Q2.out).two (T2.out.trans (Ty.of Q4.out)) (P2.out.kept Q4.out) N1.out T3.out P3.out N2.out
      exact ⟨B, L1, c1, L2, c2, _, rfl, fun e => absurd (EX.out e) HX.out, K.1, .inl ⟨rfl, N1.out.imp id (Nat.le_trans Q2.out.size)⟩, K.2.1.imp id (fun h => Nat.le_trans Q2.out.size h), (Tf.of Q2.out).trans K.2.2⟩

set_option maxRecDepth 100000 in
set_option maxHeartbeats 4000000 in
theorem vlStep5 {C : Nat} {w0 w : World} {B L c B' L' c' : Nat} {s t : Vs.St} {x n v : Int} {near : Bool} {l : Vs.Ar} {sv : Value} (h : Pr w0 w B L c B' L' c' s t) (hv : ValsB C w0 sv l) (hC : C ≤ w0.heap.size) (hT : Tl w0)
    (n1 : -9223372036854775808 ≤ n) (n2 : n ≤ 9223372036854775807) (v1 : -9223372036854775808 ≤ v) (v2 : v ≤ 9223372036854775807) :
    Calls Tryd.prog 14 #[.pointer (some ⟨B, 0, none⟩), .pointer (some ⟨B', 0, none⟩), .agg #[.int .i64 5, .int .i64 n, .int .i64 v, .bool near, sv]] w (StepR w0 w B L B' L' (s.step ⟨5, n, v, near, l⟩) (t.step ⟨5, n, v, near, l⟩) (s = t) 5) := by
  have hsv : ∃ a l c, sv = .slice a l c := by obtain ⟨a, cap, e, _⟩ := hv; exact ⟨_, _, _, e⟩
  obtain ⟨N, hN⟩ : ∃ N, Vs.A.var ⟨5, n, v, near, l⟩ = N := ⟨_, rfl⟩
  obtain ⟨V, hV⟩ : ∃ V, Vs.A.val ⟨5, n, v, near, l⟩ = V := ⟨_, rfl⟩
  have V1 := Lib.hid (fun w => vlVar 5 n v near sv hsv n1 n2 N hN w)
  have BT := Lib.hid (fun w => betweenW v (-1000000000000001) 1000000000000001 v1 v2 (by decide) (by decide) (by decide) (by decide) w)
  have H := Lib.hid h
  have s1 : ∀ w', Qw w w' → Calls Tryd.prog 24 #[.pointer (some ⟨B, 0, none⟩)] w' (NewR Pst s w') := fun w' q => vaCopy (h.kept q).p
  have S1 := Lib.hid s1
  have ES : s.step ⟨5, n, v, near, l⟩ = s ∧ t.step ⟨5, n, v, near, l⟩ = t := ⟨Vs.step_5 s (show (5 : Int) ≠ 1 by decide) (show (5 : Int) ≠ 2 by decide) (show (5 : Int) ≠ 3 by decide) (show (5 : Int) ≠ 4 by decide), Vs.step_5 t (show (5 : Int) ≠ 1 by decide) (show (5 : Int) ≠ 2 by decide) (show (5 : Int) ≠ 3 by decide) (show (5 : Int) ≠ 4 by decide)⟩
  rw [ES.1, ES.2]
  clear s1 ES
  obtain ⟨sa, sl, sc, rfl⟩ := hsv
  cases near with
  | false =>
    obtain rfl : v = V := hV
    clear n1 n2 v1 v2 hN hv hT h
    go_enter Tryd.func14, Tryd.ntmps14
    go_wp2_with (first
      | (go_at_call 26; ((with_reducible refine (V1.out _).mono ?_); rintro e w1 ⟨rfl, q⟩; have X1 := (Bx.new w #[.int .i64 5, .int .i64 n, .int .i64 v, .bool false, .slice sa sl sc] 34).kept q; have HX1 := Lib.hid X1; obtain ⟨c0, c1, c2, c3, c4⟩ := five X1; have Q1 := Lib.hid ((Qw.al (Qw.refl w) _).trans q); clear q X1))
      | (go_at_call 24; ((with_reducible refine (S1.out _ Q1.out).mono ?_); rintro e w2 ⟨B1, L1, c1, rfl, P, hB1, hL1, q⟩; have P2 := Lib.hid P; have N1 := Lib.hid hB1; have N2 := Lib.hid hL1; have Q2 := Lib.hid (Q1.out.trans q); clear P hB1 hL1 q)))
    go_ret2
    have K := H.out
    have l1 := K.r.ltB
    have l2 := K.r.ltL
    have sz := Q1.out.size
    have z0 := K.q.size
    have m1 := N1.out
    have m2 := N2.out
    exact ⟨B1, L1, c1, L', c', _, rfl, fun _ => by simp, ⟨P2.out, K.r.kept Q2.out, ⟨by omega, by omega, by omega, by omega⟩, ⟨by omega, by omega, K.b.2.2.1, K.b.2.2.2⟩, K.q.trans Q2.out⟩, .inr ⟨rfl, by omega, by omega⟩, .inl rfl, Tf.of Q2.out⟩
  | true =>
    have Z : Hid (-1000000000000001 + v % (1000000000000001 - -1000000000000001 + 1) = V) := Lib.hid hV
    clear n1 n2 v1 v2 hN hv hT h
    go_enter Tryd.func14, Tryd.ntmps14
    go_wp2_with (first
      | (go_at_call 26; ((with_reducible refine (V1.out _).mono ?_); rintro e w1 ⟨rfl, q⟩; have X1 := (Bx.new w #[.int .i64 5, .int .i64 n, .int .i64 v, .bool true, .slice sa sl sc] 34).kept q; have HX1 := Lib.hid X1; obtain ⟨c0, c1, c2, c3, c4⟩ := five X1; have Q1 := Lib.hid ((Qw.al (Qw.refl w) _).trans q); clear q X1))
      | (go_at_call 22; ((with_reducible refine (BT.out _).mono ?_); rintro e wb ⟨rfl, rfl⟩; rw [Z.out]))
      | (go_at_call 24; ((with_reducible refine (S1.out _ Q1.out).mono ?_); rintro e w2 ⟨B1, L1, c1, rfl, P, hB1, hL1, q⟩; have P2 := Lib.hid P; have N1 := Lib.hid hB1; have N2 := Lib.hid hL1; have Q2 := Lib.hid (Q1.out.trans q); clear P hB1 hL1 q)))
    go_ret2
    have K := H.out
    have l1 := K.r.ltB
    have l2 := K.r.ltL
    have sz := Q1.out.size
    have z0 := K.q.size
    have m1 := N1.out
    have m2 := N2.out
    exact ⟨B1, L1, c1, L', c', _, rfl, fun _ => by simp, ⟨P2.out, K.r.kept Q2.out, ⟨by omega, by omega, by omega, by omega⟩, ⟨by omega, by omega, K.b.2.2.1, K.b.2.2.2⟩, K.q.trans Q2.out⟩, .inr ⟨rfl, by omega, by omega⟩, .inl rfl, Tf.of Q2.out⟩

set_option maxRecDepth 100000 in
set_option maxHeartbeats 4000000 in
theorem vlStep6 {C : Nat} {w0 w : World} {B L c B' L' c' : Nat} {s t : Vs.St} {x n v : Int} {near : Bool} {l : Vs.Ar} {sv : Value} (h : Pr w0 w B L c B' L' c' s t) (hv : ValsB C w0 sv l) (hC : C ≤ w0.heap.size) (hT : Tl w0)
    (n1 : -9223372036854775808 ≤ n) (n2 : n ≤ 9223372036854775807) (v1 : -9223372036854775808 ≤ v) (v2 : v ≤ 9223372036854775807) (x0 : x ≠ 0) (x1 : x ≠ 1) (x2 : x ≠ 2) (x3 : x ≠ 3) (x4 : x ≠ 4) (x5 : x ≠ 5) :
    Calls Tryd.prog 14 #[.pointer (some ⟨B, 0, none⟩), .pointer (some ⟨B', 0, none⟩), .agg #[.int .i64 x, .int .i64 n, .int .i64 v, .bool near, sv]] w (StepR w0 w B L B' L' (s.step ⟨x, n, v, near, l⟩) (t.step ⟨x, n, v, near, l⟩) (s = t) x) := by
  have hsv : ∃ a l c, sv = .slice a l c := by obtain ⟨a, cap, e, _⟩ := hv; exact ⟨_, _, _, e⟩
  obtain ⟨N, hN⟩ : ∃ N, Vs.A.var ⟨x, n, v, near, l⟩ = N := ⟨_, rfl⟩
  obtain ⟨V, hV⟩ : ∃ V, Vs.A.val ⟨x, n, v, near, l⟩ = V := ⟨_, rfl⟩
  have V1 := Lib.hid (fun w => vlVar x n v near sv hsv n1 n2 N hN w)
  have BT := Lib.hid (fun w => betweenW v (-1000000000000001) 1000000000000001 v1 v2 (by decide) (by decide) (by decide) (by decide) w)
  have H := Lib.hid h
  have ES : s.step ⟨x, n, v, near, l⟩ = s ∧ t.step ⟨x, n, v, near, l⟩ = t := ⟨Vs.step_5 s x1 x2 x3 x4, Vs.step_5 t x1 x2 x3 x4⟩
  rw [ES.1, ES.2]
  have y0 : (x == 0) = false := beq_eq_false_iff_ne.2 x0
  have y1 : (x == 1) = false := beq_eq_false_iff_ne.2 x1
  have y2 : (x == 2) = false := beq_eq_false_iff_ne.2 x2
  have y3 : (x == 3) = false := beq_eq_false_iff_ne.2 x3
  have y4 : (x == 4) = false := beq_eq_false_iff_ne.2 x4
  have y5 : (x == 5) = false := beq_eq_false_iff_ne.2 x5
  clear ES x0 x1 x2 x3 x4 x5
  obtain ⟨sa, sl, sc, rfl⟩ := hsv
  cases near with
  | false =>
    obtain rfl : v = V := hV
    clear n1 n2 v1 v2 hN hv hT h
    go_enter Tryd.func14, Tryd.ntmps14
    go_wp2_with (first
      | (go_at_call 26; ((with_reducible refine (V1.out _).mono ?_); rintro e w1 ⟨rfl, q⟩; have X1 := (Bx.new w #[.int .i64 x, .int .i64 n, .int .i64 v, .bool false, .slice sa sl sc] 34).kept q; have HX1 := Lib.hid X1; obtain ⟨c0, c1, c2, c3, c4⟩ := five X1; have Q1 := Lib.hid ((Qw.al (Qw.refl w) _).trans q); clear q X1)))
    go_ret2
    exact ⟨B, L, c, L', c', _, rfl, fun _ => rfl, H.out.kept Q1.out, .inl ⟨rfl, .inl rfl⟩, .inl rfl, Tf.of Q1.out⟩
  | true =>
    have Z : Hid (-1000000000000001 + v % (1000000000000001 - -1000000000000001 + 1) = V) := Lib.hid hV
    clear n1 n2 v1 v2 hN hv hT h
    go_enter Tryd.func14, Tryd.ntmps14
    go_wp2_with (first
      | (go_at_call 26; ((with_reducible refine (V1.out _).mono ?_); rintro e w1 ⟨rfl, q⟩; have X1 := (Bx.new w #[.int .i64 x, .int .i64 n, .int .i64 v, .bool true, .slice sa sl sc] 34).kept q; have HX1 := Lib.hid X1; obtain ⟨c0, c1, c2, c3, c4⟩ := five X1; have Q1 := Lib.hid ((Qw.al (Qw.refl w) _).trans q); clear q X1))
      | (go_at_call 22; ((with_reducible refine (BT.out _).mono ?_); rintro e wb ⟨rfl, rfl⟩; rw [Z.out])))
    go_ret2
    exact ⟨B, L, c, L', c', _, rfl, fun _ => rfl, H.out.kept Q1.out, .inl ⟨rfl, .inl rfl⟩, .inl rfl, Tf.of Q1.out⟩

theorem vlStep {C : Nat} {w0 w : World} {B L c B' L' c' : Nat} {s t : Vs.St} {a : Vs.A} {u : Value} (h : Pr w0 w B L c B' L' c' s t) (hu : ActV C w0 u a) (hC : C ≤ w0.heap.size) (hT : Tl w0) :
    Calls Tryd.prog 14 #[.pointer (some ⟨B, 0, none⟩), .pointer (some ⟨B', 0, none⟩), u] w (StepR w0 w B L B' L' (s.step a) (t.step a) (s = t) a.what) := by
  obtain ⟨sv, rfl, hv, n1, n2, v1, v2⟩ := hu
  obtain ⟨x, n, v, near, l⟩ := a
  by_cases x0 : x = 0
  · subst x0; exact vlStep0 (x := 0) h hv hC hT n1 n2 v1 v2
  by_cases x1 : x = 1
  · subst x1; exact vlStep1 (x := 0) h hv hC hT n1 n2 v1 v2
  by_cases x2 : x = 2
  · subst x2; exact vlStep2 (x := 0) h hv hC hT n1 n2 v1 v2
  by_cases x3 : x = 3
  · subst x3; exact vlStep3 (x := 0) h hv hC hT n1 n2 v1 v2
  by_cases x4 : x = 4
  · subst x4; exact vlStep4 (x := 0) h hv hC hT n1 n2 v1 v2
  by_cases x5 : x = 5
  · subst x5; exact vlStep5 (x := 0) h hv hC hT n1 n2 v1 v2
  exact vlStep6 h hv hC hT n1 n2 v1 v2 x0 x1 x2 x3 x4 x5

end Go.Proofs.YtmfhiabajkdikaaDoor
