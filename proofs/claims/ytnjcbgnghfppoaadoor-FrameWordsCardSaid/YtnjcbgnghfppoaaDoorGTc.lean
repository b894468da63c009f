import Derived.Test.YtnjcbgnghfppoaaDoorGTb
import Derived.Test.YtnjcbgnghfppoaaDoorGN

/- The walk of frame.Target. -/
set_option linter.unusedVariables false
set_option linter.unusedSimpArgs false
namespace Go.Proofs.YtnjcbgnghfppoaaDoor
open Go.RowKit

section
variable {P : Program} {ops : Array Oper} {Q : Exit → Act → World → Prop} {md : Region.Mode} {S : World → Prop} {m : Nat}
theorem tgM_three {i j k : Nat} {oi oj ok : Oper} {fuel : Nat} {listed : Array Bool} {a : Act} {w : World} (hi : ops[i]? = some oi) (hj : ops[j]? = some oj) (hk : ops[k]? = some ok) (hr : Region.ready md ops listed = [i, j, k]) (hg : oi.guard = none) (hgj : oj.guard = none) (hgk : ok.guard = none)
    (h : ∀ K : Act → World → Prop, (∀ a' w', (i < m → S w') → wpAnyM P md ops Q S m fuel (listed.setIfInBounds i true) a' w' → K a' w') → oi.wp P a w K Q)
    (h' : ∀ K : Act → World → Prop, (∀ a' w', (j < m → S w') → wpAnyM P md ops Q S m fuel (listed.setIfInBounds j true) a' w' → K a' w') → oj.wp P a w K Q)
    (h'' : ∀ K : Act → World → Prop, (∀ a' w', (k < m → S w') → wpAnyM P md ops Q S m fuel (listed.setIfInBounds k true) a' w' → K a' w') → ok.wp P a w K Q) : wpAnyM P md ops Q S m (fuel + 1) listed a w := by
  refine ⟨fun h0 => (by rw [h0] at hr; cases hr), fun x hx => ?_⟩
  rw [hr] at hx
  have hx' : x = i ∨ x = j ∨ x = k := by simpa using hx
  rcases hx' with rfl | rfl | rfl
  · unfold wpOp
    rw [hi]
    simp only
    rw [if_pos (by simp [Region.wanted, hg])]
    exact .inl (h _ fun a' w' hS H => ⟨hS, H⟩)
  · unfold wpOp
    rw [hj]
    simp only
    rw [if_pos (by simp [Region.wanted, hgj])]
    exact .inl (h' _ fun a' w' hS H => ⟨hS, H⟩)
  · unfold wpOp
    rw [hk]
    simp only
    rw [if_pos (by simp [Region.wanted, hgk])]
    exact .inl (h'' _ fun a' w' hS H => ⟨hS, H⟩)
end
theorem al_named2 {w w' : World} (q : Qw w w') (cs : Array Value) (t : TypeId) : ∃ (wn : World) (N : Nat), w'.alloc (.cells cs t) = wn ∧ w'.heap.size = N ∧ w.heap.size ≤ N ∧ Qw w wn ∧ Bx wn N cs t ∧ Qw w' wn ∧ ∀ k, k < w'.heap.size → k ≠ N :=
  ⟨_, _, rfl, rfl, q.size, Qw.al q _, Bx.new _ _ _, Qw.al (Qw.refl _) _, fun _ h => Nat.ne_of_lt h⟩
/-- Whether there is a word, if there is no error. -/
def tgb (c0 c1 c2 : Int) (b : Bool) : Bool := if Fm.cve c0 c1 c2 = 0 then b else false
def fromv (b : Bool) (n at_ d : Int) : Int := if b = true then (if d = 91 then at_ + n else n) else at_
set_option maxRecDepth 100000 in
theorem tgFrom (b : Bool) (n at_ d : Int) (n1 : -1800000 ≤ n) (n2 : n ≤ 1800000) (a1 : -1048576 ≤ at_) (a2 : at_ ≤ 1048576) (w : World) : Calls Tryd.prog 56 #[.agg #[.bool b, .int .i64 n], .int .i64 at_, .int .i64 d] w fun e w' => e = .returned (.int .i64 (fromv b n at_ d)) ∧ Qw w w' := by
  unfold fromv
  cases b
  · simp only [Bool.false_eq_true, if_false]
    go_enter Tryd.func56, Tryd.ntmps56
    go_wp2
    go_ret
    exact ⟨rfl, Qw.al (Qw.refl w) _⟩
  · by_cases h : d = 91
    · subst h
      simp only [if_true]
      go_enter Tryd.func56, Tryd.ntmps56
      go_wp2
      go_ret
      exact ⟨rfl, Qw.al (Qw.refl w) _⟩
    · have z : (d == 91) = false := beq_eq_false_iff_ne.2 h
      simp only [if_true, if_neg h]
      clear h
      go_enter Tryd.func56, Tryd.ntmps56
      go_wp2
      go_ret
      exact ⟨rfl, Qw.al (Qw.refl w) _⟩
theorem cd_from {l : Vs.Ar} {p d u po i at_ : Int} : Tg.cd l p d u po i at_ = fromv (Tg.thr l i) (Tg.pn l p u po i) at_ d := rfl
theorem cd_bd {b : Bool} {n at_ d : Int} (n1 : -1800000 ≤ n) (n2 : n ≤ 1800000) (a1 : -1048576 ≤ at_) (a2 : at_ ≤ 1048576) : -3000000 ≤ fromv b n at_ d ∧ fromv b n at_ d ≤ 3000000 := by
  unfold fromv
  repeat' split
  all_goals omega
set_option maxRecDepth 100000 in
set_option maxHeartbeats 2000000 in
theorem tgTargetNo (s : Md.S) (v : Value) (x y z : Int) (x1 : -9223372036854775808 ≤ x) (x2 : x ≤ 9223372036854775807) (y1 : -9223372036854775808 ≤ y) (y2 : y ≤ 9223372036854775807) (z1 : -9223372036854775808 ≤ z) (z2 : z ≤ 9223372036854775807) (h : wth x y z = false) (w : World) :
    Calls Tryd.prog 27 #[.agg (mdc s), v, .agg #[.int .i64 x, .int .i64 y, .int .i64 z]] w fun e w' => e = .returned (.tuple #[.agg #[.int .i64 0, .int .i64 0, .int .i64 0], .bool false, .int .i64 1]) ∧ Qw w w' := by
  have cw := fun w => vc_within x y z x1 x2 y1 y2 z1 z2 w
  rw [h] at cw
  have CW := Lib.hid cw
  clear cw h x1 x2 y1 y2 z1 z2
  go_enter Tryd.func27, Tryd.ntmps27
  go_upto_region 1 with (refine box_md 0 rfl ?_; intro w0 P hp X q; have X0 := Lib.hid X; have Q0 := Lib.hid q; clear X q)
  refine code_of (fun w' => Bx w' P (mdc s) MT ∧ Bx w' w0.heap.size #[.int .i64 x, .int .i64 y, .int .i64 z] 23 ∧ Bx w' (w0.heap.size + 1) #[.int .i64 0, .int .i64 0, .int .i64 0] 23 ∧ Qw w w') ⟨(X0.out.alloc _).alloc _, (Bx.new _ _ _).alloc _, bxn _ _ _ _, Qw.al (Qw.al Q0.out _) _⟩ ?_
  have hR : w.heap.size ≤ w0.heap.size + 1 := by have := Q0.out.size; omega
  clear X0 Q0 hp
  generalize w0.heap.size + 1 = R at *
  generalize w0.heap.size = A at *
  rintro w1 ⟨F, X, RR, q1⟩
  have y0 := X.cell' 0 (.int .i64 x) rfl
  have y1 := X.cell' 1 (.int .i64 y) rfl
  have y2 := X.cell' 2 (.int .i64 z) rfl
  have FX := Lib.hid (fun (w' : World) (q : Qw w1 w') => F.kept q)
  have AX := Lib.hid (fun (w' : World) (q : Qw w1 w') => X.kept q)
  have RX := Lib.hid (fun (w' : World) (q : Qw w1 w') => RR.kept q)
  have Q1 := Lib.hid q1
  clear F X RR q1
  go_wp2_with (go_at_call 43; ((with_reducible refine (CW.out _).mono ?_); rintro e w2 ⟨rfl, q⟩; have Q2 := Lib.hid q; have r0 := (RX.out _ q).cell' 0 (.int .i64 0) rfl; have f0 := (RX.out _ q).free 0; have r1 := (RX.out _ q).cell' 1 (.int .i64 0) rfl; have f1 := (RX.out _ q).free 1; have r2 := (RX.out _ q).cell' 2 (.int .i64 0) rfl; have f2 := (RX.out _ q).free 2; clear q))
  have S := (RX.out _ Q2.out).st3 (.int .i64 0) (.int .i64 0) (.int .i64 0)
  have t0 := S.cell' 0 (.int .i64 0) rfl
  have t1 := S.cell' 1 (.int .i64 0) rfl
  have t2 := S.cell' 2 (.int .i64 0) rfl
  exact bodyPost_ret (v := .tuple #[.agg #[.int .i64 0, .int .i64 0, .int .i64 0], .bool false, .int .i64 1]) (by simp [results, Tryd.results27, go_sem, t0, t1, t2]) rfl ⟨rfl, Qw.st3 (Qw.trans Q1.out Q2.out) hR _ _ _⟩
set_option maxRecDepth 100000 in
set_option maxHeartbeats 4000000 in
theorem tgTargetErr {C : Nat} {w : World} {v : Value} {l : Vs.Ar} (hv : ValsB C w v l) (hC : C ≤ w.heap.size) (s : Md.S) (p1 : 17 ≤ s.pl) (p2 : s.pl ≤ 19) (T : Tc w) (x y z : Int) (h : wth x y z = true) (er : Int) (hp : Tg.pe l s.pl s.un s.po = er) (he : er ≠ 0) :
    Calls Tryd.prog 27 #[.agg (mdc s), v, .agg #[.int .i64 x, .int .i64 y, .int .i64 z]] w fun e w' => e = .returned (.tuple #[.agg #[.int .i64 0, .int .i64 0, .int .i64 0], .bool false, .int .i64 er]) ∧ Qw w w' := by
  obtain ⟨hx, hy, hz⟩ := Fm.wth_bd h
  have cw := fun w => vc_within x y z (by omega) (by omega) (by omega) (by omega) (by omega) (by omega) w
  rw [h] at cw
  have CW := Lib.hid cw
  have sb := sg_bad hp he
  have ST : Hid (∀ w' : World, Qw w w' → Calls Tryd.prog 55 #[.agg (mdc s), v] w' fun e w'' => e = .returned (.tuple #[.agg #[.bool false, .int .i64 0, .bool false, .int .i64 0, .bool false, .int .i64 0], .int .i64 er]) ∧ Qw w' w'') := Lib.hid (fun w' q => by have := tgStraight (hv.kept q hC) (Nat.le_trans hC q.size) s p1 p2 (T.kept q); rwa [(sb 0).1, (sb 0).2, (sb 1).1, (sb 1).2, (sb 2).1, (sb 2).2, hp] at this)
  have zz : (er != 0) = true := by rw [bne_iff_ne]; exact he
  clear cw h hv hC p1 p2 T sb hp he hx hy hz
  go_enter Tryd.func27, Tryd.ntmps27
  go_upto_region 1 with (refine box_md 0 rfl ?_; intro w0 P hp X q; have X0 := Lib.hid X; have Q0 := Lib.hid q; clear X q)
  refine code_of (fun w' => Bx w' P (mdc s) MT ∧ Bx w' w0.heap.size #[.int .i64 x, .int .i64 y, .int .i64 z] 23 ∧ Bx w' (w0.heap.size + 1) #[.int .i64 0, .int .i64 0, .int .i64 0] 23 ∧ Qw w w') ⟨(X0.out.alloc _).alloc _, (Bx.new _ _ _).alloc _, bxn _ _ _ _, Qw.al (Qw.al Q0.out _) _⟩ ?_
  have hR : w.heap.size ≤ w0.heap.size + 1 := by have := Q0.out.size; omega
  clear X0 Q0 hp
  generalize w0.heap.size + 1 = R at *
  generalize w0.heap.size = A at *
  rintro w1 ⟨F, X, RR, q1⟩
  have y0 := X.cell' 0 (.int .i64 x) rfl
  have y1 := X.cell' 1 (.int .i64 y) rfl
  have y2 := X.cell' 2 (.int .i64 z) rfl
  have FX := Lib.hid (fun (w' : World) (q : Qw w1 w') => F.kept q)
  have AX := Lib.hid (fun (w' : World) (q : Qw w1 w') => X.kept q)
  have RX := Lib.hid (fun (w' : World) (q : Qw w1 w') => RR.kept q)
  have Q1 := Lib.hid q1
  clear F X RR q1
  go_wp2_with (first | (go_at_call 43; ((with_reducible refine (CW.out _).mono ?_); rintro e w2 ⟨rfl, q⟩; have Q2 := Lib.hid q; have FX2 := Lib.hid (FX.out _ q); clear q)) | (refine ld_md 3 rfl FX2.out ?_) | (go_at_call 55; ((with_reducible refine (ST.out _ (Qw.trans Q1.out Q2.out)).mono ?_); rintro e w3 ⟨rfl, q⟩; have Q3 := Lib.hid (Qw.trans Q2.out q); have r0 := (RX.out _ (Qw.trans Q2.out q)).cell' 0 (.int .i64 0) rfl; have f0 := (RX.out _ (Qw.trans Q2.out q)).free 0; have r1 := (RX.out _ (Qw.trans Q2.out q)).cell' 1 (.int .i64 0) rfl; have f1 := (RX.out _ (Qw.trans Q2.out q)).free 1; have r2 := (RX.out _ (Qw.trans Q2.out q)).cell' 2 (.int .i64 0) rfl; have f2 := (RX.out _ (Qw.trans Q2.out q)).free 2; have lr := (RX.out _ (Qw.trans Q2.out q)).lt; clear q)))
  have S := ((RX.out _ Q3.out).st3 (.int .i64 0) (.int .i64 0) (.int .i64 0)).alloc (.cells #[.bool false, .int .i64 0, .bool false, .int .i64 0, .bool false, .int .i64 0] WT)
  have t0 := S.cell' 0 (.int .i64 0) rfl
  have t1 := S.cell' 1 (.int .i64 0) rfl
  have t2 := S.cell' 2 (.int .i64 0) rfl
  exact bodyPost_ret (v := .tuple #[.agg #[.int .i64 0, .int .i64 0, .int .i64 0], .bool false, .int .i64 er]) (by simp [results, Tryd.results27, go_sem, t0, t1, t2]) rfl ⟨rfl, Qw.al (Qw.st3 (Qw.trans Q1.out Q3.out) hR _ _ _) _⟩
set_option maxRecDepth 100000 in
set_option maxHeartbeats 32000000 in
theorem tgTargetOk {C : Nat} {w : World} {v : Value} {l : Vs.Ar} (hv : ValsB C w v l) (hC : C ≤ w.heap.size) (s : Md.S) (p1 : 17 ≤ s.pl) (p2 : s.pl ≤ 19) (T : Tc w) (x y z : Int) (h : wth x y z = true) (hp : Tg.pe l s.pl s.un s.po = 0) (c0 c1 c2 : Int) (hc0 : Tg.cd l s.pl s.di s.un s.po 0 x = c0) (hc1 : Tg.cd l s.pl s.di s.un s.po 1 y = c1) (hc2 : Tg.cd l s.pl s.di s.un s.po 2 z = c2) :
    Calls Tryd.prog 27 #[.agg (mdc s), v, .agg #[.int .i64 x, .int .i64 y, .int .i64 z]] w fun e w' => e = .returned (.tuple #[.agg #[.int .i64 (Fm.cvx c0 c1 c2 c0), .int .i64 (Fm.cvx c0 c1 c2 c1), .int .i64 (Fm.cvx c0 c1 c2 c2)], .bool (tgb c0 c1 c2 (Tg.any l)), .int .i64 (Fm.cve c0 c1 c2)]) ∧ Qw w w' := by
  obtain ⟨hx, hy, hz⟩ := Fm.wth_bd h
  have cw := fun w => vc_within x y z (by omega) (by omega) (by omega) (by omega) (by omega) (by omega) w
  rw [h] at cw
  have CW := Lib.hid cw
  have sb := sg_ok hp
  have ST : Hid (∀ w' : World, Qw w w' → Calls Tryd.prog 55 #[.agg (mdc s), v] w' fun e w'' => e = .returned (.tuple #[.agg #[.bool (Tg.thr l 0), .int .i64 (Tg.pn l s.pl s.un s.po 0), .bool (Tg.thr l 1), .int .i64 (Tg.pn l s.pl s.un s.po 1), .bool (Tg.thr l 2), .int .i64 (Tg.pn l s.pl s.un s.po 2)], .int .i64 0]) ∧ Qw w' w'') := Lib.hid (fun w' q => by have := tgStraight (hv.kept q hC) (Nat.le_trans hC q.size) s p1 p2 (T.kept q); rwa [(sb 0).1, (sb 0).2, (sb 1).1, (sb 1).2, (sb 2).1, (sb 2).2, hp] at this)
  rw [cd_from] at hc0 hc1 hc2
  have b0 := Tg.pn_bd l s.pl s.un s.po 0 p1 p2 (by decide)
  have b1 := Tg.pn_bd l s.pl s.un s.po 1 p1 p2 (by decide)
  have b2 := Tg.pn_bd l s.pl s.un s.po 2 p1 p2 (by decide)
  have q0 := cd_bd (b := Tg.thr l 0) (d := s.di) b0.1 b0.2 hx.1 hx.2
  have q1 := cd_bd (b := Tg.thr l 1) (d := s.di) b1.1 b1.2 hy.1 hy.2
  have q2 := cd_bd (b := Tg.thr l 2) (d := s.di) b2.1 b2.2 hz.1 hz.2
  have f0 := fun w => tgFrom (Tg.thr l 0) (Tg.pn l s.pl s.un s.po 0) x s.di b0.1 b0.2 hx.1 hx.2 w
  have f1 := fun w => tgFrom (Tg.thr l 1) (Tg.pn l s.pl s.un s.po 1) y s.di b1.1 b1.2 hy.1 hy.2 w
  have f2 := fun w => tgFrom (Tg.thr l 2) (Tg.pn l s.pl s.un s.po 2) z s.di b2.1 b2.2 hz.1 hz.2 w
  rw [hc0] at f0 q0
  rw [hc1] at f1 q1
  rw [hc2] at f2 q2
  clear hc0 hc1 hc2 cw h hv hC p1 p2 T sb hp
  have AY : Tg.any l = (Tg.thr l 0 || (Tg.thr l 1 || Tg.thr l 2)) := rfl
  rw [AY]
  clear AY
  generalize Tg.thr l 0 = t0 at *
  generalize Tg.thr l 1 = t1 at *
  generalize Tg.thr l 2 = t2 at *
  generalize Tg.pn l s.pl s.un s.po 0 = n0 at *
  generalize Tg.pn l s.pl s.un s.po 1 = n1 at *
  generalize Tg.pn l s.pl s.un s.po 2 = n2 at *
  have F0 := Lib.hid f0; have F1 := Lib.hid f1; have F2 := Lib.hid f2
  have CO := Lib.hid (fun w => fmCoord c0 c1 c2 (by omega) (by omega) (by omega) (by omega) (by omega) (by omega) w)
  clear f0 f1 f2 b0 b1 b2 q0 q1 q2 hx hy hz
  go_enter Tryd.func27, Tryd.ntmps27
  go_upto_region 1 with (refine box_md 0 rfl ?_; intro w0 P hp X q; have X0 := Lib.hid X; have Q0 := Lib.hid q; clear X q)
  refine code_of (fun w' => Bx w' P (mdc s) MT ∧ Bx w' w0.heap.size #[.int .i64 x, .int .i64 y, .int .i64 z] 23 ∧ Bx w' (w0.heap.size + 1) #[.int .i64 0, .int .i64 0, .int .i64 0] 23 ∧ Qw w w') ⟨(X0.out.alloc _).alloc _, (Bx.new _ _ _).alloc _, bxn _ _ _ _, Qw.al (Qw.al Q0.out _) _⟩ ?_
  have hR : w.heap.size ≤ w0.heap.size + 1 := by have := Q0.out.size; omega
  clear X0 Q0 hp
  generalize w0.heap.size + 1 = R at *
  generalize w0.heap.size = A at *
  rintro w1 ⟨F, X, RR, q1⟩
  have y0 := X.cell' 0 (.int .i64 x) rfl
  have y1 := X.cell' 1 (.int .i64 y) rfl
  have y2 := X.cell' 2 (.int .i64 z) rfl
  have FX := Lib.hid (fun (w' : World) (q : Qw w1 w') => F.kept q)
  have AX := Lib.hid (fun (w' : World) (q : Qw w1 w') => X.kept q)
  have RX := Lib.hid (fun (w' : World) (q : Qw w1 w') => RR.kept q)
  have Q1 := Lib.hid q1
  clear F X RR q1
  go_upto_region 4 with (first | (go_at_call 43; ((with_reducible refine (CW.out _).mono ?_); rintro e w2 ⟨rfl, q⟩; have Q2 := Lib.hid q; have FX2 := Lib.hid (FX.out _ q); clear q)) | (refine ld_md 3 rfl FX2.out ?_) | (go_at_call 55; ((with_reducible refine (ST.out _ (Qw.trans Q1.out Q2.out)).mono ?_); rintro e w3 ⟨rfl, q⟩; have Q3 := Lib.hid (Qw.trans Q2.out q); clear q)))
  refine code_of (fun w' => Bx w' w3.heap.size #[.bool t0, .int .i64 n0, .bool t1, .int .i64 n1, .bool t2, .int .i64 n2] WT ∧ Qw w1 w') ⟨Bx.new _ _ _, Qw.al Q3.out _⟩ ?_
  clear y0 y1 y2 Q2 FX2 Q3 CW ST
  generalize w3.heap.size = WB at *
  rintro w4 ⟨WX, q4⟩
  have Q4 := Lib.hid q4
  have WW := Lib.hid (fun (w' : World) (q : Qw w4 w') => WX.kept q)
  clear WX q4
  go_upto_region 6 with fail
  go_cut [11, 12, 13] (fun p1 p2 p3 wx => ∃ A1 A2 A3 : Nat, p1 = .pointer (some ⟨A1, 0, none⟩) ∧ p2 = .pointer (some ⟨A2, 0, none⟩) ∧ p3 = .pointer (some ⟨A3, 0, none⟩) ∧ Hid (Bx wx A1 #[.bool t0, .int .i64 n0] 85) ∧ Hid (Bx wx A2 #[.bool t1, .int .i64 n1] 85) ∧ Hid (Bx wx A3 #[.bool t2, .int .i64 n2] 85) ∧ Hid (Qw w4 wx) ∧ w4.heap.size ≤ A1 ∧ w4.heap.size ≤ A2 ∧ w4.heap.size ≤ A3)
  case first =>
    refine wp_region_M (fun wS => Qw w4 wS) 11 (by kernel_rfl) ?_
    have hSS : Qw w4 (World.drew w4) := qw_drew1 w4
    generalize World.drew w4 = wd at *
    refine wpAnyM_take (i := 0) (v := ?_) rfl (by kernel_rfl) (fun _ _ _ h => h) (Or.inl ⟨by rfl, ?_⟩) hSS ?_
    rotate_left 1
    · intro wS hwS
      go_simp
      try with_reducible rfl
    simp only [List.getElem_toArray, List.getElem_cons_succ, List.getElem_cons_zero, Act.put, List.setIfInBounds_toArray, List.set_cons_zero, List.set_cons_succ]
    refine wpAnyM_take (i := 1) (v := ?_) rfl (by kernel_rfl) (fun _ _ _ h => h) (Or.inl ⟨by rfl, ?_⟩) hSS ?_
    rotate_left 1
    · intro wS hwS
      have e0 := (WW.out wS hwS).cell' 0 (.bool t0) rfl; have e1 := (WW.out wS hwS).cell' 1 (.int .i64 n0) rfl; go_simp
      try with_reducible rfl
    simp only [List.getElem_toArray, List.getElem_cons_succ, List.getElem_cons_zero, Act.put, List.setIfInBounds_toArray, List.set_cons_zero, List.set_cons_succ]
    refine wpAnyM_take (i := 2) (v := ?_) rfl (by kernel_rfl) (fun _ _ _ h => h) (Or.inl ⟨by rfl, ?_⟩) hSS ?_
    rotate_left 1
    · intro wS hwS
      go_simp
      try with_reducible rfl
    simp only [List.getElem_toArray, List.getElem_cons_succ, List.getElem_cons_zero, Act.put, List.setIfInBounds_toArray, List.set_cons_zero, List.set_cons_succ]
    refine wpAnyM_take (i := 3) (v := ?_) rfl (by kernel_rfl) (fun _ _ _ h => h) (Or.inl ⟨by rfl, ?_⟩) hSS ?_
    rotate_left 1
    · intro wS hwS
      have e0 := (WW.out wS hwS).cell' 2 (.bool t1) rfl; have e1 := (WW.out wS hwS).cell' 3 (.int .i64 n1) rfl; go_simp
      try with_reducible rfl
    simp only [List.getElem_toArray, List.getElem_cons_succ, List.getElem_cons_zero, Act.put, List.setIfInBounds_toArray, List.set_cons_zero, List.set_cons_succ]
    refine wpAnyM_take (i := 4) (v := ?_) rfl (by kernel_rfl) (fun _ _ _ h => h) (Or.inl ⟨by rfl, ?_⟩) hSS ?_
    rotate_left 1
    · intro wS hwS
      go_simp
      try with_reducible rfl
    simp only [List.getElem_toArray, List.getElem_cons_succ, List.getElem_cons_zero, Act.put, List.setIfInBounds_toArray, List.set_cons_zero, List.set_cons_succ]
    refine wpAnyM_take (i := 5) (v := ?_) rfl (by kernel_rfl) (fun _ _ _ h => h) (Or.inl ⟨by rfl, ?_⟩) hSS ?_
    rotate_left 1
    · intro wS hwS
      have e0 := (WW.out wS hwS).cell' 4 (.bool t2) rfl; have e1 := (WW.out wS hwS).cell' 5 (.int .i64 n2) rfl; go_simp
      try with_reducible rfl
    simp only [List.getElem_toArray, List.getElem_cons_succ, List.getElem_cons_zero, Act.put, List.setIfInBounds_toArray, List.set_cons_zero, List.set_cons_succ]
    refine tgM_three (i := 6) (j := 7) (k := 8) rfl rfl rfl (by kernel_rfl) rfl rfl rfl (fun K hK => ?_) (fun K hK => ?_) (fun K hK => ?_)
    · go_simp
      refine hK _ _ (fun _ => Qw.al hSS _) ?_
      obtain ⟨wn, N6, en, eN, hN6, m2, Z6, mm, mn⟩ := al_named2 hSS #[.bool false, .int .i64 0] 85
      rw [en, eN]
      replace Z6 := Lib.hid Z6
      clear hK K hSS en eN mm mn
      have hSS := m2
      clear m2
      try simp only [List.getElem_toArray, List.getElem_cons_succ, List.getElem_cons_zero, Act.put, List.setIfInBounds_toArray, List.set_cons_zero, List.set_cons_succ]
      refine wpAnyM_two (i := 7) (j := 8) rfl rfl (by kernel_rfl) rfl rfl (fun K hK => ?_) (fun K hK => ?_)
      · go_simp
        refine hK _ _ (fun _ => Qw.al hSS _) ?_
        obtain ⟨wn, N7, en, eN, hN7, m2, Z7, mm, mn⟩ := al_named2 hSS #[.bool false, .int .i64 0] 85
        have d67 : N6 ≠ N7 := mn _ Z6.out.lt
        rw [en, eN]
        replace Z7 := Lib.hid Z7
        have ZZ := Lib.hid (Z6.out.kept mm)
        clear Z6
        have Z6 := ZZ
        clear ZZ
        clear hK K hSS en eN mm mn
        have hSS := m2
        clear m2
        try simp only [List.getElem_toArray, List.getElem_cons_succ, List.getElem_cons_zero, Act.put, List.setIfInBounds_toArray, List.set_cons_zero, List.set_cons_succ]
        refine wpAnyM_one (i := 8) rfl (by kernel_rfl) rfl (fun K hK => ?_)
        go_simp
        refine hK _ _ (fun _ => Qw.al hSS _) ?_
        obtain ⟨wn, N8, en, eN, hN8, m2, Z8, mm, mn⟩ := al_named2 hSS #[.bool false, .int .i64 0] 85
        have d68 : N6 ≠ N8 := mn _ Z6.out.lt
        have d78 : N7 ≠ N8 := mn _ Z7.out.lt
        rw [en, eN]
        replace Z8 := Lib.hid Z8
        have ZZ := Lib.hid (Z6.out.kept mm)
        clear Z6
        have Z6 := ZZ
        clear ZZ
        have ZZ := Lib.hid (Z7.out.kept mm)
        clear Z7
        have Z7 := ZZ
        clear ZZ
        clear hK K hSS en eN mm mn
        have hSS := m2
        clear m2
        try simp only [List.getElem_toArray, List.getElem_cons_succ, List.getElem_cons_zero, Act.put, List.setIfInBounds_toArray, List.set_cons_zero, List.set_cons_succ]
        have g0 := Z6.out.cell' 0 (.bool false) rfl
        have g1 := Z6.out.cell' 1 (.int .i64 0) rfl
        have u0 := Z6.out.free 0
        have u1 := Z6.out.free 1
        refine wpAnyM_one (i := 9) rfl (by kernel_rfl) rfl (fun K hK => ?_)
        go_simp
        have ZZ := Lib.hid (Z6.out.st2 (k := 0) 1 (.bool t0) (.int .i64 n0))
        have m2 := Qw.st2 hSS hN6 0 1 (.bool t0) (.int .i64 n0)
        have Y7 := Lib.hid ((Z7.out.other (a := ⟨N6, 0, none⟩) (Ne.symm d67) (.bool t0)).other (a := ⟨N6, 1, none⟩) (Ne.symm d67) (.int .i64 n0))
        have Y8 := Lib.hid ((Z8.out.other (a := ⟨N6, 0, none⟩) (Ne.symm d68) (.bool t0)).other (a := ⟨N6, 1, none⟩) (Ne.symm d68) (.int .i64 n0))
        refine hK _ _ (fun _ => m2) ?_
        clear hK K hSS g0 g1 u0 u1 Z6 Z7 Z8
        have hSS := m2
        clear m2
        have Z6 := ZZ
        clear ZZ
        have Z7 := Y7
        clear Y7
        have Z8 := Y8
        clear Y8
        try simp only [List.getElem_toArray, List.getElem_cons_succ, List.getElem_cons_zero, Act.put, List.setIfInBounds_toArray, List.set_cons_zero, List.set_cons_succ]
        have g0 := Z7.out.cell' 0 (.bool false) rfl
        have g1 := Z7.out.cell' 1 (.int .i64 0) rfl
        have u0 := Z7.out.free 0
        have u1 := Z7.out.free 1
        refine wpAnyM_one (i := 10) rfl (by kernel_rfl) rfl (fun K hK => ?_)
        go_simp
        have ZZ := Lib.hid (Z7.out.st2 (k := 0) 1 (.bool t1) (.int .i64 n1))
        have m2 := Qw.st2 hSS hN7 0 1 (.bool t1) (.int .i64 n1)
        have Y6 := Lib.hid ((Z6.out.other (a := ⟨N7, 0, none⟩) d67 (.bool t1)).other (a := ⟨N7, 1, none⟩) d67 (.int .i64 n1))
        have Y8 := Lib.hid ((Z8.out.other (a := ⟨N7, 0, none⟩) (Ne.symm d78) (.bool t1)).other (a := ⟨N7, 1, none⟩) (Ne.symm d78) (.int .i64 n1))
        refine hK _ _ (fun _ => m2) ?_
        clear hK K hSS g0 g1 u0 u1 Z6 Z7 Z8
        have hSS := m2
        clear m2
        have Z7 := ZZ
        clear ZZ
        have Z6 := Y6
        clear Y6
        have Z8 := Y8
        clear Y8
        try simp only [List.getElem_toArray, List.getElem_cons_succ, List.getElem_cons_zero, Act.put, List.setIfInBounds_toArray, List.set_cons_zero, List.set_cons_succ]
        have g0 := Z8.out.cell' 0 (.bool false) rfl
        have g1 := Z8.out.cell' 1 (.int .i64 0) rfl
        have u0 := Z8.out.free 0
        have u1 := Z8.out.free 1
        refine wpAnyM_one (i := 11) rfl (by kernel_rfl) rfl (fun K hK => ?_)
        go_simp
        have ZZ := Lib.hid (Z8.out.st2 (k := 0) 1 (.bool t2) (.int .i64 n2))
        have m2 := Qw.st2 hSS hN8 0 1 (.bool t2) (.int .i64 n2)
        have Y6 := Lib.hid ((Z6.out.other (a := ⟨N8, 0, none⟩) d68 (.bool t2)).other (a := ⟨N8, 1, none⟩) d68 (.int .i64 n2))
        have Y7 := Lib.hid ((Z7.out.other (a := ⟨N8, 0, none⟩) d78 (.bool t2)).other (a := ⟨N8, 1, none⟩) d78 (.int .i64 n2))
        refine hK _ _ (fun h => absurd h (by decide)) ?_
        clear hK K hSS g0 g1 u0 u1 Z6 Z7 Z8
        have hSS := m2
        clear m2
        have Z8 := ZZ
        clear ZZ
        have Z6 := Y6
        clear Y6
        have Z7 := Y7
        clear Y7
        try simp only [List.getElem_toArray, List.getElem_cons_succ, List.getElem_cons_zero, Act.put, List.setIfInBounds_toArray, List.set_cons_zero, List.set_cons_succ]
        refine wpAnyM_done (by kernel_rfl) ?_ _
        go_wp2
        go_meet
        exact ⟨_, _, _, rfl, rfl, rfl, Z6, Z7, Z8, Lib.hid hSS, hN6, hN7, hN8⟩
      · go_simp
        refine hK _ _ (fun _ => Qw.al hSS _) ?_
        obtain ⟨wn, N8, en, eN, hN8, m2, Z8, mm, mn⟩ := al_named2 hSS #[.bool false, .int .i64 0] 85
        have d68 : N6 ≠ N8 := mn _ Z6.out.lt
        rw [en, eN]
        replace Z8 := Lib.hid Z8
        have ZZ := Lib.hid (Z6.out.kept mm)
        clear Z6
        have Z6 := ZZ
        clear ZZ
        clear hK K hSS en eN mm mn
        have hSS := m2
        clear m2
        try simp only [List.getElem_toArray, List.getElem_cons_succ, List.getElem_cons_zero, Act.put, List.setIfInBounds_toArray, List.set_cons_zero, List.set_cons_succ]
        refine wpAnyM_one (i := 7) rfl (by kernel_rfl) rfl (fun K hK => ?_)
        go_simp
        refine hK _ _ (fun _ => Qw.al hSS _) ?_
        obtain ⟨wn, N7, en, eN, hN7, m2, Z7, mm, mn⟩ := al_named2 hSS #[.bool false, .int .i64 0] 85
        have d67 : N6 ≠ N7 := mn _ Z6.out.lt
        have d87 : N8 ≠ N7 := mn _ Z8.out.lt
        rw [en, eN]
        replace Z7 := Lib.hid Z7
        have ZZ := Lib.hid (Z6.out.kept mm)
        clear Z6
        have Z6 := ZZ
        clear ZZ
        have ZZ := Lib.hid (Z8.out.kept mm)
        clear Z8
        have Z8 := ZZ
        clear ZZ
        clear hK K hSS en eN mm mn
        have hSS := m2
        clear m2
        try simp only [List.getElem_toArray, List.getElem_cons_succ, List.getElem_cons_zero, Act.put, List.setIfInBounds_toArray, List.set_cons_zero, List.set_cons_succ]
        have g0 := Z6.out.cell' 0 (.bool false) rfl
        have g1 := Z6.out.cell' 1 (.int .i64 0) rfl
        have u0 := Z6.out.free 0
        have u1 := Z6.out.free 1
        refine wpAnyM_one (i := 9) rfl (by kernel_rfl) rfl (fun K hK => ?_)
        go_simp
        have ZZ := Lib.hid (Z6.out.st2 (k := 0) 1 (.bool t0) (.int .i64 n0))
        have m2 := Qw.st2 hSS hN6 0 1 (.bool t0) (.int .i64 n0)
        have Y7 := Lib.hid ((Z7.out.other (a := ⟨N6, 0, none⟩) (Ne.symm d67) (.bool t0)).other (a := ⟨N6, 1, none⟩) (Ne.symm d67) (.int .i64 n0))
        have Y8 := Lib.hid ((Z8.out.other (a := ⟨N6, 0, none⟩) (Ne.symm d68) (.bool t0)).other (a := ⟨N6, 1, none⟩) (Ne.symm d68) (.int .i64 n0))
        refine hK _ _ (fun _ => m2) ?_
        clear hK K hSS g0 g1 u0 u1 Z6 Z7 Z8
        have hSS := m2
        clear m2
        have Z6 := ZZ
        clear ZZ
        have Z7 := Y7
        clear Y7
        have Z8 := Y8
        clear Y8
        try simp only [List.getElem_toArray, List.getElem_cons_succ, List.getElem_cons_zero, Act.put, List.setIfInBounds_toArray, List.set_cons_zero, List.set_cons_succ]
        have g0 := Z7.out.cell' 0 (.bool false) rfl
        have g1 := Z7.out.cell' 1 (.int .i64 0) rfl
        have u0 := Z7.out.free 0
        have u1 := Z7.out.free 1
        refine wpAnyM_one (i := 10) rfl (by kernel_rfl) rfl (fun K hK => ?_)
        go_simp
        have ZZ := Lib.hid (Z7.out.st2 (k := 0) 1 (.bool t1) (.int .i64 n1))
        have m2 := Qw.st2 hSS hN7 0 1 (.bool t1) (.int .i64 n1)
        have Y6 := Lib.hid ((Z6.out.other (a := ⟨N7, 0, none⟩) d67 (.bool t1)).other (a := ⟨N7, 1, none⟩) d67 (.int .i64 n1))
        have Y8 := Lib.hid ((Z8.out.other (a := ⟨N7, 0, none⟩) d87 (.bool t1)).other (a := ⟨N7, 1, none⟩) d87 (.int .i64 n1))
        refine hK _ _ (fun _ => m2) ?_
        clear hK K hSS g0 g1 u0 u1 Z6 Z7 Z8
        have hSS := m2
        clear m2
        have Z7 := ZZ
        clear ZZ
        have Z6 := Y6
        clear Y6
        have Z8 := Y8
        clear Y8
        try simp only [List.getElem_toArray, List.getElem_cons_succ, List.getElem_cons_zero, Act.put, List.setIfInBounds_toArray, List.set_cons_zero, List.set_cons_succ]
        have g0 := Z8.out.cell' 0 (.bool false) rfl
        have g1 := Z8.out.cell' 1 (.int .i64 0) rfl
        have u0 := Z8.out.free 0
        have u1 := Z8.out.free 1
        refine wpAnyM_one (i := 11) rfl (by kernel_rfl) rfl (fun K hK => ?_)
        go_simp
        have ZZ := Lib.hid (Z8.out.st2 (k := 0) 1 (.bool t2) (.int .i64 n2))
        have m2 := Qw.st2 hSS hN8 0 1 (.bool t2) (.int .i64 n2)
        have Y6 := Lib.hid ((Z6.out.other (a := ⟨N8, 0, none⟩) d68 (.bool t2)).other (a := ⟨N8, 1, none⟩) d68 (.int .i64 n2))
        have Y7 := Lib.hid ((Z7.out.other (a := ⟨N8, 0, none⟩) (Ne.symm d87) (.bool t2)).other (a := ⟨N8, 1, none⟩) (Ne.symm d87) (.int .i64 n2))
        refine hK _ _ (fun h => absurd h (by decide)) ?_
        clear hK K hSS g0 g1 u0 u1 Z6 Z7 Z8
        have hSS := m2
        clear m2
        have Z8 := ZZ
        clear ZZ
        have Z6 := Y6
        clear Y6
        have Z7 := Y7
        clear Y7
        try simp only [List.getElem_toArray, List.getElem_cons_succ, List.getElem_cons_zero, Act.put, List.setIfInBounds_toArray, List.set_cons_zero, List.set_cons_succ]
        refine wpAnyM_done (by kernel_rfl) ?_ _
        go_wp2
        go_meet
        exact ⟨_, _, _, rfl, rfl, rfl, Z6, Z7, Z8, Lib.hid hSS, hN6, hN7, hN8⟩
    · go_simp
      refine hK _ _ (fun _ => Qw.al hSS _) ?_
      obtain ⟨wn, N7, en, eN, hN7, m2, Z7, mm, mn⟩ := al_named2 hSS #[.bool false, .int .i64 0] 85
      rw [en, eN]
      replace Z7 := Lib.hid Z7
      clear hK K hSS en eN mm mn
      have hSS := m2
      clear m2
      try simp only [List.getElem_toArray, List.getElem_cons_succ, List.getElem_cons_zero, Act.put, List.setIfInBounds_toArray, List.set_cons_zero, List.set_cons_succ]
      refine wpAnyM_two (i := 6) (j := 8) rfl rfl (by kernel_rfl) rfl rfl (fun K hK => ?_) (fun K hK => ?_)
      · go_simp
        refine hK _ _ (fun _ => Qw.al hSS _) ?_
        obtain ⟨wn, N6, en, eN, hN6, m2, Z6, mm, mn⟩ := al_named2 hSS #[.bool false, .int .i64 0] 85
        have d76 : N7 ≠ N6 := mn _ Z7.out.lt
        rw [en, eN]
        replace Z6 := Lib.hid Z6
        have ZZ := Lib.hid (Z7.out.kept mm)
        clear Z7
        have Z7 := ZZ
        clear ZZ
        clear hK K hSS en eN mm mn
        have hSS := m2
        clear m2
        try simp only [List.getElem_toArray, List.getElem_cons_succ, List.getElem_cons_zero, Act.put, List.setIfInBounds_toArray, List.set_cons_zero, List.set_cons_succ]
        refine wpAnyM_one (i := 8) rfl (by kernel_rfl) rfl (fun K hK => ?_)
        go_simp
        refine hK _ _ (fun _ => Qw.al hSS _) ?_
        obtain ⟨wn, N8, en, eN, hN8, m2, Z8, mm, mn⟩ := al_named2 hSS #[.bool false, .int .i64 0] 85
        have d78 : N7 ≠ N8 := mn _ Z7.out.lt
        have d68 : N6 ≠ N8 := mn _ Z6.out.lt
        rw [en, eN]
        replace Z8 := Lib.hid Z8
        have ZZ := Lib.hid (Z7.out.kept mm)
        clear Z7
        have Z7 := ZZ
        clear ZZ
        have ZZ := Lib.hid (Z6.out.kept mm)
        clear Z6
        have Z6 := ZZ
        clear ZZ
        clear hK K hSS en eN mm mn
        have hSS := m2
        clear m2
        try simp only [List.getElem_toArray, List.getElem_cons_succ, List.getElem_cons_zero, Act.put, List.setIfInBounds_toArray, List.set_cons_zero, List.set_cons_succ]
        have g0 := Z6.out.cell' 0 (.bool false) rfl
        have g1 := Z6.out.cell' 1 (.int .i64 0) rfl
        have u0 := Z6.out.free 0
        have u1 := Z6.out.free 1
        refine wpAnyM_one (i := 9) rfl (by kernel_rfl) rfl (fun K hK => ?_)
        go_simp
        have ZZ := Lib.hid (Z6.out.st2 (k := 0) 1 (.bool t0) (.int .i64 n0))
        have m2 := Qw.st2 hSS hN6 0 1 (.bool t0) (.int .i64 n0)
        have Y7 := Lib.hid ((Z7.out.other (a := ⟨N6, 0, none⟩) d76 (.bool t0)).other (a := ⟨N6, 1, none⟩) d76 (.int .i64 n0))
        have Y8 := Lib.hid ((Z8.out.other (a := ⟨N6, 0, none⟩) (Ne.symm d68) (.bool t0)).other (a := ⟨N6, 1, none⟩) (Ne.symm d68) (.int .i64 n0))
        refine hK _ _ (fun _ => m2) ?_
        clear hK K hSS g0 g1 u0 u1 Z6 Z7 Z8
        have hSS := m2
        clear m2
        have Z6 := ZZ
        clear ZZ
        have Z7 := Y7
        clear Y7
        have Z8 := Y8
        clear Y8
        try simp only [List.getElem_toArray, List.getElem_cons_succ, List.getElem_cons_zero, Act.put, List.setIfInBounds_toArray, List.set_cons_zero, List.set_cons_succ]
        have g0 := Z7.out.cell' 0 (.bool false) rfl
        have g1 := Z7.out.cell' 1 (.int .i64 0) rfl
        have u0 := Z7.out.free 0
        have u1 := Z7.out.free 1
        refine wpAnyM_one (i := 10) rfl (by kernel_rfl) rfl (fun K hK => ?_)
        go_simp
        have ZZ := Lib.hid (Z7.out.st2 (k := 0) 1 (.bool t1) (.int .i64 n1))
        have m2 := Qw.st2 hSS hN7 0 1 (.bool t1) (.int .i64 n1)
        have Y6 := Lib.hid ((Z6.out.other (a := ⟨N7, 0, none⟩) (Ne.symm d76) (.bool t1)).other (a := ⟨N7, 1, none⟩) (Ne.symm d76) (.int .i64 n1))
        have Y8 := Lib.hid ((Z8.out.other (a := ⟨N7, 0, none⟩) (Ne.symm d78) (.bool t1)).other (a := ⟨N7, 1, none⟩) (Ne.symm d78) (.int .i64 n1))
        refine hK _ _ (fun _ => m2) ?_
        clear hK K hSS g0 g1 u0 u1 Z6 Z7 Z8
        have hSS := m2
        clear m2
        have Z7 := ZZ
        clear ZZ
        have Z6 := Y6
        clear Y6
        have Z8 := Y8
        clear Y8
        try simp only [List.getElem_toArray, List.getElem_cons_succ, List.getElem_cons_zero, Act.put, List.setIfInBounds_toArray, List.set_cons_zero, List.set_cons_succ]
        have g0 := Z8.out.cell' 0 (.bool false) rfl
        have g1 := Z8.out.cell' 1 (.int .i64 0) rfl
        have u0 := Z8.out.free 0
        have u1 := Z8.out.free 1
        refine wpAnyM_one (i := 11) rfl (by kernel_rfl) rfl (fun K hK => ?_)
        go_simp
        have ZZ := Lib.hid (Z8.out.st2 (k := 0) 1 (.bool t2) (.int .i64 n2))
        have m2 := Qw.st2 hSS hN8 0 1 (.bool t2) (.int .i64 n2)
        have Y6 := Lib.hid ((Z6.out.other (a := ⟨N8, 0, none⟩) d68 (.bool t2)).other (a := ⟨N8, 1, none⟩) d68 (.int .i64 n2))
        have Y7 := Lib.hid ((Z7.out.other (a := ⟨N8, 0, none⟩) d78 (.bool t2)).other (a := ⟨N8, 1, none⟩) d78 (.int .i64 n2))
        refine hK _ _ (fun h => absurd h (by decide)) ?_
        clear hK K hSS g0 g1 u0 u1 Z6 Z7 Z8
        have hSS := m2
        clear m2
        have Z8 := ZZ
        clear ZZ
        have Z6 := Y6
        clear Y6
        have Z7 := Y7
        clear Y7
        try simp only [List.getElem_toArray, List.getElem_cons_succ, List.getElem_cons_zero, Act.put, List.setIfInBounds_toArray, List.set_cons_zero, List.set_cons_succ]
        refine wpAnyM_done (by kernel_rfl) ?_ _
        go_wp2
        go_meet
        exact ⟨_, _, _, rfl, rfl, rfl, Z6, Z7, Z8, Lib.hid hSS, hN6, hN7, hN8⟩
      · go_simp
        refine hK _ _ (fun _ => Qw.al hSS _) ?_
        obtain ⟨wn, N8, en, eN, hN8, m2, Z8, mm, mn⟩ := al_named2 hSS #[.bool false, .int .i64 0] 85
        have d78 : N7 ≠ N8 := mn _ Z7.out.lt
        rw [en, eN]
        replace Z8 := Lib.hid Z8
        have ZZ := Lib.hid (Z7.out.kept mm)
        clear Z7
        have Z7 := ZZ
        clear ZZ
        clear hK K hSS en eN mm mn
        have hSS := m2
        clear m2
        try simp only [List.getElem_toArray, List.getElem_cons_succ, List.getElem_cons_zero, Act.put, List.setIfInBounds_toArray, List.set_cons_zero, List.set_cons_succ]
        refine wpAnyM_one (i := 6) rfl (by kernel_rfl) rfl (fun K hK => ?_)
        go_simp
        refine hK _ _ (fun _ => Qw.al hSS _) ?_
        obtain ⟨wn, N6, en, eN, hN6, m2, Z6, mm, mn⟩ := al_named2 hSS #[.bool false, .int .i64 0] 85
        have d76 : N7 ≠ N6 := mn _ Z7.out.lt
        have d86 : N8 ≠ N6 := mn _ Z8.out.lt
        rw [en, eN]
        replace Z6 := Lib.hid Z6
        have ZZ := Lib.hid (Z7.out.kept mm)
        clear Z7
        have Z7 := ZZ
        clear ZZ
        have ZZ := Lib.hid (Z8.out.kept mm)
        clear Z8
        have Z8 := ZZ
        clear ZZ
        clear hK K hSS en eN mm mn
        have hSS := m2
        clear m2
        try simp only [List.getElem_toArray, List.getElem_cons_succ, List.getElem_cons_zero, Act.put, List.setIfInBounds_toArray, List.set_cons_zero, List.set_cons_succ]
        have g0 := Z6.out.cell' 0 (.bool false) rfl
        have g1 := Z6.out.cell' 1 (.int .i64 0) rfl
        have u0 := Z6.out.free 0
        have u1 := Z6.out.free 1
        refine wpAnyM_one (i := 9) rfl (by kernel_rfl) rfl (fun K hK => ?_)
        go_simp
        have ZZ := Lib.hid (Z6.out.st2 (k := 0) 1 (.bool t0) (.int .i64 n0))
        have m2 := Qw.st2 hSS hN6 0 1 (.bool t0) (.int .i64 n0)
        have Y7 := Lib.hid ((Z7.out.other (a := ⟨N6, 0, none⟩) d76 (.bool t0)).other (a := ⟨N6, 1, none⟩) d76 (.int .i64 n0))
        have Y8 := Lib.hid ((Z8.out.other (a := ⟨N6, 0, none⟩) d86 (.bool t0)).other (a := ⟨N6, 1, none⟩) d86 (.int .i64 n0))
        refine hK _ _ (fun _ => m2) ?_
        clear hK K hSS g0 g1 u0 u1 Z6 Z7 Z8
        have hSS := m2
        clear m2
        have Z6 := ZZ
        clear ZZ
        have Z7 := Y7
        clear Y7
        have Z8 := Y8
        clear Y8
        try simp only [List.getElem_toArray, List.getElem_cons_succ, List.getElem_cons_zero, Act.put, List.setIfInBounds_toArray, List.set_cons_zero, List.set_cons_succ]
        have g0 := Z7.out.cell' 0 (.bool false) rfl
        have g1 := Z7.out.cell' 1 (.int .i64 0) rfl
        have u0 := Z7.out.free 0
        have u1 := Z7.out.free 1
        refine wpAnyM_one (i := 10) rfl (by kernel_rfl) rfl (fun K hK => ?_)
        go_simp
        have ZZ := Lib.hid (Z7.out.st2 (k := 0) 1 (.bool t1) (.int .i64 n1))
        have m2 := Qw.st2 hSS hN7 0 1 (.bool t1) (.int .i64 n1)
        have Y6 := Lib.hid ((Z6.out.other (a := ⟨N7, 0, none⟩) (Ne.symm d76) (.bool t1)).other (a := ⟨N7, 1, none⟩) (Ne.symm d76) (.int .i64 n1))
        have Y8 := Lib.hid ((Z8.out.other (a := ⟨N7, 0, none⟩) (Ne.symm d78) (.bool t1)).other (a := ⟨N7, 1, none⟩) (Ne.symm d78) (.int .i64 n1))
        refine hK _ _ (fun _ => m2) ?_
        clear hK K hSS g0 g1 u0 u1 Z6 Z7 Z8
        have hSS := m2
        clear m2
        have Z7 := ZZ
        clear ZZ
        have Z6 := Y6
        clear Y6
        have Z8 := Y8
        clear Y8
        try simp only [List.getElem_toArray, List.getElem_cons_succ, List.getElem_cons_zero, Act.put, List.setIfInBounds_toArray, List.set_cons_zero, List.set_cons_succ]
        have g0 := Z8.out.cell' 0 (.bool false) rfl
        have g1 := Z8.out.cell' 1 (.int .i64 0) rfl
        have u0 := Z8.out.free 0
        have u1 := Z8.out.free 1
        refine wpAnyM_one (i := 11) rfl (by kernel_rfl) rfl (fun K hK => ?_)
        go_simp
        have ZZ := Lib.hid (Z8.out.st2 (k := 0) 1 (.bool t2) (.int .i64 n2))
        have m2 := Qw.st2 hSS hN8 0 1 (.bool t2) (.int .i64 n2)
        have Y6 := Lib.hid ((Z6.out.other (a := ⟨N8, 0, none⟩) (Ne.symm d86) (.bool t2)).other (a := ⟨N8, 1, none⟩) (Ne.symm d86) (.int .i64 n2))
        have Y7 := Lib.hid ((Z7.out.other (a := ⟨N8, 0, none⟩) d78 (.bool t2)).other (a := ⟨N8, 1, none⟩) d78 (.int .i64 n2))
        refine hK _ _ (fun h => absurd h (by decide)) ?_
        clear hK K hSS g0 g1 u0 u1 Z6 Z7 Z8
        have hSS := m2
        clear m2
        have Z8 := ZZ
        clear ZZ
        have Z6 := Y6
        clear Y6
        have Z7 := Y7
        clear Y7
        try simp only [List.getElem_toArray, List.getElem_cons_succ, List.getElem_cons_zero, Act.put, List.setIfInBounds_toArray, List.set_cons_zero, List.set_cons_succ]
        refine wpAnyM_done (by kernel_rfl) ?_ _
        go_wp2
        go_meet
        exact ⟨_, _, _, rfl, rfl, rfl, Z6, Z7, Z8, Lib.hid hSS, hN6, hN7, hN8⟩
    · go_simp
      refine hK _ _ (fun _ => Qw.al hSS _) ?_
      obtain ⟨wn, N8, en, eN, hN8, m2, Z8, mm, mn⟩ := al_named2 hSS #[.bool false, .int .i64 0] 85
      rw [en, eN]
      replace Z8 := Lib.hid Z8
      clear hK K hSS en eN mm mn
      have hSS := m2
      clear m2
      try simp only [List.getElem_toArray, List.getElem_cons_succ, List.getElem_cons_zero, Act.put, List.setIfInBounds_toArray, List.set_cons_zero, List.set_cons_succ]
      refine wpAnyM_two (i := 6) (j := 7) rfl rfl (by kernel_rfl) rfl rfl (fun K hK => ?_) (fun K hK => ?_)
      · go_simp
        refine hK _ _ (fun _ => Qw.al hSS _) ?_
        obtain ⟨wn, N6, en, eN, hN6, m2, Z6, mm, mn⟩ := al_named2 hSS #[.bool false, .int .i64 0] 85
        have d86 : N8 ≠ N6 := mn _ Z8.out.lt
        rw [en, eN]
        replace Z6 := Lib.hid Z6
        have ZZ := Lib.hid (Z8.out.kept mm)
        clear Z8
        have Z8 := ZZ
        clear ZZ
        clear hK K hSS en eN mm mn
        have hSS := m2
        clear m2
        try simp only [List.getElem_toArray, List.getElem_cons_succ, List.getElem_cons_zero, Act.put, List.setIfInBounds_toArray, List.set_cons_zero, List.set_cons_succ]
        refine wpAnyM_one (i := 7) rfl (by kernel_rfl) rfl (fun K hK => ?_)
        go_simp
        refine hK _ _ (fun _ => Qw.al hSS _) ?_
        obtain ⟨wn, N7, en, eN, hN7, m2, Z7, mm, mn⟩ := al_named2 hSS #[.bool false, .int .i64 0] 85
        have d87 : N8 ≠ N7 := mn _ Z8.out.lt
        have d67 : N6 ≠ N7 := mn _ Z6.out.lt
        rw [en, eN]
        replace Z7 := Lib.hid Z7
        have ZZ := Lib.hid (Z8.out.kept mm)
        clear Z8
        have Z8 := ZZ
        clear ZZ
        have ZZ := Lib.hid (Z6.out.kept mm)
        clear Z6
        have Z6 := ZZ
        clear ZZ
        clear hK K hSS en eN mm mn
        have hSS := m2
        clear m2
        try simp only [List.getElem_toArray, List.getElem_cons_succ, List.getElem_cons_zero, Act.put, List.setIfInBounds_toArray, List.set_cons_zero, List.set_cons_succ]
        have g0 := Z6.out.cell' 0 (.bool false) rfl
        have g1 := Z6.out.cell' 1 (.int .i64 0) rfl
        have u0 := Z6.out.free 0
        have u1 := Z6.out.free 1
        refine wpAnyM_one (i := 9) rfl (by kernel_rfl) rfl (fun K hK => ?_)
        go_simp
        have ZZ := Lib.hid (Z6.out.st2 (k := 0) 1 (.bool t0) (.int .i64 n0))
        have m2 := Qw.st2 hSS hN6 0 1 (.bool t0) (.int .i64 n0)
        have Y7 := Lib.hid ((Z7.out.other (a := ⟨N6, 0, none⟩) (Ne.symm d67) (.bool t0)).other (a := ⟨N6, 1, none⟩) (Ne.symm d67) (.int .i64 n0))
        have Y8 := Lib.hid ((Z8.out.other (a := ⟨N6, 0, none⟩) d86 (.bool t0)).other (a := ⟨N6, 1, none⟩) d86 (.int .i64 n0))
        refine hK _ _ (fun _ => m2) ?_
        clear hK K hSS g0 g1 u0 u1 Z6 Z7 Z8
        have hSS := m2
        clear m2
        have Z6 := ZZ
        clear ZZ
        have Z7 := Y7
        clear Y7
        have Z8 := Y8
        clear Y8
        try simp only [List.getElem_toArray, List.getElem_cons_succ, List.getElem_cons_zero, Act.put, List.setIfInBounds_toArray, List.set_cons_zero, List.set_cons_succ]
        have g0 := Z7.out.cell' 0 (.bool false) rfl
        have g1 := Z7.out.cell' 1 (.int .i64 0) rfl
        have u0 := Z7.out.free 0
        have u1 := Z7.out.free 1
        refine wpAnyM_one (i := 10) rfl (by kernel_rfl) rfl (fun K hK => ?_)
        go_simp
        have ZZ := Lib.hid (Z7.out.st2 (k := 0) 1 (.bool t1) (.int .i64 n1))
        have m2 := Qw.st2 hSS hN7 0 1 (.bool t1) (.int .i64 n1)
        have Y6 := Lib.hid ((Z6.out.other (a := ⟨N7, 0, none⟩) d67 (.bool t1)).other (a := ⟨N7, 1, none⟩) d67 (.int .i64 n1))
        have Y8 := Lib.hid ((Z8.out.other (a := ⟨N7, 0, none⟩) d87 (.bool t1)).other (a := ⟨N7, 1, none⟩) d87 (.int .i64 n1))
        refine hK _ _ (fun _ => m2) ?_
        clear hK K hSS g0 g1 u0 u1 Z6 Z7 Z8
        have hSS := m2
        clear m2
        have Z7 := ZZ
        clear ZZ
        have Z6 := Y6
        clear Y6
        have Z8 := Y8
        clear Y8
        try simp only [List.getElem_toArray, List.getElem_cons_succ, List.getElem_cons_zero, Act.put, List.setIfInBounds_toArray, List.set_cons_zero, List.set_cons_succ]
        have g0 := Z8.out.cell' 0 (.bool false) rfl
        have g1 := Z8.out.cell' 1 (.int .i64 0) rfl
        have u0 := Z8.out.free 0
        have u1 := Z8.out.free 1
        refine wpAnyM_one (i := 11) rfl (by kernel_rfl) rfl (fun K hK => ?_)
        go_simp
        have ZZ := Lib.hid (Z8.out.st2 (k := 0) 1 (.bool t2) (.int .i64 n2))
        have m2 := Qw.st2 hSS hN8 0 1 (.bool t2) (.int .i64 n2)
        have Y6 := Lib.hid ((Z6.out.other (a := ⟨N8, 0, none⟩) (Ne.symm d86) (.bool t2)).other (a := ⟨N8, 1, none⟩) (Ne.symm d86) (.int .i64 n2))
        have Y7 := Lib.hid ((Z7.out.other (a := ⟨N8, 0, none⟩) (Ne.symm d87) (.bool t2)).other (a := ⟨N8, 1, none⟩) (Ne.symm d87) (.int .i64 n2))
        refine hK _ _ (fun h => absurd h (by decide)) ?_
        clear hK K hSS g0 g1 u0 u1 Z6 Z7 Z8
        have hSS := m2
        clear m2
        have Z8 := ZZ
        clear ZZ
        have Z6 := Y6
        clear Y6
        have Z7 := Y7
        clear Y7
        try simp only [List.getElem_toArray, List.getElem_cons_succ, List.getElem_cons_zero, Act.put, List.setIfInBounds_toArray, List.set_cons_zero, List.set_cons_succ]
        refine wpAnyM_done (by kernel_rfl) ?_ _
        go_wp2
        go_meet
        exact ⟨_, _, _, rfl, rfl, rfl, Z6, Z7, Z8, Lib.hid hSS, hN6, hN7, hN8⟩
      · go_simp
        refine hK _ _ (fun _ => Qw.al hSS _) ?_
        obtain ⟨wn, N7, en, eN, hN7, m2, Z7, mm, mn⟩ := al_named2 hSS #[.bool false, .int .i64 0] 85
        have d87 : N8 ≠ N7 := mn _ Z8.out.lt
        rw [en, eN]
        replace Z7 := Lib.hid Z7
        have ZZ := Lib.hid (Z8.out.kept mm)
        clear Z8
        have Z8 := ZZ
        clear ZZ
        clear hK K hSS en eN mm mn
        have hSS := m2
        clear m2
        try simp only [List.getElem_toArray, List.getElem_cons_succ, List.getElem_cons_zero, Act.put, List.setIfInBounds_toArray, List.set_cons_zero, List.set_cons_succ]
        refine wpAnyM_one (i := 6) rfl (by kernel_rfl) rfl (fun K hK => ?_)
        go_simp
        refine hK _ _ (fun _ => Qw.al hSS _) ?_
        obtain ⟨wn, N6, en, eN, hN6, m2, Z6, mm, mn⟩ := al_named2 hSS #[.bool false, .int .i64 0] 85
        have d86 : N8 ≠ N6 := mn _ Z8.out.lt
        have d76 : N7 ≠ N6 := mn _ Z7.out.lt
        rw [en, eN]
        replace Z6 := Lib.hid Z6
        have ZZ := Lib.hid (Z8.out.kept mm)
        clear Z8
        have Z8 := ZZ
        clear ZZ
        have ZZ := Lib.hid (Z7.out.kept mm)
        clear Z7
        have Z7 := ZZ
        clear ZZ
        clear hK K hSS en eN mm mn
        have hSS := m2
        clear m2
        try simp only [List.getElem_toArray, List.getElem_cons_succ, List.getElem_cons_zero, Act.put, List.setIfInBounds_toArray, List.set_cons_zero, List.set_cons_succ]
        have g0 := Z6.out.cell' 0 (.bool false) rfl
        have g1 := Z6.out.cell' 1 (.int .i64 0) rfl
        have u0 := Z6.out.free 0
        have u1 := Z6.out.free 1
        refine wpAnyM_one (i := 9) rfl (by kernel_rfl) rfl (fun K hK => ?_)
        go_simp
        have ZZ := Lib.hid (Z6.out.st2 (k := 0) 1 (.bool t0) (.int .i64 n0))
        have m2 := Qw.st2 hSS hN6 0 1 (.bool t0) (.int .i64 n0)
        have Y7 := Lib.hid ((Z7.out.other (a := ⟨N6, 0, none⟩) d76 (.bool t0)).other (a := ⟨N6, 1, none⟩) d76 (.int .i64 n0))
        have Y8 := Lib.hid ((Z8.out.other (a := ⟨N6, 0, none⟩) d86 (.bool t0)).other (a := ⟨N6, 1, none⟩) d86 (.int .i64 n0))
        refine hK _ _ (fun _ => m2) ?_
        clear hK K hSS g0 g1 u0 u1 Z6 Z7 Z8
        have hSS := m2
        clear m2
        have Z6 := ZZ
        clear ZZ
        have Z7 := Y7
        clear Y7
        have Z8 := Y8
        clear Y8
        try simp only [List.getElem_toArray, List.getElem_cons_succ, List.getElem_cons_zero, Act.put, List.setIfInBounds_toArray, List.set_cons_zero, List.set_cons_succ]
        have g0 := Z7.out.cell' 0 (.bool false) rfl
        have g1 := Z7.out.cell' 1 (.int .i64 0) rfl
        have u0 := Z7.out.free 0
        have u1 := Z7.out.free 1
        refine wpAnyM_one (i := 10) rfl (by kernel_rfl) rfl (fun K hK => ?_)
        go_simp
        have ZZ := Lib.hid (Z7.out.st2 (k := 0) 1 (.bool t1) (.int .i64 n1))
        have m2 := Qw.st2 hSS hN7 0 1 (.bool t1) (.int .i64 n1)
        have Y6 := Lib.hid ((Z6.out.other (a := ⟨N7, 0, none⟩) (Ne.symm d76) (.bool t1)).other (a := ⟨N7, 1, none⟩) (Ne.symm d76) (.int .i64 n1))
        have Y8 := Lib.hid ((Z8.out.other (a := ⟨N7, 0, none⟩) d87 (.bool t1)).other (a := ⟨N7, 1, none⟩) d87 (.int .i64 n1))
        refine hK _ _ (fun _ => m2) ?_
        clear hK K hSS g0 g1 u0 u1 Z6 Z7 Z8
        have hSS := m2
        clear m2
        have Z7 := ZZ
        clear ZZ
        have Z6 := Y6
        clear Y6
        have Z8 := Y8
        clear Y8
        try simp only [List.getElem_toArray, List.getElem_cons_succ, List.getElem_cons_zero, Act.put, List.setIfInBounds_toArray, List.set_cons_zero, List.set_cons_succ]
        have g0 := Z8.out.cell' 0 (.bool false) rfl
        have g1 := Z8.out.cell' 1 (.int .i64 0) rfl
        have u0 := Z8.out.free 0
        have u1 := Z8.out.free 1
        refine wpAnyM_one (i := 11) rfl (by kernel_rfl) rfl (fun K hK => ?_)
        go_simp
        have ZZ := Lib.hid (Z8.out.st2 (k := 0) 1 (.bool t2) (.int .i64 n2))
        have m2 := Qw.st2 hSS hN8 0 1 (.bool t2) (.int .i64 n2)
        have Y6 := Lib.hid ((Z6.out.other (a := ⟨N8, 0, none⟩) (Ne.symm d86) (.bool t2)).other (a := ⟨N8, 1, none⟩) (Ne.symm d86) (.int .i64 n2))
        have Y7 := Lib.hid ((Z7.out.other (a := ⟨N8, 0, none⟩) (Ne.symm d87) (.bool t2)).other (a := ⟨N8, 1, none⟩) (Ne.symm d87) (.int .i64 n2))
        refine hK _ _ (fun h => absurd h (by decide)) ?_
        clear hK K hSS g0 g1 u0 u1 Z6 Z7 Z8
        have hSS := m2
        clear m2
        have Z8 := ZZ
        clear ZZ
        have Z6 := Y6
        clear Y6
        have Z7 := Y7
        clear Y7
        try simp only [List.getElem_toArray, List.getElem_cons_succ, List.getElem_cons_zero, Act.put, List.setIfInBounds_toArray, List.set_cons_zero, List.set_cons_succ]
        refine wpAnyM_done (by kernel_rfl) ?_ _
        go_wp2
        go_meet
        exact ⟨_, _, _, rfl, rfl, rfl, Z6, Z7, Z8, Lib.hid hSS, hN6, hN7, hN8⟩
  case rest =>
    obtain ⟨A1, A2, A3, rfl, rfl, rfl, B1, B2, B3, Q5, hA1, hA2, hA3⟩ := hcut
    have lR : R < w1.heap.size := (RX.out _ (Qw.refl w1)).lt
    have nR1 : A1 ≠ R := by have := Q4.out.size; omega
    have nR2 : A2 ≠ R := by have := Q4.out.size; omega
    have nR3 : A3 ≠ R := by have := Q4.out.size; omega
    have nR4 : w1.heap.size ≤ wc.heap.size := by have := Q4.out.size; have := Q5.out.size; omega
    have QC := Lib.hid (Qw.trans Q4.out Q5.out)
    clear WW Q4 Q5 hA1 hA2 hA3
    go_upto_region 7 with fail
    go_cut [14, 10] (fun pv ev wx => ∃ N : Nat, pv = .pointer (some ⟨N, 0, none⟩) ∧ ev = .int .i64 (Fm.cve c0 c1 c2) ∧ wc.heap.size ≤ N ∧ Hid (Bx wx N #[.int .i64 (Fm.cvx c0 c1 c2 c0), .int .i64 (Fm.cvx c0 c1 c2 c1), .int .i64 (Fm.cvx c0 c1 c2 c2)] 23) ∧ Hid (Qw wc wx))
    case first =>
      generalize Fm.cvx c0 c1 c2 c0 = k0 at *
      generalize Fm.cvx c0 c1 c2 c1 = k1 at *
      generalize Fm.cvx c0 c1 c2 c2 = k2 at *
      generalize Fm.cve c0 c1 c2 = k3 at *
      refine wp_region_M (fun wS => Qw wc wS) 25 (by kernel_rfl) ?_
      have hSS : Qw wc (World.drew wc) := qw_drew1 wc
      generalize World.drew wc = wd at *
      refine wpAnyM_take (i := 0) (v := ?_) rfl (by kernel_rfl) (fun _ _ _ h => h) (Or.inl ⟨by rfl, ?_⟩) hSS ?_
      rotate_left 1
      · intro wS hwS
        have e0 := (B1.out.kept hwS).cell' 0 (.bool t0) rfl; have e1 := (B1.out.kept hwS).cell' 1 (.int .i64 n0) rfl; go_simp
        try with_reducible rfl
      simp only [List.getElem_toArray, List.getElem_cons_succ, List.getElem_cons_zero, Act.put, List.setIfInBounds_toArray, List.set_cons_zero, List.set_cons_succ]
      refine wpAnyM_take (i := 1) (v := ?_) rfl (by kernel_rfl) (fun _ _ _ h => h) (Or.inl ⟨by rfl, ?_⟩) hSS ?_
      rotate_left 1
      · intro wS hwS
        go_simp
        try with_reducible rfl
      simp only [List.getElem_toArray, List.getElem_cons_succ, List.getElem_cons_zero, Act.put, List.setIfInBounds_toArray, List.set_cons_zero, List.set_cons_succ]
      refine wpAnyM_take (i := 2) (v := ?_) rfl (by kernel_rfl) (fun _ _ _ h => h) (Or.inl ⟨by rfl, ?_⟩) hSS ?_
      rotate_left 1
      · intro wS hwS
        have e0 := (AX.out wS (Qw.trans QC.out hwS)).cell' 0 (.int .i64 x) rfl; go_simp
        try with_reducible rfl
      simp only [List.getElem_toArray, List.getElem_cons_succ, List.getElem_cons_zero, Act.put, List.setIfInBounds_toArray, List.set_cons_zero, List.set_cons_succ]
      refine wpAnyM_take (i := 3) (v := ?_) rfl (by kernel_rfl) (fun _ _ _ h => h) (Or.inl ⟨by rfl, ?_⟩) hSS ?_
      rotate_left 1
      · intro wS hwS
        go_simp
        try with_reducible rfl
      simp only [List.getElem_toArray, List.getElem_cons_succ, List.getElem_cons_zero, Act.put, List.setIfInBounds_toArray, List.set_cons_zero, List.set_cons_succ]
      refine wpAnyM_take (i := 4) (v := ?_) rfl (by kernel_rfl) (fun _ _ _ h => h) (Or.inl ⟨by rfl, ?_⟩) hSS ?_
      rotate_left 1
      · intro wS hwS
        have e0 := (FX.out wS (Qw.trans QC.out hwS)).cell' 2 (.int .i64 s.di) rfl; go_simp
        try with_reducible rfl
      simp only [List.getElem_toArray, List.getElem_cons_succ, List.getElem_cons_zero, Act.put, List.setIfInBounds_toArray, List.set_cons_zero, List.set_cons_succ]
      refine wpAnyM_take (i := 6) (v := ?_) rfl (by kernel_rfl) (fun _ _ _ h => h) (Or.inl ⟨by rfl, ?_⟩) hSS ?_
      rotate_left 1
      · intro wS hwS
        have e0 := (B2.out.kept hwS).cell' 0 (.bool t1) rfl; have e1 := (B2.out.kept hwS).cell' 1 (.int .i64 n1) rfl; go_simp
        try with_reducible rfl
      simp only [List.getElem_toArray, List.getElem_cons_succ, List.getElem_cons_zero, Act.put, List.setIfInBounds_toArray, List.set_cons_zero, List.set_cons_succ]
      refine wpAnyM_take (i := 7) (v := ?_) rfl (by kernel_rfl) (fun _ _ _ h => h) (Or.inl ⟨by rfl, ?_⟩) hSS ?_
      rotate_left 1
      · intro wS hwS
        go_simp
        try with_reducible rfl
      simp only [List.getElem_toArray, List.getElem_cons_succ, List.getElem_cons_zero, Act.put, List.setIfInBounds_toArray, List.set_cons_zero, List.set_cons_succ]
      refine wpAnyM_take (i := 8) (v := ?_) rfl (by kernel_rfl) (fun _ _ _ h => h) (Or.inl ⟨by rfl, ?_⟩) hSS ?_
      rotate_left 1
      · intro wS hwS
        have e0 := (AX.out wS (Qw.trans QC.out hwS)).cell' 1 (.int .i64 y) rfl; go_simp
        try with_reducible rfl
      simp only [List.getElem_toArray, List.getElem_cons_succ, List.getElem_cons_zero, Act.put, List.setIfInBounds_toArray, List.set_cons_zero, List.set_cons_succ]
      refine wpAnyM_take (i := 9) (v := ?_) rfl (by kernel_rfl) (fun _ _ _ h => h) (Or.inl ⟨by rfl, ?_⟩) hSS ?_
      rotate_left 1
      · intro wS hwS
        go_simp
        try with_reducible rfl
      simp only [List.getElem_toArray, List.getElem_cons_succ, List.getElem_cons_zero, Act.put, List.setIfInBounds_toArray, List.set_cons_zero, List.set_cons_succ]
      refine wpAnyM_take (i := 10) (v := ?_) rfl (by kernel_rfl) (fun _ _ _ h => h) (Or.inl ⟨by rfl, ?_⟩) hSS ?_
      rotate_left 1
      · intro wS hwS
        have e0 := (FX.out wS (Qw.trans QC.out hwS)).cell' 2 (.int .i64 s.di) rfl; go_simp
        try with_reducible rfl
      simp only [List.getElem_toArray, List.getElem_cons_succ, List.getElem_cons_zero, Act.put, List.setIfInBounds_toArray, List.set_cons_zero, List.set_cons_succ]
      refine wpAnyM_take (i := 12) (v := ?_) rfl (by kernel_rfl) (fun _ _ _ h => h) (Or.inl ⟨by rfl, ?_⟩) hSS ?_
      rotate_left 1
      · intro wS hwS
        have e0 := (B3.out.kept hwS).cell' 0 (.bool t2) rfl; have e1 := (B3.out.kept hwS).cell' 1 (.int .i64 n2) rfl; go_simp
        try with_reducible rfl
      simp only [List.getElem_toArray, List.getElem_cons_succ, List.getElem_cons_zero, Act.put, List.setIfInBounds_toArray, List.set_cons_zero, List.set_cons_succ]
      refine wpAnyM_take (i := 13) (v := ?_) rfl (by kernel_rfl) (fun _ _ _ h => h) (Or.inl ⟨by rfl, ?_⟩) hSS ?_
      rotate_left 1
      · intro wS hwS
        go_simp
        try with_reducible rfl
      simp only [List.getElem_toArray, List.getElem_cons_succ, List.getElem_cons_zero, Act.put, List.setIfInBounds_toArray, List.set_cons_zero, List.set_cons_succ]
      refine wpAnyM_take (i := 14) (v := ?_) rfl (by kernel_rfl) (fun _ _ _ h => h) (Or.inl ⟨by rfl, ?_⟩) hSS ?_
      rotate_left 1
      · intro wS hwS
        have e0 := (AX.out wS (Qw.trans QC.out hwS)).cell' 2 (.int .i64 z) rfl; go_simp
        try with_reducible rfl
      simp only [List.getElem_toArray, List.getElem_cons_succ, List.getElem_cons_zero, Act.put, List.setIfInBounds_toArray, List.set_cons_zero, List.set_cons_succ]
      refine wpAnyM_take (i := 15) (v := ?_) rfl (by kernel_rfl) (fun _ _ _ h => h) (Or.inl ⟨by rfl, ?_⟩) hSS ?_
      rotate_left 1
      · intro wS hwS
        go_simp
        try with_reducible rfl
      simp only [List.getElem_toArray, List.getElem_cons_succ, List.getElem_cons_zero, Act.put, List.setIfInBounds_toArray, List.set_cons_zero, List.set_cons_succ]
      refine wpAnyM_take (i := 16) (v := ?_) rfl (by kernel_rfl) (fun _ _ _ h => h) (Or.inl ⟨by rfl, ?_⟩) hSS ?_
      rotate_left 1
      · intro wS hwS
        have e0 := (FX.out wS (Qw.trans QC.out hwS)).cell' 2 (.int .i64 s.di) rfl; go_simp
        try with_reducible rfl
      simp only [List.getElem_toArray, List.getElem_cons_succ, List.getElem_cons_zero, Act.put, List.setIfInBounds_toArray, List.set_cons_zero, List.set_cons_succ]
      refine wpAnyM_two (i := 5) (j := 23) rfl rfl (by kernel_rfl) rfl rfl (fun K hK => ?_) (fun K hK => ?_)
      · go_simp
        refine (F0.out _).mono ?_
        rintro e w6 ⟨rfl, m⟩
        have m2 := Qw.trans hSS m
        refine hK _ _ (fun _ => m2) ?_
        clear hK K hSS m
        have hSS := m2
        clear m2
        try simp only [List.getElem_toArray, List.getElem_cons_succ, List.getElem_cons_zero, Act.put, List.setIfInBounds_toArray, List.set_cons_zero, List.set_cons_succ]
        refine wpAnyM_two (i := 11) (j := 23) rfl rfl (by kernel_rfl) rfl rfl (fun K hK => ?_) (fun K hK => ?_)
        · go_simp
          refine (F1.out _).mono ?_
          rintro e w7 ⟨rfl, m⟩
          have m2 := Qw.trans hSS m
          refine hK _ _ (fun _ => m2) ?_
          clear hK K hSS m
          have hSS := m2
          clear m2
          try simp only [List.getElem_toArray, List.getElem_cons_succ, List.getElem_cons_zero, Act.put, List.setIfInBounds_toArray, List.set_cons_zero, List.set_cons_succ]
          refine wpAnyM_two (i := 17) (j := 23) rfl rfl (by kernel_rfl) rfl rfl (fun K hK => ?_) (fun K hK => ?_)
          · go_simp
            refine (F2.out _).mono ?_
            rintro e w8 ⟨rfl, m⟩
            have m2 := Qw.trans hSS m
            refine hK _ _ (fun _ => m2) ?_
            clear hK K hSS m
            have hSS := m2
            clear m2
            try simp only [List.getElem_toArray, List.getElem_cons_succ, List.getElem_cons_zero, Act.put, List.setIfInBounds_toArray, List.set_cons_zero, List.set_cons_succ]
            refine wpAnyM_take (i := 18) (v := ?_) rfl (by kernel_rfl) (fun _ _ _ h => h) (Or.inl ⟨by rfl, ?_⟩) hSS ?_
            rotate_left 1
            · intro wS hwS
              go_simp
              try with_reducible rfl
            simp only [List.getElem_toArray, List.getElem_cons_succ, List.getElem_cons_zero, Act.put, List.setIfInBounds_toArray, List.set_cons_zero, List.set_cons_succ]
            refine wpAnyM_two (i := 19) (j := 23) rfl rfl (by kernel_rfl) rfl rfl (fun K hK => ?_) (fun K hK => ?_)
            · go_simp
              refine (CO.out _).mono ?_
              rintro e w9 ⟨rfl, m⟩
              have m2 := Qw.trans hSS m
              refine hK _ _ (fun _ => m2) ?_
              clear hK K hSS m
              have hSS := m2
              clear m2
              try simp only [List.getElem_toArray, List.getElem_cons_succ, List.getElem_cons_zero, Act.put, List.setIfInBounds_toArray, List.set_cons_zero, List.set_cons_succ]
              refine wpAnyM_take (i := 20) (v := ?_) rfl (by kernel_rfl) (fun _ _ _ h => h) (Or.inl ⟨by rfl, ?_⟩) hSS ?_
              rotate_left 1
              · intro wS hwS
                go_simp
                try with_reducible rfl
              simp only [List.getElem_toArray, List.getElem_cons_succ, List.getElem_cons_zero, Act.put, List.setIfInBounds_toArray, List.set_cons_zero, List.set_cons_succ]
              refine wpAnyM_take (i := 21) (v := ?_) rfl (by kernel_rfl) (fun _ _ _ h => h) (Or.inl ⟨by rfl, ?_⟩) hSS ?_
              rotate_left 1
              · intro wS hwS
                go_simp
                try with_reducible rfl
              simp only [List.getElem_toArray, List.getElem_cons_succ, List.getElem_cons_zero, Act.put, List.setIfInBounds_toArray, List.set_cons_zero, List.set_cons_succ]
              refine wpAnyM_take (i := 22) (v := ?_) rfl (by kernel_rfl) (fun _ _ _ h => h) (Or.inl ⟨by rfl, ?_⟩) hSS ?_
              rotate_left 1
              · intro wS hwS
                go_simp
                try with_reducible rfl
              simp only [List.getElem_toArray, List.getElem_cons_succ, List.getElem_cons_zero, Act.put, List.setIfInBounds_toArray, List.set_cons_zero, List.set_cons_succ]
              refine wpAnyM_one (i := 23) rfl (by kernel_rfl) rfl (fun K hK => ?_)
              go_simp
              refine hK _ _ (fun _ => Qw.al hSS _) ?_
              obtain ⟨wn, N, en, eN, hN, m2, Z, mm⟩ := al_named hSS #[.int .i64 0, .int .i64 0, .int .i64 0] 23
              rw [en, eN]
              replace Z := Lib.hid Z
              clear hK K hSS en eN mm
              have hSS := m2
              clear m2
              try simp only [List.getElem_toArray, List.getElem_cons_succ, List.getElem_cons_zero, Act.put, List.setIfInBounds_toArray, List.set_cons_zero, List.set_cons_succ]
              have z0 := Z.out.cell' 0 (.int .i64 0) rfl
              have z1 := Z.out.cell' 1 (.int .i64 0) rfl
              have z2 := Z.out.cell' 2 (.int .i64 0) rfl
              have y0 := Z.out.free 0
              have y1 := Z.out.free 1
              have y2 := Z.out.free 2
              refine wpAnyM_one (i := 24) rfl (by kernel_rfl) rfl (fun K hK => ?_)
              go_simp
              have hZ := Z.out.st3 (.int .i64 k0) (.int .i64 k1) (.int .i64 k2)
              refine hK _ _ (fun _ => Qw.st3 hSS hN _ _ _) ?_
              have m2 := Qw.st3 hSS hN (.int .i64 k0) (.int .i64 k1) (.int .i64 k2)
              clear hK K hSS z0 z1 z2 y0 y1 y2
              have hSS := m2
              clear m2
              try simp only [List.getElem_toArray, List.getElem_cons_succ, List.getElem_cons_zero, Act.put, List.setIfInBounds_toArray, List.set_cons_zero, List.set_cons_succ]
              refine wpAnyM_one (i := 25) rfl (by kernel_rfl) rfl (fun K hK => ?_)
              go_simp
              refine hK _ _ (fun h => absurd h (by decide)) ?_
              clear hK K
              try simp only [List.getElem_toArray, List.getElem_cons_succ, List.getElem_cons_zero, Act.put, List.setIfInBounds_toArray, List.set_cons_zero, List.set_cons_succ]
              refine wpAnyM_done (by kernel_rfl) ?_ _
              go_wp2
              go_meet
              exact ⟨_, rfl, rfl, hN, Lib.hid hZ, Lib.hid hSS⟩
            · go_simp
              refine hK _ _ (fun _ => Qw.al hSS _) ?_
              obtain ⟨wn, N, en, eN, hN, m2, Z, mm⟩ := al_named hSS #[.int .i64 0, .int .i64 0, .int .i64 0] 23
              rw [en, eN]
              replace Z := Lib.hid Z
              clear hK K hSS en eN mm
              have hSS := m2
              clear m2
              try simp only [List.getElem_toArray, List.getElem_cons_succ, List.getElem_cons_zero, Act.put, List.setIfInBounds_toArray, List.set_cons_zero, List.set_cons_succ]
              refine wpAnyM_one (i := 19) rfl (by kernel_rfl) rfl (fun K hK => ?_)
              go_simp
              refine (CO.out _).mono ?_
              rintro e w9 ⟨rfl, m⟩
              have Z2 := Lib.hid (Z.out.kept m)
              clear Z
              have Z := Z2
              clear Z2
              have m2 := Qw.trans hSS m
              refine hK _ _ (fun _ => m2) ?_
              clear hK K hSS m
              have hSS := m2
              clear m2
              try simp only [List.getElem_toArray, List.getElem_cons_succ, List.getElem_cons_zero, Act.put, List.setIfInBounds_toArray, List.set_cons_zero, List.set_cons_succ]
              refine wpAnyM_take (i := 20) (v := ?_) rfl (by kernel_rfl) (fun _ _ _ h => h) (Or.inl ⟨by rfl, ?_⟩) hSS ?_
              rotate_left 1
              · intro wS hwS
                go_simp
                try with_reducible rfl
              simp only [List.getElem_toArray, List.getElem_cons_succ, List.getElem_cons_zero, Act.put, List.setIfInBounds_toArray, List.set_cons_zero, List.set_cons_succ]
              refine wpAnyM_take (i := 21) (v := ?_) rfl (by kernel_rfl) (fun _ _ _ h => h) (Or.inl ⟨by rfl, ?_⟩) hSS ?_
              rotate_left 1
              · intro wS hwS
                go_simp
                try with_reducible rfl
              simp only [List.getElem_toArray, List.getElem_cons_succ, List.getElem_cons_zero, Act.put, List.setIfInBounds_toArray, List.set_cons_zero, List.set_cons_succ]
              refine wpAnyM_take (i := 22) (v := ?_) rfl (by kernel_rfl) (fun _ _ _ h => h) (Or.inl ⟨by rfl, ?_⟩) hSS ?_
              rotate_left 1
              · intro wS hwS
                go_simp
                try with_reducible rfl
              simp only [List.getElem_toArray, List.getElem_cons_succ, List.getElem_cons_zero, Act.put, List.setIfInBounds_toArray, List.set_cons_zero, List.set_cons_succ]
              have z0 := Z.out.cell' 0 (.int .i64 0) rfl
              have z1 := Z.out.cell' 1 (.int .i64 0) rfl
              have z2 := Z.out.cell' 2 (.int .i64 0) rfl
              have y0 := Z.out.free 0
              have y1 := Z.out.free 1
              have y2 := Z.out.free 2
              refine wpAnyM_one (i := 24) rfl (by kernel_rfl) rfl (fun K hK => ?_)
              go_simp
              have hZ := Z.out.st3 (.int .i64 k0) (.int .i64 k1) (.int .i64 k2)
              refine hK _ _ (fun _ => Qw.st3 hSS hN _ _ _) ?_
              have m2 := Qw.st3 hSS hN (.int .i64 k0) (.int .i64 k1) (.int .i64 k2)
              clear hK K hSS z0 z1 z2 y0 y1 y2
              have hSS := m2
              clear m2
              try simp only [List.getElem_toArray, List.getElem_cons_succ, List.getElem_cons_zero, Act.put, List.setIfInBounds_toArray, List.set_cons_zero, List.set_cons_succ]
              refine wpAnyM_one (i := 25) rfl (by kernel_rfl) rfl (fun K hK => ?_)
              go_simp
              refine hK _ _ (fun h => absurd h (by decide)) ?_
              clear hK K
              try simp only [List.getElem_toArray, List.getElem_cons_succ, List.getElem_cons_zero, Act.put, List.setIfInBounds_toArray, List.set_cons_zero, List.set_cons_succ]
              refine wpAnyM_done (by kernel_rfl) ?_ _
              go_wp2
              go_meet
              exact ⟨_, rfl, rfl, hN, Lib.hid hZ, Lib.hid hSS⟩
          · go_simp
            refine hK _ _ (fun _ => Qw.al hSS _) ?_
            obtain ⟨wn, N, en, eN, hN, m2, Z, mm⟩ := al_named hSS #[.int .i64 0, .int .i64 0, .int .i64 0] 23
            rw [en, eN]
            replace Z := Lib.hid Z
            clear hK K hSS en eN mm
            have hSS := m2
            clear m2
            try simp only [List.getElem_toArray, List.getElem_cons_succ, List.getElem_cons_zero, Act.put, List.setIfInBounds_toArray, List.set_cons_zero, List.set_cons_succ]
            refine wpAnyM_one (i := 17) rfl (by kernel_rfl) rfl (fun K hK => ?_)
            go_simp
            refine (F2.out _).mono ?_
            rintro e w8 ⟨rfl, m⟩
            have Z2 := Lib.hid (Z.out.kept m)
            clear Z
            have Z := Z2
            clear Z2
            have m2 := Qw.trans hSS m
            refine hK _ _ (fun _ => m2) ?_
            clear hK K hSS m
            have hSS := m2
            clear m2
            try simp only [List.getElem_toArray, List.getElem_cons_succ, List.getElem_cons_zero, Act.put, List.setIfInBounds_toArray, List.set_cons_zero, List.set_cons_succ]
            refine wpAnyM_take (i := 18) (v := ?_) rfl (by kernel_rfl) (fun _ _ _ h => h) (Or.inl ⟨by rfl, ?_⟩) hSS ?_
            rotate_left 1
            · intro wS hwS
              go_simp
              try with_reducible rfl
            simp only [List.getElem_toArray, List.getElem_cons_succ, List.getElem_cons_zero, Act.put, List.setIfInBounds_toArray, List.set_cons_zero, List.set_cons_succ]
            refine wpAnyM_one (i := 19) rfl (by kernel_rfl) rfl (fun K hK => ?_)
            go_simp
            refine (CO.out _).mono ?_
            rintro e w9 ⟨rfl, m⟩
            have Z2 := Lib.hid (Z.out.kept m)
            clear Z
            have Z := Z2
            clear Z2
            have m2 := Qw.trans hSS m
            refine hK _ _ (fun _ => m2) ?_
            clear hK K hSS m
            have hSS := m2
            clear m2
            try simp only [List.getElem_toArray, List.getElem_cons_succ, List.getElem_cons_zero, Act.put, List.setIfInBounds_toArray, List.set_cons_zero, List.set_cons_succ]
            refine wpAnyM_take (i := 20) (v := ?_) rfl (by kernel_rfl) (fun _ _ _ h => h) (Or.inl ⟨by rfl, ?_⟩) hSS ?_
            rotate_left 1
            · intro wS hwS
              go_simp
              try with_reducible rfl
            simp only [List.getElem_toArray, List.getElem_cons_succ, List.getElem_cons_zero, Act.put, List.setIfInBounds_toArray, List.set_cons_zero, List.set_cons_succ]
            refine wpAnyM_take (i := 21) (v := ?_) rfl (by kernel_rfl) (fun _ _ _ h => h) (Or.inl ⟨by rfl, ?_⟩) hSS ?_
            rotate_left 1
            · intro wS hwS
              go_simp
              try with_reducible rfl
            simp only [List.getElem_toArray, List.getElem_cons_succ, List.getElem_cons_zero, Act.put, List.setIfInBounds_toArray, List.set_cons_zero, List.set_cons_succ]
            refine wpAnyM_take (i := 22) (v := ?_) rfl (by kernel_rfl) (fun _ _ _ h => h) (Or.inl ⟨by rfl, ?_⟩) hSS ?_
            rotate_left 1
            · intro wS hwS
              go_simp
              try with_reducible rfl
            simp only [List.getElem_toArray, List.getElem_cons_succ, List.getElem_cons_zero, Act.put, List.setIfInBounds_toArray, List.set_cons_zero, List.set_cons_succ]
            have z0 := Z.out.cell' 0 (.int .i64 0) rfl
            have z1 := Z.out.cell' 1 (.int .i64 0) rfl
            have z2 := Z.out.cell' 2 (.int .i64 0) rfl
            have y0 := Z.out.free 0
            have y1 := Z.out.free 1
            have y2 := Z.out.free 2
            refine wpAnyM_one (i := 24) rfl (by kernel_rfl) rfl (fun K hK => ?_)
            go_simp
            have hZ := Z.out.st3 (.int .i64 k0) (.int .i64 k1) (.int .i64 k2)
            refine hK _ _ (fun _ => Qw.st3 hSS hN _ _ _) ?_
            have m2 := Qw.st3 hSS hN (.int .i64 k0) (.int .i64 k1) (.int .i64 k2)
            clear hK K hSS z0 z1 z2 y0 y1 y2
            have hSS := m2
            clear m2
            try simp only [List.getElem_toArray, List.getElem_cons_succ, List.getElem_cons_zero, Act.put, List.setIfInBounds_toArray, List.set_cons_zero, List.set_cons_succ]
            refine wpAnyM_one (i := 25) rfl (by kernel_rfl) rfl (fun K hK => ?_)
            go_simp
            refine hK _ _ (fun h => absurd h (by decide)) ?_
            clear hK K
            try simp only [List.getElem_toArray, List.getElem_cons_succ, List.getElem_cons_zero, Act.put, List.setIfInBounds_toArray, List.set_cons_zero, List.set_cons_succ]
            refine wpAnyM_done (by kernel_rfl) ?_ _
            go_wp2
            go_meet
            exact ⟨_, rfl, rfl, hN, Lib.hid hZ, Lib.hid hSS⟩
        · go_simp
          refine hK _ _ (fun _ => Qw.al hSS _) ?_
          obtain ⟨wn, N, en, eN, hN, m2, Z, mm⟩ := al_named hSS #[.int .i64 0, .int .i64 0, .int .i64 0] 23
          rw [en, eN]
          replace Z := Lib.hid Z
          clear hK K hSS en eN mm
          have hSS := m2
          clear m2
          try simp only [List.getElem_toArray, List.getElem_cons_succ, List.getElem_cons_zero, Act.put, List.setIfInBounds_toArray, List.set_cons_zero, List.set_cons_succ]
          refine wpAnyM_one (i := 11) rfl (by kernel_rfl) rfl (fun K hK => ?_)
          go_simp
          refine (F1.out _).mono ?_
          rintro e w7 ⟨rfl, m⟩
          have Z2 := Lib.hid (Z.out.kept m)
          clear Z
          have Z := Z2
          clear Z2
          have m2 := Qw.trans hSS m
          refine hK _ _ (fun _ => m2) ?_
          clear hK K hSS m
          have hSS := m2
          clear m2
          try simp only [List.getElem_toArray, List.getElem_cons_succ, List.getElem_cons_zero, Act.put, List.setIfInBounds_toArray, List.set_cons_zero, List.set_cons_succ]
          refine wpAnyM_one (i := 17) rfl (by kernel_rfl) rfl (fun K hK => ?_)
          go_simp
          refine (F2.out _).mono ?_
          rintro e w8 ⟨rfl, m⟩
          have Z2 := Lib.hid (Z.out.kept m)
          clear Z
          have Z := Z2
          clear Z2
          have m2 := Qw.trans hSS m
          refine hK _ _ (fun _ => m2) ?_
          clear hK K hSS m
          have hSS := m2
          clear m2
          try simp only [List.getElem_toArray, List.getElem_cons_succ, List.getElem_cons_zero, Act.put, List.setIfInBounds_toArray, List.set_cons_zero, List.set_cons_succ]
          refine wpAnyM_take (i := 18) (v := ?_) rfl (by kernel_rfl) (fun _ _ _ h => h) (Or.inl ⟨by rfl, ?_⟩) hSS ?_
          rotate_left 1
          · intro wS hwS
            go_simp
            try with_reducible rfl
          simp only [List.getElem_toArray, List.getElem_cons_succ, List.getElem_cons_zero, Act.put, List.setIfInBounds_toArray, List.set_cons_zero, List.set_cons_succ]
          refine wpAnyM_one (i := 19) rfl (by kernel_rfl) rfl (fun K hK => ?_)
          go_simp
          refine (CO.out _).mono ?_
          rintro e w9 ⟨rfl, m⟩
          have Z2 := Lib.hid (Z.out.kept m)
          clear Z
          have Z := Z2
          clear Z2
          have m2 := Qw.trans hSS m
          refine hK _ _ (fun _ => m2) ?_
          clear hK K hSS m
          have hSS := m2
          clear m2
          try simp only [List.getElem_toArray, List.getElem_cons_succ, List.getElem_cons_zero, Act.put, List.setIfInBounds_toArray, List.set_cons_zero, List.set_cons_succ]
          refine wpAnyM_take (i := 20) (v := ?_) rfl (by kernel_rfl) (fun _ _ _ h => h) (Or.inl ⟨by rfl, ?_⟩) hSS ?_
          rotate_left 1
          · intro wS hwS
            go_simp
            try with_reducible rfl
          simp only [List.getElem_toArray, List.getElem_cons_succ, List.getElem_cons_zero, Act.put, List.setIfInBounds_toArray, List.set_cons_zero, List.set_cons_succ]
          refine wpAnyM_take (i := 21) (v := ?_) rfl (by kernel_rfl) (fun _ _ _ h => h) (Or.inl ⟨by rfl, ?_⟩) hSS ?_
          rotate_left 1
          · intro wS hwS
            go_simp
            try with_reducible rfl
          simp only [List.getElem_toArray, List.getElem_cons_succ, List.getElem_cons_zero, Act.put, List.setIfInBounds_toArray, List.set_cons_zero, List.set_cons_succ]
          refine wpAnyM_take (i := 22) (v := ?_) rfl (by kernel_rfl) (fun _ _ _ h => h) (Or.inl ⟨by rfl, ?_⟩) hSS ?_
          rotate_left 1
          · intro wS hwS
            go_simp
            try with_reducible rfl
          simp only [List.getElem_toArray, List.getElem_cons_succ, List.getElem_cons_zero, Act.put, List.setIfInBounds_toArray, List.set_cons_zero, List.set_cons_succ]
          have z0 := Z.out.cell' 0 (.int .i64 0) rfl
          have z1 := Z.out.cell' 1 (.int .i64 0) rfl
          have z2 := Z.out.cell' 2 (.int .i64 0) rfl
          have y0 := Z.out.free 0
          have y1 := Z.out.free 1
          have y2 := Z.out.free 2
          refine wpAnyM_one (i := 24) rfl (by kernel_rfl) rfl (fun K hK => ?_)
          go_simp
          have hZ := Z.out.st3 (.int .i64 k0) (.int .i64 k1) (.int .i64 k2)
          refine hK _ _ (fun _ => Qw.st3 hSS hN _ _ _) ?_
          have m2 := Qw.st3 hSS hN (.int .i64 k0) (.int .i64 k1) (.int .i64 k2)
          clear hK K hSS z0 z1 z2 y0 y1 y2
          have hSS := m2
          clear m2
          try simp only [List.getElem_toArray, List.getElem_cons_succ, List.getElem_cons_zero, Act.put, List.setIfInBounds_toArray, List.set_cons_zero, List.set_cons_succ]
          refine wpAnyM_one (i := 25) rfl (by kernel_rfl) rfl (fun K hK => ?_)
          go_simp
          refine hK _ _ (fun h => absurd h (by decide)) ?_
          clear hK K
          try simp only [List.getElem_toArray, List.getElem_cons_succ, List.getElem_cons_zero, Act.put, List.setIfInBounds_toArray, List.set_cons_zero, List.set_cons_succ]
          refine wpAnyM_done (by kernel_rfl) ?_ _
          go_wp2
          go_meet
          exact ⟨_, rfl, rfl, hN, Lib.hid hZ, Lib.hid hSS⟩
      · go_simp
        refine hK _ _ (fun _ => Qw.al hSS _) ?_
        obtain ⟨wn, N, en, eN, hN, m2, Z, mm⟩ := al_named hSS #[.int .i64 0, .int .i64 0, .int .i64 0] 23
        rw [en, eN]
        replace Z := Lib.hid Z
        clear hK K hSS en eN mm
        have hSS := m2
        clear m2
        try simp only [List.getElem_toArray, List.getElem_cons_succ, List.getElem_cons_zero, Act.put, List.setIfInBounds_toArray, List.set_cons_zero, List.set_cons_succ]
        refine wpAnyM_one (i := 5) rfl (by kernel_rfl) rfl (fun K hK => ?_)
        go_simp
        refine (F0.out _).mono ?_
        rintro e w6 ⟨rfl, m⟩
        have Z2 := Lib.hid (Z.out.kept m)
        clear Z
        have Z := Z2
        clear Z2
        have m2 := Qw.trans hSS m
        refine hK _ _ (fun _ => m2) ?_
        clear hK K hSS m
        have hSS := m2
        clear m2
        try simp only [List.getElem_toArray, List.getElem_cons_succ, List.getElem_cons_zero, Act.put, List.setIfInBounds_toArray, List.set_cons_zero, List.set_cons_succ]
        refine wpAnyM_one (i := 11) rfl (by kernel_rfl) rfl (fun K hK => ?_)
        go_simp
        refine (F1.out _).mono ?_
        rintro e w7 ⟨rfl, m⟩
        have Z2 := Lib.hid (Z.out.kept m)
        clear Z
        have Z := Z2
        clear Z2
        have m2 := Qw.trans hSS m
        refine hK _ _ (fun _ => m2) ?_
        clear hK K hSS m
        have hSS := m2
        clear m2
        try simp only [List.getElem_toArray, List.getElem_cons_succ, List.getElem_cons_zero, Act.put, List.setIfInBounds_toArray, List.set_cons_zero, List.set_cons_succ]
        refine wpAnyM_one (i := 17) rfl (by kernel_rfl) rfl (fun K hK => ?_)
        go_simp
        refine (F2.out _).mono ?_
        rintro e w8 ⟨rfl, m⟩
        have Z2 := Lib.hid (Z.out.kept m)
        clear Z
        have Z := Z2
        clear Z2
        have m2 := Qw.trans hSS m
        refine hK _ _ (fun _ => m2) ?_
        clear hK K hSS m
        have hSS := m2
        clear m2
        try simp only [List.getElem_toArray, List.getElem_cons_succ, List.getElem_cons_zero, Act.put, List.setIfInBounds_toArray, List.set_cons_zero, List.set_cons_succ]
        refine wpAnyM_take (i := 18) (v := ?_) rfl (by kernel_rfl) (fun _ _ _ h => h) (Or.inl ⟨by rfl, ?_⟩) hSS ?_
        rotate_left 1
        · intro wS hwS
          go_simp
          try with_reducible rfl
        simp only [List.getElem_toArray, List.getElem_cons_succ, List.getElem_cons_zero, Act.put, List.setIfInBounds_toArray, List.set_cons_zero, List.set_cons_succ]
        refine wpAnyM_one (i := 19) rfl (by kernel_rfl) rfl (fun K hK => ?_)
        go_simp
        refine (CO.out _).mono ?_
        rintro e w9 ⟨rfl, m⟩
        have Z2 := Lib.hid (Z.out.kept m)
        clear Z
        have Z := Z2
        clear Z2
        have m2 := Qw.trans hSS m
        refine hK _ _ (fun _ => m2) ?_
        clear hK K hSS m
        have hSS := m2
        clear m2
        try simp only [List.getElem_toArray, List.getElem_cons_succ, List.getElem_cons_zero, Act.put, List.setIfInBounds_toArray, List.set_cons_zero, List.set_cons_succ]
        refine wpAnyM_take (i := 20) (v := ?_) rfl (by kernel_rfl) (fun _ _ _ h => h) (Or.inl ⟨by rfl, ?_⟩) hSS ?_
        rotate_left 1
        · intro wS hwS
          go_simp
          try with_reducible rfl
        simp only [List.getElem_toArray, List.getElem_cons_succ, List.getElem_cons_zero, Act.put, List.setIfInBounds_toArray, List.set_cons_zero, List.set_cons_succ]
        refine wpAnyM_take (i := 21) (v := ?_) rfl (by kernel_rfl) (fun _ _ _ h => h) (Or.inl ⟨by rfl, ?_⟩) hSS ?_
        rotate_left 1
        · intro wS hwS
          go_simp
          try with_reducible rfl
        simp only [List.getElem_toArray, List.getElem_cons_succ, List.getElem_cons_zero, Act.put, List.setIfInBounds_toArray, List.set_cons_zero, List.set_cons_succ]
        refine wpAnyM_take (i := 22) (v := ?_) rfl (by kernel_rfl) (fun _ _ _ h => h) (Or.inl ⟨by rfl, ?_⟩) hSS ?_
        rotate_left 1
        · intro wS hwS
          go_simp
          try with_reducible rfl
        simp only [List.getElem_toArray, List.getElem_cons_succ, List.getElem_cons_zero, Act.put, List.setIfInBounds_toArray, List.set_cons_zero, List.set_cons_succ]
        have z0 := Z.out.cell' 0 (.int .i64 0) rfl
        have z1 := Z.out.cell' 1 (.int .i64 0) rfl
        have z2 := Z.out.cell' 2 (.int .i64 0) rfl
        have y0 := Z.out.free 0
        have y1 := Z.out.free 1
        have y2 := Z.out.free 2
        refine wpAnyM_one (i := 24) rfl (by kernel_rfl) rfl (fun K hK => ?_)
        go_simp
        have hZ := Z.out.st3 (.int .i64 k0) (.int .i64 k1) (.int .i64 k2)
        refine hK _ _ (fun _ => Qw.st3 hSS hN _ _ _) ?_
        have m2 := Qw.st3 hSS hN (.int .i64 k0) (.int .i64 k1) (.int .i64 k2)
        clear hK K hSS z0 z1 z2 y0 y1 y2
        have hSS := m2
        clear m2
        try simp only [List.getElem_toArray, List.getElem_cons_succ, List.getElem_cons_zero, Act.put, List.setIfInBounds_toArray, List.set_cons_zero, List.set_cons_succ]
        refine wpAnyM_one (i := 25) rfl (by kernel_rfl) rfl (fun K hK => ?_)
        go_simp
        refine hK _ _ (fun h => absurd h (by decide)) ?_
        clear hK K
        try simp only [List.getElem_toArray, List.getElem_cons_succ, List.getElem_cons_zero, Act.put, List.setIfInBounds_toArray, List.set_cons_zero, List.set_cons_succ]
        refine wpAnyM_done (by kernel_rfl) ?_ _
        go_wp2
        go_meet
        exact ⟨_, rfl, rfl, hN, Lib.hid hZ, Lib.hid hSS⟩
    case rest =>
      obtain ⟨N, rfl, rfl, hN, NX, Q6⟩ := hcut
      have nR5 : N ≠ R := by omega
      have QD := Lib.hid (Qw.trans QC.out Q6.out)
      have RR := Lib.hid (RX.out _ QD.out)
      have C1 := Lib.hid (B1.out.kept Q6.out)
      have C2 := Lib.hid (B2.out.kept Q6.out)
      have C3 := Lib.hid (B3.out.kept Q6.out)
      clear B1 B2 B3 QC Q6 RX FX AX hN nR4 F0 F1 F2 CO lR
      by_cases hw : wth c0 c1 c2 = true
      · have e0 : Fm.cvx c0 c1 c2 c0 = c0 := if_pos hw
        have e1 : Fm.cvx c0 c1 c2 c1 = c1 := if_pos hw
        have e2 : Fm.cvx c0 c1 c2 c2 = c2 := if_pos hw
        have e3 : Fm.cve c0 c1 c2 = 0 := if_pos hw
        rw [e0, e1, e2] at NX
        have EE := Lib.hid (And.intro e0 (And.intro e1 (And.intro e2 (And.intro e3 (show ∀ b, tgb c0 c1 c2 b = b from fun b => if_pos e3)))))
        clear e0 e1 e2 hw
        have hRR := RR
        clear hRR
        go_upto_region 10 with fail
        clear e3
        have start : Bx (World.drew wc) N #[.int .i64 c0, .int .i64 c1, .int .i64 c2] 23 ∧ Bx (World.drew wc) A1 #[.bool t0, .int .i64 n0] 85 ∧ Bx (World.drew wc) A2 #[.bool t1, .int .i64 n1] 85 ∧ Bx (World.drew wc) A3 #[.bool t2, .int .i64 n2] 85 :=
          ⟨NX.out.kept (qw_drew1 _), C1.out.kept (qw_drew1 _), C2.out.kept (qw_drew1 _), C3.out.kept (qw_drew1 _)⟩
        have RD := Lib.hid (RR.out.kept (qw_drew1 wc))
        have QE := Lib.hid (Qw.trans (Qw.trans Q1.out QD.out) (qw_drew1 wc))
        refine wp_region_M (fun wS => Bx wS N #[.int .i64 c0, .int .i64 c1, .int .i64 c2] 23 ∧ Bx wS A1 #[.bool t0, .int .i64 n0] 85 ∧ Bx wS A2 #[.bool t1, .int .i64 n1] 85 ∧ Bx wS A3 #[.bool t2, .int .i64 n2] 85) 13 (by kernel_rfl) ?_
        obtain ⟨s_1, s_2, s_3, s_4⟩ := start
        have hSS := And.intro s_1 (And.intro s_2 (And.intro s_3 s_4))
        clear s_1 s_2 s_3 s_4 NX C1 C2 C3 RR QD Q1
        generalize World.drew wc = wd at *
        cases t0
        · cases t1
          · cases t2
            · skip
              refine wpAnyM_take (i := 0) (v := ?_) rfl (by kernel_rfl) (fun _ _ _ h => h) (Or.inl ⟨by rfl, ?_⟩) hSS ?_
              rotate_left 1
              · intro wS hwS
                have x0 := hwS.1.cell' 0 (.int .i64 c0) rfl; have x1 := hwS.1.cell' 1 (.int .i64 c1) rfl; have x2 := hwS.1.cell' 2 (.int .i64 c2) rfl; go_simp
                try with_reducible rfl
              simp only [List.getElem_toArray, List.getElem_cons_succ, List.getElem_cons_zero, Act.put, List.setIfInBounds_toArray, List.set_cons_zero, List.set_cons_succ]
              refine wpAnyM_take (i := 1) (v := ?_) rfl (by kernel_rfl) (fun _ _ _ h => h) (Or.inl ⟨by rfl, ?_⟩) hSS ?_
              rotate_left 1
              · intro wS hwS
                go_simp
                try with_reducible rfl
              simp only [List.getElem_toArray, List.getElem_cons_succ, List.getElem_cons_zero, Act.put, List.setIfInBounds_toArray, List.set_cons_zero, List.set_cons_succ]
              refine wpAnyM_take (i := 2) (v := ?_) rfl (by kernel_rfl) (fun _ _ _ h => h) (Or.inl ⟨by rfl, ?_⟩) hSS ?_
              rotate_left 1
              · intro wS hwS
                have x0 := hwS.2.1.cell' 0 (.bool false) rfl; go_simp
                try with_reducible rfl
              simp only [List.getElem_toArray, List.getElem_cons_succ, List.getElem_cons_zero, Act.put, List.setIfInBounds_toArray, List.set_cons_zero, List.set_cons_succ]
              refine wpAnyM_take (i := 3) (v := ?_) rfl (by kernel_rfl) (fun _ _ _ h => h) (Or.inl ⟨by rfl, ?_⟩) hSS ?_
              rotate_left 1
              · intro wS hwS
                go_simp
                try with_reducible rfl
              simp only [List.getElem_toArray, List.getElem_cons_succ, List.getElem_cons_zero, Act.put, List.setIfInBounds_toArray, List.set_cons_zero, List.set_cons_succ]
              refine wpAnyM_take (i := 4) (v := ?_) rfl (by kernel_rfl) (fun _ _ _ h => h) (Or.inl ⟨by rfl, ?_⟩) hSS ?_
              rotate_left 1
              · intro wS hwS
                go_simp
                try with_reducible rfl
              simp only [List.getElem_toArray, List.getElem_cons_succ, List.getElem_cons_zero, Act.put, List.setIfInBounds_toArray, List.set_cons_zero, List.set_cons_succ]
              refine wpAnyM_take (i := 5) (v := ?_) rfl (by kernel_rfl) (fun _ _ _ h => h) (Or.inl ⟨by rfl, ?_⟩) hSS ?_
              rotate_left 1
              · intro wS hwS
                have x0 := hwS.2.2.1.cell' 0 (.bool false) rfl; go_simp
                try with_reducible rfl
              simp only [List.getElem_toArray, List.getElem_cons_succ, List.getElem_cons_zero, Act.put, List.setIfInBounds_toArray, List.set_cons_zero, List.set_cons_succ]
              refine wpAnyM_take (i := 6) (v := ?_) rfl (by kernel_rfl) (fun _ _ _ h => h) (Or.inl ⟨by rfl, ?_⟩) hSS ?_
              rotate_left 1
              · intro wS hwS
                go_simp
                try with_reducible rfl
              simp only [List.getElem_toArray, List.getElem_cons_succ, List.getElem_cons_zero, Act.put, List.setIfInBounds_toArray, List.set_cons_zero, List.set_cons_succ]
              refine wpAnyM_take (i := 7) (v := ?_) rfl (by kernel_rfl) (fun _ _ _ h => h) (Or.inl ⟨by rfl, ?_⟩) hSS ?_
              rotate_left 1
              · intro wS hwS
                go_simp
                try with_reducible rfl
              simp only [List.getElem_toArray, List.getElem_cons_succ, List.getElem_cons_zero, Act.put, List.setIfInBounds_toArray, List.set_cons_zero, List.set_cons_succ]
              refine wpAnyM_take (i := 8) (v := ?_) rfl (by kernel_rfl) (fun _ _ _ h => h) (Or.inl ⟨by rfl, ?_⟩) hSS ?_
              rotate_left 1
              · intro wS hwS
                go_simp
                try with_reducible rfl
              simp only [List.getElem_toArray, List.getElem_cons_succ, List.getElem_cons_zero, Act.put, List.setIfInBounds_toArray, List.set_cons_zero, List.set_cons_succ]
              refine wpAnyM_take (i := 9) (v := ?_) rfl (by kernel_rfl) (fun _ _ _ h => h) (Or.inl ⟨by rfl, ?_⟩) hSS ?_
              rotate_left 1
              · intro wS hwS
                have x0 := hwS.2.2.2.cell' 0 (.bool false) rfl; go_simp
                try with_reducible rfl
              simp only [List.getElem_toArray, List.getElem_cons_succ, List.getElem_cons_zero, Act.put, List.setIfInBounds_toArray, List.set_cons_zero, List.set_cons_succ]
              refine wpAnyM_take (i := 10) (v := ?_) rfl (by kernel_rfl) (fun _ _ _ h => h) (Or.inl ⟨by rfl, ?_⟩) hSS ?_
              rotate_left 1
              · intro wS hwS
                go_simp
                try with_reducible rfl
              simp only [List.getElem_toArray, List.getElem_cons_succ, List.getElem_cons_zero, Act.put, List.setIfInBounds_toArray, List.set_cons_zero, List.set_cons_succ]
              have z0 := RD.out.cell' 0 (.int .i64 0) rfl
              have z1 := RD.out.cell' 1 (.int .i64 0) rfl
              have z2 := RD.out.cell' 2 (.int .i64 0) rfl
              have y0 := RD.out.free 0
              have y1 := RD.out.free 1
              have y2 := RD.out.free 2
              refine wpAnyM_one (i := 11) rfl (by kernel_rfl) rfl (fun K hK => ?_)
              go_simp
              have m2 := And.intro (fst3 hSS.1 nR5 (.int .i64 c0) (.int .i64 c1) (.int .i64 c2)) (And.intro (fst3 hSS.2.1 nR1 (.int .i64 c0) (.int .i64 c1) (.int .i64 c2)) (And.intro (fst3 hSS.2.2.1 nR2 (.int .i64 c0) (.int .i64 c1) (.int .i64 c2)) (fst3 hSS.2.2.2 nR3 (.int .i64 c0) (.int .i64 c1) (.int .i64 c2))))
              refine hK _ _ (fun _ => m2) ?_
              clear hK K hSS z0 z1 z2 y0 y1 y2
              have hSS := m2
              clear m2
              try simp only [List.getElem_toArray, List.getElem_cons_succ, List.getElem_cons_zero, Act.put, List.setIfInBounds_toArray, List.set_cons_zero, List.set_cons_succ]
              refine wpAnyM_one (i := 12) rfl (by kernel_rfl) rfl (fun K hK => ?_)
              go_simp
              refine hK _ _ (fun _ => hSS) ?_
              clear hK K
              try simp only [List.getElem_toArray, List.getElem_cons_succ, List.getElem_cons_zero, Act.put, List.setIfInBounds_toArray, List.set_cons_zero, List.set_cons_succ]
              refine wpAnyM_one (i := 13) rfl (by kernel_rfl) rfl (fun K hK => ?_)
              go_simp
              refine hK _ _ (fun h => absurd h (by decide)) ?_
              clear hK K
              try simp only [List.getElem_toArray, List.getElem_cons_succ, List.getElem_cons_zero, Act.put, List.setIfInBounds_toArray, List.set_cons_zero, List.set_cons_succ]
              refine wpAnyM_done (by kernel_rfl) ?_ _
              go_wp2
              have S := RD.out.st3 (.int .i64 c0) (.int .i64 c1) (.int .i64 c2)
              have k0 := S.cell' 0 (.int .i64 c0) rfl
              have k1 := S.cell' 1 (.int .i64 c1) rfl
              have k2 := S.cell' 2 (.int .i64 c2) rfl
              exact bodyPost_ret (v := .tuple #[.agg #[.int .i64 c0, .int .i64 c1, .int .i64 c2], .bool false, .int .i64 0]) (by simp [results, Tryd.results27, go_sem, k0, k1, k2]) rfl ⟨by first | (rw [EE.out.1, EE.out.2.1, EE.out.2.2.1, EE.out.2.2.2.1, EE.out.2.2.2.2]; done) | (rw [EE.out.1, EE.out.2.1, EE.out.2.2.1, EE.out.2.2.2.1, EE.out.2.2.2.2]; rfl) | (rw [EE.out.1, EE.out.2.1, EE.out.2.2.1, EE.out.2.2.2.2]; done) | (rw [EE.out.1, EE.out.2.1, EE.out.2.2.1, EE.out.2.2.2.2]; rfl), Qw.st3 QE.out hR _ _ _⟩
            · skip
              refine wpAnyM_take (i := 0) (v := ?_) rfl (by kernel_rfl) (fun _ _ _ h => h) (Or.inl ⟨by rfl, ?_⟩) hSS ?_
              rotate_left 1
              · intro wS hwS
                have x0 := hwS.1.cell' 0 (.int .i64 c0) rfl; have x1 := hwS.1.cell' 1 (.int .i64 c1) rfl; have x2 := hwS.1.cell' 2 (.int .i64 c2) rfl; go_simp
                try with_reducible rfl
              simp only [List.getElem_toArray, List.getElem_cons_succ, List.getElem_cons_zero, Act.put, List.setIfInBounds_toArray, List.set_cons_zero, List.set_cons_succ]
              refine wpAnyM_take (i := 1) (v := ?_) rfl (by kernel_rfl) (fun _ _ _ h => h) (Or.inl ⟨by rfl, ?_⟩) hSS ?_
              rotate_left 1
              · intro wS hwS
                go_simp
                try with_reducible rfl
              simp only [List.getElem_toArray, List.getElem_cons_succ, List.getElem_cons_zero, Act.put, List.setIfInBounds_toArray, List.set_cons_zero, List.set_cons_succ]
              refine wpAnyM_take (i := 2) (v := ?_) rfl (by kernel_rfl) (fun _ _ _ h => h) (Or.inl ⟨by rfl, ?_⟩) hSS ?_
              rotate_left 1
              · intro wS hwS
                have x0 := hwS.2.1.cell' 0 (.bool false) rfl; go_simp
                try with_reducible rfl
              simp only [List.getElem_toArray, List.getElem_cons_succ, List.getElem_cons_zero, Act.put, List.setIfInBounds_toArray, List.set_cons_zero, List.set_cons_succ]
              refine wpAnyM_take (i := 3) (v := ?_) rfl (by kernel_rfl) (fun _ _ _ h => h) (Or.inl ⟨by rfl, ?_⟩) hSS ?_
              rotate_left 1
              · intro wS hwS
                go_simp
                try with_reducible rfl
              simp only [List.getElem_toArray, List.getElem_cons_succ, List.getElem_cons_zero, Act.put, List.setIfInBounds_toArray, List.set_cons_zero, List.set_cons_succ]
              refine wpAnyM_take (i := 4) (v := ?_) rfl (by kernel_rfl) (fun _ _ _ h => h) (Or.inl ⟨by rfl, ?_⟩) hSS ?_
              rotate_left 1
              · intro wS hwS
                go_simp
                try with_reducible rfl
              simp only [List.getElem_toArray, List.getElem_cons_succ, List.getElem_cons_zero, Act.put, List.setIfInBounds_toArray, List.set_cons_zero, List.set_cons_succ]
              refine wpAnyM_take (i := 5) (v := ?_) rfl (by kernel_rfl) (fun _ _ _ h => h) (Or.inl ⟨by rfl, ?_⟩) hSS ?_
              rotate_left 1
              · intro wS hwS
                have x0 := hwS.2.2.1.cell' 0 (.bool false) rfl; go_simp
                try with_reducible rfl
              simp only [List.getElem_toArray, List.getElem_cons_succ, List.getElem_cons_zero, Act.put, List.setIfInBounds_toArray, List.set_cons_zero, List.set_cons_succ]
              refine wpAnyM_take (i := 6) (v := ?_) rfl (by kernel_rfl) (fun _ _ _ h => h) (Or.inl ⟨by rfl, ?_⟩) hSS ?_
              rotate_left 1
              · intro wS hwS
                go_simp
                try with_reducible rfl
              simp only [List.getElem_toArray, List.getElem_cons_succ, List.getElem_cons_zero, Act.put, List.setIfInBounds_toArray, List.set_cons_zero, List.set_cons_succ]
              refine wpAnyM_take (i := 7) (v := ?_) rfl (by kernel_rfl) (fun _ _ _ h => h) (Or.inl ⟨by rfl, ?_⟩) hSS ?_
              rotate_left 1
              · intro wS hwS
                go_simp
                try with_reducible rfl
              simp only [List.getElem_toArray, List.getElem_cons_succ, List.getElem_cons_zero, Act.put, List.setIfInBounds_toArray, List.set_cons_zero, List.set_cons_succ]
              refine wpAnyM_take (i := 8) (v := ?_) rfl (by kernel_rfl) (fun _ _ _ h => h) (Or.inl ⟨by rfl, ?_⟩) hSS ?_
              rotate_left 1
              · intro wS hwS
                go_simp
                try with_reducible rfl
              simp only [List.getElem_toArray, List.getElem_cons_succ, List.getElem_cons_zero, Act.put, List.setIfInBounds_toArray, List.set_cons_zero, List.set_cons_succ]
              refine wpAnyM_take (i := 9) (v := ?_) rfl (by kernel_rfl) (fun _ _ _ h => h) (Or.inl ⟨by rfl, ?_⟩) hSS ?_
              rotate_left 1
              · intro wS hwS
                have x0 := hwS.2.2.2.cell' 0 (.bool true) rfl; go_simp
                try with_reducible rfl
              simp only [List.getElem_toArray, List.getElem_cons_succ, List.getElem_cons_zero, Act.put, List.setIfInBounds_toArray, List.set_cons_zero, List.set_cons_succ]
              refine wpAnyM_take (i := 10) (v := ?_) rfl (by kernel_rfl) (fun _ _ _ h => h) (Or.inl ⟨by rfl, ?_⟩) hSS ?_
              rotate_left 1
              · intro wS hwS
                go_simp
                try with_reducible rfl
              simp only [List.getElem_toArray, List.getElem_cons_succ, List.getElem_cons_zero, Act.put, List.setIfInBounds_toArray, List.set_cons_zero, List.set_cons_succ]
              have z0 := RD.out.cell' 0 (.int .i64 0) rfl
              have z1 := RD.out.cell' 1 (.int .i64 0) rfl
              have z2 := RD.out.cell' 2 (.int .i64 0) rfl
              have y0 := RD.out.free 0
              have y1 := RD.out.free 1
              have y2 := RD.out.free 2
              refine wpAnyM_one (i := 11) rfl (by kernel_rfl) rfl (fun K hK => ?_)
              go_simp
              have m2 := And.intro (fst3 hSS.1 nR5 (.int .i64 c0) (.int .i64 c1) (.int .i64 c2)) (And.intro (fst3 hSS.2.1 nR1 (.int .i64 c0) (.int .i64 c1) (.int .i64 c2)) (And.intro (fst3 hSS.2.2.1 nR2 (.int .i64 c0) (.int .i64 c1) (.int .i64 c2)) (fst3 hSS.2.2.2 nR3 (.int .i64 c0) (.int .i64 c1) (.int .i64 c2))))
              refine hK _ _ (fun _ => m2) ?_
              clear hK K hSS z0 z1 z2 y0 y1 y2
              have hSS := m2
              clear m2
              try simp only [List.getElem_toArray, List.getElem_cons_succ, List.getElem_cons_zero, Act.put, List.setIfInBounds_toArray, List.set_cons_zero, List.set_cons_succ]
              refine wpAnyM_one (i := 12) rfl (by kernel_rfl) rfl (fun K hK => ?_)
              go_simp
              refine hK _ _ (fun _ => hSS) ?_
              clear hK K
              try simp only [List.getElem_toArray, List.getElem_cons_succ, List.getElem_cons_zero, Act.put, List.setIfInBounds_toArray, List.set_cons_zero, List.set_cons_succ]
              refine wpAnyM_one (i := 13) rfl (by kernel_rfl) rfl (fun K hK => ?_)
              go_simp
              refine hK _ _ (fun h => absurd h (by decide)) ?_
              clear hK K
              try simp only [List.getElem_toArray, List.getElem_cons_succ, List.getElem_cons_zero, Act.put, List.setIfInBounds_toArray, List.set_cons_zero, List.set_cons_succ]
              refine wpAnyM_done (by kernel_rfl) ?_ _
              go_wp2
              have S := RD.out.st3 (.int .i64 c0) (.int .i64 c1) (.int .i64 c2)
              have k0 := S.cell' 0 (.int .i64 c0) rfl
              have k1 := S.cell' 1 (.int .i64 c1) rfl
              have k2 := S.cell' 2 (.int .i64 c2) rfl
              exact bodyPost_ret (v := .tuple #[.agg #[.int .i64 c0, .int .i64 c1, .int .i64 c2], .bool true, .int .i64 0]) (by simp [results, Tryd.results27, go_sem, k0, k1, k2]) rfl ⟨by first | (rw [EE.out.1, EE.out.2.1, EE.out.2.2.1, EE.out.2.2.2.1, EE.out.2.2.2.2]; done) | (rw [EE.out.1, EE.out.2.1, EE.out.2.2.1, EE.out.2.2.2.1, EE.out.2.2.2.2]; rfl) | (rw [EE.out.1, EE.out.2.1, EE.out.2.2.1, EE.out.2.2.2.2]; done) | (rw [EE.out.1, EE.out.2.1, EE.out.2.2.1, EE.out.2.2.2.2]; rfl), Qw.st3 QE.out hR _ _ _⟩
          · skip
            refine wpAnyM_take (i := 0) (v := ?_) rfl (by kernel_rfl) (fun _ _ _ h => h) (Or.inl ⟨by rfl, ?_⟩) hSS ?_
            rotate_left 1
            · intro wS hwS
              have x0 := hwS.1.cell' 0 (.int .i64 c0) rfl; have x1 := hwS.1.cell' 1 (.int .i64 c1) rfl; have x2 := hwS.1.cell' 2 (.int .i64 c2) rfl; go_simp
              try with_reducible rfl
            simp only [List.getElem_toArray, List.getElem_cons_succ, List.getElem_cons_zero, Act.put, List.setIfInBounds_toArray, List.set_cons_zero, List.set_cons_succ]
            refine wpAnyM_take (i := 1) (v := ?_) rfl (by kernel_rfl) (fun _ _ _ h => h) (Or.inl ⟨by rfl, ?_⟩) hSS ?_
            rotate_left 1
            · intro wS hwS
              go_simp
              try with_reducible rfl
            simp only [List.getElem_toArray, List.getElem_cons_succ, List.getElem_cons_zero, Act.put, List.setIfInBounds_toArray, List.set_cons_zero, List.set_cons_succ]
            refine wpAnyM_take (i := 2) (v := ?_) rfl (by kernel_rfl) (fun _ _ _ h => h) (Or.inl ⟨by rfl, ?_⟩) hSS ?_
            rotate_left 1
            · intro wS hwS
              have x0 := hwS.2.1.cell' 0 (.bool false) rfl; go_simp
              try with_reducible rfl
            simp only [List.getElem_toArray, List.getElem_cons_succ, List.getElem_cons_zero, Act.put, List.setIfInBounds_toArray, List.set_cons_zero, List.set_cons_succ]
            refine wpAnyM_take (i := 3) (v := ?_) rfl (by kernel_rfl) (fun _ _ _ h => h) (Or.inl ⟨by rfl, ?_⟩) hSS ?_
            rotate_left 1
            · intro wS hwS
              go_simp
              try with_reducible rfl
            simp only [List.getElem_toArray, List.getElem_cons_succ, List.getElem_cons_zero, Act.put, List.setIfInBounds_toArray, List.set_cons_zero, List.set_cons_succ]
            refine wpAnyM_take (i := 4) (v := ?_) rfl (by kernel_rfl) (fun _ _ _ h => h) (Or.inl ⟨by rfl, ?_⟩) hSS ?_
            rotate_left 1
            · intro wS hwS
              go_simp
              try with_reducible rfl
            simp only [List.getElem_toArray, List.getElem_cons_succ, List.getElem_cons_zero, Act.put, List.setIfInBounds_toArray, List.set_cons_zero, List.set_cons_succ]
            refine wpAnyM_take (i := 5) (v := ?_) rfl (by kernel_rfl) (fun _ _ _ h => h) (Or.inl ⟨by rfl, ?_⟩) hSS ?_
            rotate_left 1
            · intro wS hwS
              have x0 := hwS.2.2.1.cell' 0 (.bool true) rfl; go_simp
              try with_reducible rfl
            simp only [List.getElem_toArray, List.getElem_cons_succ, List.getElem_cons_zero, Act.put, List.setIfInBounds_toArray, List.set_cons_zero, List.set_cons_succ]
            refine wpAnyM_take (i := 6) (v := ?_) rfl (by kernel_rfl) (fun _ _ _ h => h) (Or.inl ⟨by rfl, ?_⟩) hSS ?_
            rotate_left 1
            · intro wS hwS
              go_simp
              try with_reducible rfl
            simp only [List.getElem_toArray, List.getElem_cons_succ, List.getElem_cons_zero, Act.put, List.setIfInBounds_toArray, List.set_cons_zero, List.set_cons_succ]
            refine wpAnyM_take (i := 7) (v := ?_) rfl (by kernel_rfl) (fun _ _ _ h => h) (Or.inl ⟨by rfl, ?_⟩) hSS ?_
            rotate_left 1
            · intro wS hwS
              go_simp
              try with_reducible rfl
            simp only [List.getElem_toArray, List.getElem_cons_succ, List.getElem_cons_zero, Act.put, List.setIfInBounds_toArray, List.set_cons_zero, List.set_cons_succ]
            refine wpAnyM_take (i := 8) (v := undef) rfl (by kernel_rfl) (fun _ _ _ h => h) (Or.inr ⟨by rfl, rfl⟩) hSS ?_
            simp only [List.getElem_toArray, List.getElem_cons_succ, List.getElem_cons_zero, Act.put, List.setIfInBounds_toArray, List.set_cons_zero, List.set_cons_succ]
            refine wpAnyM_take (i := 9) (v := undef) rfl (by kernel_rfl) (fun _ _ _ h => h) (Or.inr ⟨by rfl, rfl⟩) hSS ?_
            simp only [List.getElem_toArray, List.getElem_cons_succ, List.getElem_cons_zero, Act.put, List.setIfInBounds_toArray, List.set_cons_zero, List.set_cons_succ]
            refine wpAnyM_take (i := 10) (v := ?_) rfl (by kernel_rfl) (fun _ _ _ h => h) (Or.inl ⟨by rfl, ?_⟩) hSS ?_
            rotate_left 1
            · intro wS hwS
              go_simp
              try with_reducible rfl
            simp only [List.getElem_toArray, List.getElem_cons_succ, List.getElem_cons_zero, Act.put, List.setIfInBounds_toArray, List.set_cons_zero, List.set_cons_succ]
            have z0 := RD.out.cell' 0 (.int .i64 0) rfl
            have z1 := RD.out.cell' 1 (.int .i64 0) rfl
            have z2 := RD.out.cell' 2 (.int .i64 0) rfl
            have y0 := RD.out.free 0
            have y1 := RD.out.free 1
            have y2 := RD.out.free 2
            refine wpAnyM_one (i := 11) rfl (by kernel_rfl) rfl (fun K hK => ?_)
            go_simp
            have m2 := And.intro (fst3 hSS.1 nR5 (.int .i64 c0) (.int .i64 c1) (.int .i64 c2)) (And.intro (fst3 hSS.2.1 nR1 (.int .i64 c0) (.int .i64 c1) (.int .i64 c2)) (And.intro (fst3 hSS.2.2.1 nR2 (.int .i64 c0) (.int .i64 c1) (.int .i64 c2)) (fst3 hSS.2.2.2 nR3 (.int .i64 c0) (.int .i64 c1) (.int .i64 c2))))
            refine hK _ _ (fun _ => m2) ?_
            clear hK K hSS z0 z1 z2 y0 y1 y2
            have hSS := m2
            clear m2
            try simp only [List.getElem_toArray, List.getElem_cons_succ, List.getElem_cons_zero, Act.put, List.setIfInBounds_toArray, List.set_cons_zero, List.set_cons_succ]
            refine wpAnyM_one (i := 12) rfl (by kernel_rfl) rfl (fun K hK => ?_)
            go_simp
            refine hK _ _ (fun _ => hSS) ?_
            clear hK K
            try simp only [List.getElem_toArray, List.getElem_cons_succ, List.getElem_cons_zero, Act.put, List.setIfInBounds_toArray, List.set_cons_zero, List.set_cons_succ]
            refine wpAnyM_one (i := 13) rfl (by kernel_rfl) rfl (fun K hK => ?_)
            go_simp
            refine hK _ _ (fun h => absurd h (by decide)) ?_
            clear hK K
            try simp only [List.getElem_toArray, List.getElem_cons_succ, List.getElem_cons_zero, Act.put, List.setIfInBounds_toArray, List.set_cons_zero, List.set_cons_succ]
            refine wpAnyM_done (by kernel_rfl) ?_ _
            go_wp2
            have S := RD.out.st3 (.int .i64 c0) (.int .i64 c1) (.int .i64 c2)
            have k0 := S.cell' 0 (.int .i64 c0) rfl
            have k1 := S.cell' 1 (.int .i64 c1) rfl
            have k2 := S.cell' 2 (.int .i64 c2) rfl
            exact bodyPost_ret (v := .tuple #[.agg #[.int .i64 c0, .int .i64 c1, .int .i64 c2], .bool true, .int .i64 0]) (by simp [results, Tryd.results27, go_sem, k0, k1, k2]) rfl ⟨by first | (rw [EE.out.1, EE.out.2.1, EE.out.2.2.1, EE.out.2.2.2.1, EE.out.2.2.2.2]; done) | (rw [EE.out.1, EE.out.2.1, EE.out.2.2.1, EE.out.2.2.2.1, EE.out.2.2.2.2]; rfl) | (rw [EE.out.1, EE.out.2.1, EE.out.2.2.1, EE.out.2.2.2.2]; done) | (rw [EE.out.1, EE.out.2.1, EE.out.2.2.1, EE.out.2.2.2.2]; rfl), Qw.st3 QE.out hR _ _ _⟩
        · skip
          refine wpAnyM_take (i := 0) (v := ?_) rfl (by kernel_rfl) (fun _ _ _ h => h) (Or.inl ⟨by rfl, ?_⟩) hSS ?_
          rotate_left 1
          · intro wS hwS
            have x0 := hwS.1.cell' 0 (.int .i64 c0) rfl; have x1 := hwS.1.cell' 1 (.int .i64 c1) rfl; have x2 := hwS.1.cell' 2 (.int .i64 c2) rfl; go_simp
            try with_reducible rfl
          simp only [List.getElem_toArray, List.getElem_cons_succ, List.getElem_cons_zero, Act.put, List.setIfInBounds_toArray, List.set_cons_zero, List.set_cons_succ]
          refine wpAnyM_take (i := 1) (v := ?_) rfl (by kernel_rfl) (fun _ _ _ h => h) (Or.inl ⟨by rfl, ?_⟩) hSS ?_
          rotate_left 1
          · intro wS hwS
            go_simp
            try with_reducible rfl
          simp only [List.getElem_toArray, List.getElem_cons_succ, List.getElem_cons_zero, Act.put, List.setIfInBounds_toArray, List.set_cons_zero, List.set_cons_succ]
          refine wpAnyM_take (i := 2) (v := ?_) rfl (by kernel_rfl) (fun _ _ _ h => h) (Or.inl ⟨by rfl, ?_⟩) hSS ?_
          rotate_left 1
          · intro wS hwS
            have x0 := hwS.2.1.cell' 0 (.bool true) rfl; go_simp
            try with_reducible rfl
          simp only [List.getElem_toArray, List.getElem_cons_succ, List.getElem_cons_zero, Act.put, List.setIfInBounds_toArray, List.set_cons_zero, List.set_cons_succ]
          refine wpAnyM_take (i := 3) (v := ?_) rfl (by kernel_rfl) (fun _ _ _ h => h) (Or.inl ⟨by rfl, ?_⟩) hSS ?_
          rotate_left 1
          · intro wS hwS
            go_simp
            try with_reducible rfl
          simp only [List.getElem_toArray, List.getElem_cons_succ, List.getElem_cons_zero, Act.put, List.setIfInBounds_toArray, List.set_cons_zero, List.set_cons_succ]
          refine wpAnyM_take (i := 4) (v := undef) rfl (by kernel_rfl) (fun _ _ _ h => h) (Or.inr ⟨by rfl, rfl⟩) hSS ?_
          simp only [List.getElem_toArray, List.getElem_cons_succ, List.getElem_cons_zero, Act.put, List.setIfInBounds_toArray, List.set_cons_zero, List.set_cons_succ]
          refine wpAnyM_take (i := 5) (v := undef) rfl (by kernel_rfl) (fun _ _ _ h => h) (Or.inr ⟨by rfl, rfl⟩) hSS ?_
          simp only [List.getElem_toArray, List.getElem_cons_succ, List.getElem_cons_zero, Act.put, List.setIfInBounds_toArray, List.set_cons_zero, List.set_cons_succ]
          refine wpAnyM_take (i := 6) (v := ?_) rfl (by kernel_rfl) (fun _ _ _ h => h) (Or.inl ⟨by rfl, ?_⟩) hSS ?_
          rotate_left 1
          · intro wS hwS
            go_simp
            try with_reducible rfl
          simp only [List.getElem_toArray, List.getElem_cons_succ, List.getElem_cons_zero, Act.put, List.setIfInBounds_toArray, List.set_cons_zero, List.set_cons_succ]
          refine wpAnyM_take (i := 7) (v := ?_) rfl (by kernel_rfl) (fun _ _ _ h => h) (Or.inl ⟨by rfl, ?_⟩) hSS ?_
          rotate_left 1
          · intro wS hwS
            go_simp
            try with_reducible rfl
          simp only [List.getElem_toArray, List.getElem_cons_succ, List.getElem_cons_zero, Act.put, List.setIfInBounds_toArray, List.set_cons_zero, List.set_cons_succ]
          refine wpAnyM_take (i := 8) (v := undef) rfl (by kernel_rfl) (fun _ _ _ h => h) (Or.inr ⟨by rfl, rfl⟩) hSS ?_
          simp only [List.getElem_toArray, List.getElem_cons_succ, List.getElem_cons_zero, Act.put, List.setIfInBounds_toArray, List.set_cons_zero, List.set_cons_succ]
          refine wpAnyM_take (i := 9) (v := undef) rfl (by kernel_rfl) (fun _ _ _ h => h) (Or.inr ⟨by rfl, rfl⟩) hSS ?_
          simp only [List.getElem_toArray, List.getElem_cons_succ, List.getElem_cons_zero, Act.put, List.setIfInBounds_toArray, List.set_cons_zero, List.set_cons_succ]
          refine wpAnyM_take (i := 10) (v := ?_) rfl (by kernel_rfl) (fun _ _ _ h => h) (Or.inl ⟨by rfl, ?_⟩) hSS ?_
          rotate_left 1
          · intro wS hwS
            go_simp
            try with_reducible rfl
          simp only [List.getElem_toArray, List.getElem_cons_succ, List.getElem_cons_zero, Act.put, List.setIfInBounds_toArray, List.set_cons_zero, List.set_cons_succ]
          have z0 := RD.out.cell' 0 (.int .i64 0) rfl
          have z1 := RD.out.cell' 1 (.int .i64 0) rfl
          have z2 := RD.out.cell' 2 (.int .i64 0) rfl
          have y0 := RD.out.free 0
          have y1 := RD.out.free 1
          have y2 := RD.out.free 2
          refine wpAnyM_one (i := 11) rfl (by kernel_rfl) rfl (fun K hK => ?_)
          go_simp
          have m2 := And.intro (fst3 hSS.1 nR5 (.int .i64 c0) (.int .i64 c1) (.int .i64 c2)) (And.intro (fst3 hSS.2.1 nR1 (.int .i64 c0) (.int .i64 c1) (.int .i64 c2)) (And.intro (fst3 hSS.2.2.1 nR2 (.int .i64 c0) (.int .i64 c1) (.int .i64 c2)) (fst3 hSS.2.2.2 nR3 (.int .i64 c0) (.int .i64 c1) (.int .i64 c2))))
          refine hK _ _ (fun _ => m2) ?_
          clear hK K hSS z0 z1 z2 y0 y1 y2
          have hSS := m2
          clear m2
          try simp only [List.getElem_toArray, List.getElem_cons_succ, List.getElem_cons_zero, Act.put, List.setIfInBounds_toArray, List.set_cons_zero, List.set_cons_succ]
          refine wpAnyM_one (i := 12) rfl (by kernel_rfl) rfl (fun K hK => ?_)
          go_simp
          refine hK _ _ (fun _ => hSS) ?_
          clear hK K
          try simp only [List.getElem_toArray, List.getElem_cons_succ, List.getElem_cons_zero, Act.put, List.setIfInBounds_toArray, List.set_cons_zero, List.set_cons_succ]
          refine wpAnyM_one (i := 13) rfl (by kernel_rfl) rfl (fun K hK => ?_)
          go_simp
          refine hK _ _ (fun h => absurd h (by decide)) ?_
          clear hK K
          try simp only [List.getElem_toArray, List.getElem_cons_succ, List.getElem_cons_zero, Act.put, List.setIfInBounds_toArray, List.set_cons_zero, List.set_cons_succ]
          refine wpAnyM_done (by kernel_rfl) ?_ _
          go_wp2
          have S := RD.out.st3 (.int .i64 c0) (.int .i64 c1) (.int .i64 c2)
          have k0 := S.cell' 0 (.int .i64 c0) rfl
          have k1 := S.cell' 1 (.int .i64 c1) rfl
          have k2 := S.cell' 2 (.int .i64 c2) rfl
          exact bodyPost_ret (v := .tuple #[.agg #[.int .i64 c0, .int .i64 c1, .int .i64 c2], .bool true, .int .i64 0]) (by simp [results, Tryd.results27, go_sem, k0, k1, k2]) rfl ⟨by first | (rw [EE.out.1, EE.out.2.1, EE.out.2.2.1, EE.out.2.2.2.1, EE.out.2.2.2.2]; done) | (rw [EE.out.1, EE.out.2.1, EE.out.2.2.1, EE.out.2.2.2.1, EE.out.2.2.2.2]; rfl) | (rw [EE.out.1, EE.out.2.1, EE.out.2.2.1, EE.out.2.2.2.2]; done) | (rw [EE.out.1, EE.out.2.1, EE.out.2.2.1, EE.out.2.2.2.2]; rfl), Qw.st3 QE.out hR _ _ _⟩
      · have e0 : Fm.cvx c0 c1 c2 c0 = 0 := if_neg hw
        have e1 : Fm.cvx c0 c1 c2 c1 = 0 := if_neg hw
        have e2 : Fm.cvx c0 c1 c2 c2 = 0 := if_neg hw
        have e3 : Fm.cve c0 c1 c2 = 3 := if_neg hw
        have EE := Lib.hid (And.intro e0 (And.intro e1 (And.intro e2 (And.intro e3 (show ∀ b, tgb c0 c1 c2 b = false from fun b => if_neg (by rw [e3]; decide))))))
        clear e0 e1 e2 hw NX C1 C2 C3
        have r0 := RR.out.cell' 0 (.int .i64 0) rfl
        have r1 := RR.out.cell' 1 (.int .i64 0) rfl
        have r2 := RR.out.cell' 2 (.int .i64 0) rfl
        have f0 := RR.out.free 0
        have f1 := RR.out.free 1
        have f2 := RR.out.free 2
        go_wp2
        have S := RR.out.st3 (.int .i64 0) (.int .i64 0) (.int .i64 0)
        have k0 := S.cell' 0 (.int .i64 0) rfl
        have k1 := S.cell' 1 (.int .i64 0) rfl
        have k2 := S.cell' 2 (.int .i64 0) rfl
        exact bodyPost_ret (v := .tuple #[.agg #[.int .i64 0, .int .i64 0, .int .i64 0], .bool false, .int .i64 3]) (by simp [results, Tryd.results27, go_sem, k0, k1, k2, e3]) rfl ⟨by first | (rw [EE.out.1, EE.out.2.1, EE.out.2.2.1, EE.out.2.2.2.1, EE.out.2.2.2.2]; done) | (rw [EE.out.1, EE.out.2.1, EE.out.2.2.1, EE.out.2.2.2.1, EE.out.2.2.2.2]; rfl) | (rw [EE.out.1, EE.out.2.1, EE.out.2.2.1, EE.out.2.2.2.2]; done) | (rw [EE.out.1, EE.out.2.1, EE.out.2.2.1, EE.out.2.2.2.2]; rfl), Qw.st3 (Qw.trans Q1.out QD.out) hR _ _ _⟩
theorem tgTarget {C : Nat} {w : World} {v : Value} {l : Vs.Ar} (hv : ValsB C w v l) (hC : C ≤ w.heap.size) (s : Md.S) (p1 : 17 ≤ s.pl) (p2 : s.pl ≤ 19) (T : Tc w) (x y z : Int) (x1 : -9223372036854775808 ≤ x) (x2 : x ≤ 9223372036854775807) (y1 : -9223372036854775808 ≤ y) (y2 : y ≤ 9223372036854775807) (z1 : -9223372036854775808 ≤ z) (z2 : z ≤ 9223372036854775807) :
    Calls Tryd.prog 27 #[.agg (mdc s), v, .agg #[.int .i64 x, .int .i64 y, .int .i64 z]] w fun e w' => e = .returned (.tuple #[.agg #[.int .i64 (Tg.val l s.pl s.di s.un s.po x y z (Tg.cd l s.pl s.di s.un s.po 0 x)), .int .i64 (Tg.val l s.pl s.di s.un s.po x y z (Tg.cd l s.pl s.di s.un s.po 1 y)), .int .i64 (Tg.val l s.pl s.di s.un s.po x y z (Tg.cd l s.pl s.di s.un s.po 2 z))], .bool (Tg.has l s.pl s.di s.un s.po x y z), .int .i64 (Tg.err l s.pl s.di s.un s.po x y z)]) ∧ Qw w w' := by
  cases h : wth x y z
  · have e : Tg.err l s.pl s.di s.un s.po x y z = 1 := if_neg (by rw [h]; decide)
    have e1 : ∀ n, Tg.val l s.pl s.di s.un s.po x y z n = 0 := fun n => if_neg (by rw [e]; decide)
    have e2 : Tg.has l s.pl s.di s.un s.po x y z = false := if_neg (by rw [e]; decide)
    rw [e, e1, e1, e1, e2]
    exact tgTargetNo s v x y z x1 x2 y1 y2 z1 z2 h w
  · have e : Tg.err l s.pl s.di s.un s.po x y z = if Tg.pe l s.pl s.un s.po = 0 then Fm.cve (Tg.cd l s.pl s.di s.un s.po 0 x) (Tg.cd l s.pl s.di s.un s.po 1 y) (Tg.cd l s.pl s.di s.un s.po 2 z) else Tg.pe l s.pl s.un s.po := if_pos h
    by_cases hp : Tg.pe l s.pl s.un s.po = 0
    · rw [if_pos hp] at e
      have k := tgTargetOk hv hC s p1 p2 T x y z h hp _ _ _ rfl rfl rfl
      have e2 : Tg.has l s.pl s.di s.un s.po x y z = tgb (Tg.cd l s.pl s.di s.un s.po 0 x) (Tg.cd l s.pl s.di s.un s.po 1 y) (Tg.cd l s.pl s.di s.un s.po 2 z) (Tg.any l) := by unfold Tg.has tgb; rw [e]
      have e1 : ∀ n, Tg.val l s.pl s.di s.un s.po x y z n = Fm.cvx (Tg.cd l s.pl s.di s.un s.po 0 x) (Tg.cd l s.pl s.di s.un s.po 1 y) (Tg.cd l s.pl s.di s.un s.po 2 z) n := fun n => by
        unfold Tg.val
        rw [e]
        unfold Fm.cvx Fm.cve
        by_cases c : wth (Tg.cd l s.pl s.di s.un s.po 0 x) (Tg.cd l s.pl s.di s.un s.po 1 y) (Tg.cd l s.pl s.di s.un s.po 2 z) = true
        · rw [if_pos c, if_pos c]; rfl
        · rw [if_neg c, if_neg c]; rfl
      rw [e, e1, e1, e1, e2]
      exact k
    · rw [if_neg hp] at e
      have e1 : ∀ n, Tg.val l s.pl s.di s.un s.po x y z n = 0 := fun n => if_neg (by rw [e]; exact hp)
      have e2 : Tg.has l s.pl s.di s.un s.po x y z = false := if_neg (by rw [e]; exact hp)
      rw [e, e1, e1, e1, e2]
      exact tgTargetErr hv hC s p1 p2 T x y z h _ rfl hp
end Go.Proofs.YtnjcbgnghfppoaaDoor
