import Derived.Test.YtnjcbgnghfppoaaDoorGP
import Derived.Test.YtnjcbgnghfppoaaDoorGF
import Derived.Deep.DeepCutAuto
import Derived.Deep.Cut

/- The walks of package frame: the words of a block with polar coordinates replaced. -/
set_option linter.unusedVariables false
set_option linter.unusedSimpArgs false
namespace Go.Proofs.YtnjcbgnghfppoaaDoor
open Go.RowKit

section
variable {P : Program} {ops : Array Oper} {Q : Exit → Act → World → Prop} {md : Region.Mode} {S : World → Prop}
theorem tgH_one {i : Nat} {oi : Oper} {fuel : Nat} {listed : Array Bool} {a : Act} {w : World} (hi : ops[i]? = some oi) (hr : Region.ready md ops listed = [i]) (hg : oi.guard = none)
    (h : ∀ K : Act → World → Prop, (∀ a' w', S w' → wpAnyH P md ops Q S fuel (listed.setIfInBounds i true) a' w' → K a' w') → oi.wp P a w K Q) : wpAnyH P md ops Q S (fuel + 1) listed a w := by
  refine ⟨fun h0 => (by rw [h0] at hr; cases hr), fun j hj => ?_⟩
  rw [hr] at hj
  obtain rfl : j = i := by simpa using hj
  unfold wpOp
  rw [hi]
  simp only
  rw [if_pos (by simp [Region.wanted, hg])]
  exact .inl (h _ fun a' w' hS H => ⟨hS, H⟩)
theorem tgH_two {i j : Nat} {oi oj : Oper} {fuel : Nat} {listed : Array Bool} {a : Act} {w : World} (hi : ops[i]? = some oi) (hj : ops[j]? = some oj) (hr : Region.ready md ops listed = [i, j]) (hg : oi.guard = none) (hgj : oj.guard = none)
    (h : ∀ K : Act → World → Prop, (∀ a' w', S w' → wpAnyH P md ops Q S fuel (listed.setIfInBounds i true) a' w' → K a' w') → oi.wp P a w K Q)
    (h2 : ∀ K : Act → World → Prop, (∀ a' w', S w' → wpAnyH P md ops Q S fuel (listed.setIfInBounds j true) a' w' → K a' w') → oj.wp P a w K Q) : wpAnyH P md ops Q S (fuel + 1) listed a w := by
  refine ⟨fun h0 => (by rw [h0] at hr; cases hr), fun k hk => ?_⟩
  rw [hr] at hk
  have hk2 : k = i ∨ k = j := by simpa using hk
  rcases hk2 with rfl | rfl
  · unfold wpOp
    rw [hi]
    simp only
    rw [if_pos (by simp [Region.wanted, hg])]
    exact .inl (h _ fun a' w' hS H => ⟨hS, H⟩)
  · unfold wpOp
    rw [hj]
    simp only
    rw [if_pos (by simp [Region.wanted, hgj])]
    exact .inl (h2 _ fun a' w' hS H => ⟨hS, H⟩)
end
/-- The results of straight. -/
def sgv (l : Vs.Ar) (p u po i : Int) : Int := if Tg.pe l p u po = 0 then Tg.pn l p u po i else 0
def sgb (l : Vs.Ar) (p u po i : Int) : Bool := if Tg.pe l p u po = 0 then Tg.thr l i else false
theorem sg_bad {l : Vs.Ar} {p u po : Int} {e : Int} (h : Tg.pe l p u po = e) (he : e ≠ 0) (i : Int) : sgv l p u po i = 0 ∧ sgb l p u po i = false := by
  unfold sgv sgb
  rw [h, if_neg he, if_neg he]
  exact ⟨rfl, rfl⟩
theorem sg_ok {l : Vs.Ar} {p u po : Int} (h : Tg.pe l p u po = 0) (i : Int) : sgv l p u po i = Tg.pn l p u po i ∧ sgb l p u po i = Tg.thr l i := by
  unfold sgv sgb
  rw [if_pos h, if_pos h]
  exact ⟨rfl, rfl⟩
theorem sg_not {l : Vs.Ar} {p u po : Int} (h : po ≠ 16) : Tg.pe l p u po = Tg.e3 l u (-1) ∧ (∀ i, sgv l p u po i = rdv l u (-1) i) ∧ (∀ i, sgb l p u po i = rdb l u (-1) i) := by
  have e : Tg.ax p po = -1 := if_neg h
  have e2 : Tg.pe l p u po = Tg.e3 l u (-1) := by
    unfold Tg.pe
    rw [e]
    by_cases k : Tg.e3 l u (-1) = 0
    · rw [if_pos k, if_neg (fun j => h j.1), k]
    · rw [if_neg k]
  refine ⟨e2, fun i => ?_, fun i => ?_⟩
  · unfold sgv rdv Tg.pn
    rw [e2, if_neg h]
  · unfold sgb rdb
    rw [e2]
set_option maxRecDepth 100000 in
set_option maxHeartbeats 8000000 in
theorem tgStraightNo {C : Nat} {w : World} {v : Value} {l : Vs.Ar} (h : ValsB C w v l) (hC : C ≤ w.heap.size) (s : Md.S) (hp : s.po ≠ 16) :
    Calls Tryd.prog 55 #[.agg (mdc s), v] w fun e w' => e = .returned (.tuple #[.agg #[.bool (sgb l s.pl s.un s.po 0), .int .i64 (sgv l s.pl s.un s.po 0), .bool (sgb l s.pl s.un s.po 1), .int .i64 (sgv l s.pl s.un s.po 1), .bool (sgb l s.pl s.un s.po 2), .int .i64 (sgv l s.pl s.un s.po 2)], .int .i64 (Tg.pe l s.pl s.un s.po)]) ∧ Qw w w' := by
  obtain ⟨e1, e2, e3⟩ := sg_not (l := l) (p := s.pl) (u := s.un) hp
  rw [e1, e2, e2, e2, e3, e3, e3]
  have rd := fun (w' : World) (q : Qw w w') => tgRead (h.kept q hC) (Nat.le_trans hC q.size) s.un (-1) (by omega) (by omega)
  have zp : (s.po != 16) = true := by rw [bne_iff_ne]; exact hp
  clear e1 e2 e3 hp h hC
  generalize rdb l s.un (-1) 0 = b0 at *
  generalize rdv l s.un (-1) 0 = n0 at *
  generalize rdb l s.un (-1) 1 = b1 at *
  generalize rdv l s.un (-1) 1 = n1 at *
  generalize rdb l s.un (-1) 2 = b2 at *
  generalize rdv l s.un (-1) 2 = n2 at *
  generalize Tg.e3 l s.un (-1) = er at *
  have RD := Lib.hid rd
  clear rd
  go_enter Tryd.func55, Tryd.ntmps55
  go_upto_region 1 with (refine box_md 0 rfl ?_; intro w0 P hp X q; have X0 := Lib.hid X; have Q0 := Lib.hid q; clear X q)
  refine code_of (fun w' => Bx w' P (mdc s) MT ∧ Bx w' w0.heap.size #[.bool false, .int .i64 0, .bool false, .int .i64 0, .bool false, .int .i64 0] WT ∧ Qw w w') ⟨X0.out.alloc _, Bx.new _ _ _, Qw.al Q0.out _⟩ ?_
  have hR : w.heap.size ≤ w0.heap.size := Q0.out.size
  clear X0 Q0 hp
  generalize w0.heap.size = R at *
  rintro w1 ⟨X, RR, q1⟩
  have c10 := X.cell' 10 (.int .i64 s.po) rfl
  have c3 := X.cell' 3 (.int .i64 s.un) rfl
  have R1 := Lib.hid RR
  have Q1 := Lib.hid q1
  clear X RR q1
  go_wp2_with (go_at_call 73; ((with_reducible refine (RD.out _ Q1.out).mono ?_); rintro e w2 ⟨rfl, q⟩; have Q2 := Lib.hid (Qw.trans Q1.out q); have R2 := Lib.hid (R1.out.kept q); have r0 := R2.out.cell' 0 (.bool false) rfl; have f0 := R2.out.free 0; have r1 := R2.out.cell' 1 (.int .i64 0) rfl; have f1 := R2.out.free 1; have r2 := R2.out.cell' 2 (.bool false) rfl; have f2 := R2.out.free 2; have r3 := R2.out.cell' 3 (.int .i64 0) rfl; have f3 := R2.out.free 3; have r4 := R2.out.cell' 4 (.bool false) rfl; have f4 := R2.out.free 4; have r5 := R2.out.cell' 5 (.int .i64 0) rfl; have f5 := R2.out.free 5; clear q))
  have S := R2.out.st6 (.bool b0) (.int .i64 n0) (.bool b1) (.int .i64 n1) (.bool b2) (.int .i64 n2)
  have t0 := S.cell' 0 (.bool b0) rfl
  have t1 := S.cell' 1 (.int .i64 n0) rfl
  have t2 := S.cell' 2 (.bool b1) rfl
  have t3 := S.cell' 3 (.int .i64 n1) rfl
  have t4 := S.cell' 4 (.bool b2) rfl
  have t5 := S.cell' 5 (.int .i64 n2) rfl
  exact bodyPost_ret (v := .tuple #[.agg #[.bool b0, .int .i64 n0, .bool b1, .int .i64 n1, .bool b2, .int .i64 n2], .int .i64 er]) (by simp [results, Tryd.results55, go_sem, t0, t1, t2, t3, t4, t5]) rfl ⟨rfl, Q2.out.st6 hR _ _ _ _ _ _⟩
theorem sg_p17 {l : Vs.Ar} {u : Int} : Tg.pe l 17 u 16 = (if Tg.e3 l u 1 = 0 then (if Tg.thr l 0 ≠ Tg.thr l 1 then 9 else 0) else Tg.e3 l u 1) ∧
    Tg.pn l 17 u 16 0 = (rotv (Tg.wn l u 1 0) 0 (Tg.wn l u 1 1)).1 ∧ Tg.pn l 17 u 16 1 = (rotv (Tg.wn l u 1 0) 0 (Tg.wn l u 1 1)).2 ∧ Tg.pn l 17 u 16 2 = Tg.wn l u 1 2 := by
  have e1 : Tg.au 17 = 0 := by decide
  have e2 : Tg.aw 17 = 1 := by decide
  refine ⟨?_, ?_, ?_, ?_⟩
  · simp [Tg.pe, Tg.ax, e1, e2]
  · simp [Tg.pn, e1, e2]
  · simp [Tg.pn, e1, e2]
  · simp [Tg.pn, e1, e2]
set_option maxRecDepth 100000 in
set_option maxHeartbeats 16000000 in
theorem tgStraight17 {C : Nat} {w : World} {v : Value} {l : Vs.Ar} (h : ValsB C w v l) (hC : C ≤ w.heap.size) (s : Md.S) (hp : s.po = 16) (hpl : s.pl = 17) (T : Tc w) :
    Calls Tryd.prog 55 #[.agg (mdc s), v] w fun e w' => e = .returned (.tuple #[.agg #[.bool (sgb l s.pl s.un s.po 0), .int .i64 (sgv l s.pl s.un s.po 0), .bool (sgb l s.pl s.un s.po 1), .int .i64 (sgv l s.pl s.un s.po 1), .bool (sgb l s.pl s.un s.po 2), .int .i64 (sgv l s.pl s.un s.po 2)], .int .i64 (Tg.pe l s.pl s.un s.po)]) ∧ Qw w w' := by
  rw [hp, hpl]
  have C10 : Hid ((mdc s)[10]? = some (.int .i64 16)) := Lib.hid (by rw [← hp]; rfl)
  have C1 : Hid ((mdc s)[1]? = some (.int .i64 17)) := Lib.hid (by rw [← hpl]; rfl)
  clear hp hpl
  have rd := fun (w' : World) (q : Qw w w') => tgRead (h.kept q hC) (Nat.le_trans hC q.size) s.un 1 (by omega) (by omega)
  have fb := vals_fv h (88 + 1)
  have ab : -9223372036854775808 ≤ Tg.wn l s.un 1 1 ∧ Tg.wn l s.un 1 1 ≤ 9223372036854775807 := by
    unfold Tg.wn
    rw [if_pos rfl]
    split
    · exact fb
    · omega
  have FL := Lib.hid (show ∀ w : World, Calls Tryd.prog 65 #[.int .i64 17, .agg #[.int .i64 0, .int .i64 1, .int .i64 2]] w fun e w' => e = .returned (.tuple #[.agg #[.int .i64 0, .int .i64 1], .int .i64 2, .bool true]) ∧ Qw w w' from fun w => vc_flat 17 0 1 2 (by decide) (by decide) w)
  have TX := Lib.hid (fun (w' : World) (q : Qw w w') => T.kept q)
  obtain ⟨g1, g2, g3, g4⟩ := sg_p17 (l := l) (u := s.un)
  clear h hC fb T
  by_cases he : Tg.e3 l s.un 1 = 0
  · have ro := rd_ok he
    rw [if_pos he] at g1
    by_cases hn : Tg.thr l 0 ≠ Tg.thr l 1
    · rw [if_pos hn] at g1
      have sb := sg_bad g1 (by decide)
      rw [g1, (sb 0).1, (sb 0).2, (sb 1).1, (sb 1).2, (sb 2).1, (sb 2).2]
      have RD : Hid (∀ w' : World, Qw w w' → Calls Tryd.prog 73 #[v, .int .i64 s.un, .int .i64 1] w' fun e w'' => e = .returned (.tuple #[.agg #[.bool (Tg.thr l 0), .int .i64 (Tg.wn l s.un 1 0), .bool (Tg.thr l 1), .int .i64 (Tg.wn l s.un 1 1), .bool (Tg.thr l 2), .int .i64 (Tg.wn l s.un 1 2)], .int .i64 0]) ∧ Qw w' w'') := Lib.hid (fun w' q => by have := rd w' q; rwa [(ro 0).1, (ro 0).2, (ro 1).1, (ro 1).2, (ro 2).1, (ro 2).2, he] at this)
      clear rd sb ro g1 g2 g3 g4 ab TX he
      generalize Tg.wn l s.un 1 0 = n0 at *
      generalize Tg.wn l s.un 1 1 = n1 at *
      generalize Tg.wn l s.un 1 2 = n2 at *
      generalize Tg.thr l 0 = b0 at *
      generalize Tg.thr l 1 = b1 at *
      generalize Tg.thr l 2 = b2 at *
      have zb : (b0 == b1) = false := by simpa using hn
      clear hn
      go_enter Tryd.func55, Tryd.ntmps55
      go_upto_region 1 with (refine box_md 0 rfl ?_; intro w0 P hp X q; have X0 := Lib.hid X; have Q0 := Lib.hid q; clear X q)
      refine code_of (fun w' => Bx w' P (mdc s) MT ∧ Bx w' w0.heap.size #[.bool false, .int .i64 0, .bool false, .int .i64 0, .bool false, .int .i64 0] WT ∧ Qw w w') ⟨X0.out.alloc _, Bx.new _ _ _, Qw.al Q0.out _⟩ ?_
      have hR : w.heap.size ≤ w0.heap.size := Q0.out.size
      clear X0 Q0 hp
      generalize w0.heap.size = R at *
      rintro w1 ⟨X, RR, q1⟩
      have c10 := X.cell' 10 (.int .i64 16) C10.out
      have c1 := X.cell' 1 (.int .i64 17) C1.out
      have XX := Lib.hid (fun (w' : World) (q : Qw w1 w') => X.kept q)
      have RX := Lib.hid (fun (w' : World) (q : Qw w1 w') => RR.kept q)
      have Q1 := Lib.hid q1
      clear X RR q1
      go_upto_region 4 with (go_at_call 65; ((with_reducible refine (FL.out _).mono ?_); rintro e w2 ⟨rfl, q⟩; have Q2 := Lib.hid q; clear q))
      refine code_of (fun w' => Bx w' w2.heap.size #[.int .i64 0, .int .i64 1] 64 ∧ Qw w1 w') ⟨Bx.new _ _ _, Qw.al Q2.out _⟩ ?_
      clear c10 c1 Q2
      generalize w2.heap.size = D at *
      rintro w3 ⟨DD, q3⟩
      have c3 := (XX.out _ q3).cell' 3 (.int .i64 s.un) rfl
      have d0 := DD.cell' 0 (.int .i64 0) rfl
      have d1 := DD.cell' 1 (.int .i64 1) rfl
      have DX := Lib.hid (fun (w' : World) (q : Qw w3 w') => DD.kept q)
      have Q3 := Lib.hid q3
      clear DD q3
      go_upto_region 7 with (go_at_call 73; ((with_reducible refine (RD.out _ (Qw.trans Q1.out Q3.out)).mono ?_); rintro e w4 ⟨rfl, q⟩; have Q4 := Lib.hid q; clear q))
      have nR : R ≠ w4.heap.size := Nat.ne_of_lt (RX.out _ (Qw.trans Q3.out Q4.out)).lt
      have hW : w1.heap.size ≤ w4.heap.size := (Qw.trans Q3.out Q4.out).size
      refine code_of (fun w' => Bx w' w4.heap.size #[.bool b0, .int .i64 n0, .bool b1, .int .i64 n1, .bool b2, .int .i64 n2] WT ∧ Qw w3 w') ⟨Bx.new _ _ _, Qw.al Q4.out _⟩ ?_
      clear c3 d0 d1 Q4
      generalize w4.heap.size = WB at *
      rintro w5 ⟨WX, q5⟩
      have DD := DX.out _ q5
      refine wp_region_M (fun wS => Qw w5 wS) 7 (by kernel_rfl) ?_
      have hSS : Qw w5 (World.drew w5) := qw_drew1 w5
      generalize World.drew w5 = wd at *
      refine wpAnyM_take (i := 0) (v := ?_) rfl (by kernel_rfl) (fun _ _ _ h => h) (Or.inl ⟨by rfl, ?_⟩) hSS ?_
      rotate_left 1
      · intro wS hwS
        go_simp
        try with_reducible rfl
      simp only [List.getElem_toArray, List.getElem_cons_succ, List.getElem_cons_zero, Act.put, List.setIfInBounds_toArray, List.set_cons_zero, List.set_cons_succ]
      refine wpAnyM_take (i := 1) (v := ?_) rfl (by kernel_rfl) (fun _ _ _ h => h) (Or.inl ⟨by rfl, ?_⟩) hSS ?_
      rotate_left 1
      · intro wS hwS
        have y := (DD.kept hwS).cell' 0 (.int .i64 0) rfl; go_simp
        try with_reducible rfl
      simp only [List.getElem_toArray, List.getElem_cons_succ, List.getElem_cons_zero, Act.put, List.setIfInBounds_toArray, List.set_cons_zero, List.set_cons_succ]
      refine wpAnyM_take (i := 2) (v := ?_) rfl (by kernel_rfl) (fun _ _ _ h => h) (Or.inl ⟨by rfl, ?_⟩) hSS ?_
      rotate_left 1
      · intro wS hwS
        go_simp
        try with_reducible rfl
      simp only [List.getElem_toArray, List.getElem_cons_succ, List.getElem_cons_zero, Act.put, List.setIfInBounds_toArray, List.set_cons_zero, List.set_cons_succ]
      refine wpAnyM_take (i := 3) (v := ?_) rfl (by kernel_rfl) (fun _ _ _ h => h) (Or.inl ⟨by rfl, ?_⟩) hSS ?_
      rotate_left 1
      · intro wS hwS
        go_simp
        try with_reducible rfl
      simp only [List.getElem_toArray, List.getElem_cons_succ, List.getElem_cons_zero, Act.put, List.setIfInBounds_toArray, List.set_cons_zero, List.set_cons_succ]
      refine wpAnyM_take (i := 4) (v := ?_) rfl (by kernel_rfl) (fun _ _ _ h => h) (Or.inl ⟨by rfl, ?_⟩) hSS ?_
      rotate_left 1
      · intro wS hwS
        have y := (DD.kept hwS).cell' 1 (.int .i64 1) rfl; go_simp
        try with_reducible rfl
      simp only [List.getElem_toArray, List.getElem_cons_succ, List.getElem_cons_zero, Act.put, List.setIfInBounds_toArray, List.set_cons_zero, List.set_cons_succ]
      refine wpAnyM_take (i := 5) (v := ?_) rfl (by kernel_rfl) (fun _ _ _ h => h) (Or.inl ⟨by rfl, ?_⟩) hSS ?_
      rotate_left 1
      · intro wS hwS
        go_simp
        try with_reducible rfl
      simp only [List.getElem_toArray, List.getElem_cons_succ, List.getElem_cons_zero, Act.put, List.setIfInBounds_toArray, List.set_cons_zero, List.set_cons_succ]
      refine wpAnyM_one (i := 6) rfl (by kernel_rfl) rfl (fun K hK => ?_)
      go_simp
      refine hK _ _ (fun _ => hSS) ?_
      clear hK K
      try simp only [List.getElem_toArray, List.getElem_cons_succ, List.getElem_cons_zero, Act.put, List.setIfInBounds_toArray, List.set_cons_zero, List.set_cons_succ]
      refine wpAnyM_one (i := 7) rfl (by kernel_rfl) rfl (fun K hK => ?_)
      go_simp
      refine hK _ _ (fun h => absurd h (by decide)) ?_
      clear hK K
      try simp only [List.getElem_toArray, List.getElem_cons_succ, List.getElem_cons_zero, Act.put, List.setIfInBounds_toArray, List.set_cons_zero, List.set_cons_succ]
      refine wpAnyM_done (by kernel_rfl) ?_ _
      have WX2 := WX.kept hSS
      have Q6 := Lib.hid (Qw.trans (Qw.trans Q3.out q5) hSS)
      clear WX q5 DD hSS w5
      have b_u := WX2.kcell 0 (.bool b0) rfl
      have b_w := WX2.kcell 2 (.bool b1) rfl
      have K6 := Lib.hid WX2
      clear WX2
      go_upto_region 8 with fail
      refine region_kept (by kernel_rfl) (by kernel_rfl) ?_
      repeat (go_big_quiet_step (fail))
      refine wpQuiet_nil ?_
      intro w7 q7
      clear b_u b_w
      have R7 := Lib.hid (RX.out _ (Qw.trans Q6.out q7))
      have QQ := Lib.hid (Qw.trans Q1.out (Qw.trans Q6.out q7))
      clear q7
      have r0 := R7.out.cell' 0 (.bool false) rfl
      have f0 := R7.out.free 0
      have r1 := R7.out.cell' 1 (.int .i64 0) rfl
      have f1 := R7.out.free 1
      have r2 := R7.out.cell' 2 (.bool false) rfl
      have f2 := R7.out.free 2
      have r3 := R7.out.cell' 3 (.int .i64 0) rfl
      have f3 := R7.out.free 3
      have r4 := R7.out.cell' 4 (.bool false) rfl
      have f4 := R7.out.free 4
      have r5 := R7.out.cell' 5 (.int .i64 0) rfl
      have f5 := R7.out.free 5
      go_wp2
      have S := R7.out.st6 (.bool false) (.int .i64 0) (.bool false) (.int .i64 0) (.bool false) (.int .i64 0)
      have t0 := S.cell' 0 (.bool false) rfl
      have t1 := S.cell' 1 (.int .i64 0) rfl
      have t2 := S.cell' 2 (.bool false) rfl
      have t3 := S.cell' 3 (.int .i64 0) rfl
      have t4 := S.cell' 4 (.bool false) rfl
      have t5 := S.cell' 5 (.int .i64 0) rfl
      exact bodyPost_ret (v := .tuple #[.agg #[.bool false, .int .i64 0, .bool false, .int .i64 0, .bool false, .int .i64 0], .int .i64 9]) (by simp [results, Tryd.results55, go_sem, t0, t1, t2, t3, t4, t5]) rfl ⟨rfl, QQ.out.st6 hR _ _ _ _ _ _⟩
    · rw [if_neg hn] at g1
      have sb := sg_ok g1
      rw [g1, (sb 0).1, (sb 0).2, (sb 1).1, (sb 1).2, (sb 2).1, (sb 2).2, g2, g3, g4]
      have RD : Hid (∀ w' : World, Qw w w' → Calls Tryd.prog 73 #[v, .int .i64 s.un, .int .i64 1] w' fun e w'' => e = .returned (.tuple #[.agg #[.bool (Tg.thr l 0), .int .i64 (Tg.wn l s.un 1 0), .bool (Tg.thr l 1), .int .i64 (Tg.wn l s.un 1 1), .bool (Tg.thr l 2), .int .i64 (Tg.wn l s.un 1 2)], .int .i64 0]) ∧ Qw w' w'') := Lib.hid (fun w' q => by have := rd w' q; rwa [(ro 0).1, (ro 0).2, (ro 1).1, (ro 1).2, (ro 2).1, (ro 2).2, he] at this)
      have RT := Lib.hid (fun (w' : World) (q : Qw w w') => co_rotate (Tg.wn l s.un 1 0) 0 (Tg.wn l s.un 1 1) ab.1 ab.2 w' (TX.out w' q))
      clear rd sb ro g1 g2 g3 g4 ab TX he
      generalize rotok (Tg.wn l s.un 1 0) 0 = ok at *
      generalize (rotv (Tg.wn l s.un 1 0) 0 (Tg.wn l s.un 1 1)).1 = v1 at *
      generalize (rotv (Tg.wn l s.un 1 0) 0 (Tg.wn l s.un 1 1)).2 = v2 at *
      have hb : Tg.thr l 0 = Tg.thr l 1 := by simpa using hn
      clear hn
      generalize Tg.wn l s.un 1 0 = n0 at *
      generalize Tg.wn l s.un 1 1 = n1 at *
      generalize Tg.wn l s.un 1 2 = n2 at *
      generalize Tg.thr l 0 = b0 at *
      generalize Tg.thr l 1 = b1 at *
      generalize Tg.thr l 2 = b2 at *
      subst hb
      go_enter Tryd.func55, Tryd.ntmps55
      go_upto_region 1 with (refine box_md 0 rfl ?_; intro w0 P hp X q; have X0 := Lib.hid X; have Q0 := Lib.hid q; clear X q)
      refine code_of (fun w' => Bx w' P (mdc s) MT ∧ Bx w' w0.heap.size #[.bool false, .int .i64 0, .bool false, .int .i64 0, .bool false, .int .i64 0] WT ∧ Qw w w') ⟨X0.out.alloc _, Bx.new _ _ _, Qw.al Q0.out _⟩ ?_
      have hR : w.heap.size ≤ w0.heap.size := Q0.out.size
      clear X0 Q0 hp
      generalize w0.heap.size = R at *
      rintro w1 ⟨X, RR, q1⟩
      have c10 := X.cell' 10 (.int .i64 16) C10.out
      have c1 := X.cell' 1 (.int .i64 17) C1.out
      have XX := Lib.hid (fun (w' : World) (q : Qw w1 w') => X.kept q)
      have RX := Lib.hid (fun (w' : World) (q : Qw w1 w') => RR.kept q)
      have Q1 := Lib.hid q1
      clear X RR q1
      go_upto_region 4 with (go_at_call 65; ((with_reducible refine (FL.out _).mono ?_); rintro e w2 ⟨rfl, q⟩; have Q2 := Lib.hid q; clear q))
      refine code_of (fun w' => Bx w' w2.heap.size #[.int .i64 0, .int .i64 1] 64 ∧ Qw w1 w') ⟨Bx.new _ _ _, Qw.al Q2.out _⟩ ?_
      clear c10 c1 Q2
      generalize w2.heap.size = D at *
      rintro w3 ⟨DD, q3⟩
      have c3 := (XX.out _ q3).cell' 3 (.int .i64 s.un) rfl
      have d0 := DD.cell' 0 (.int .i64 0) rfl
      have d1 := DD.cell' 1 (.int .i64 1) rfl
      have DX := Lib.hid (fun (w' : World) (q : Qw w3 w') => DD.kept q)
      have Q3 := Lib.hid q3
      clear DD q3
      go_upto_region 7 with (go_at_call 73; ((with_reducible refine (RD.out _ (Qw.trans Q1.out Q3.out)).mono ?_); rintro e w4 ⟨rfl, q⟩; have Q4 := Lib.hid q; clear q))
      have nR : R ≠ w4.heap.size := Nat.ne_of_lt (RX.out _ (Qw.trans Q3.out Q4.out)).lt
      have hW : w1.heap.size ≤ w4.heap.size := (Qw.trans Q3.out Q4.out).size
      refine code_of (fun w' => Bx w' w4.heap.size #[.bool b0, .int .i64 n0, .bool b0, .int .i64 n1, .bool b2, .int .i64 n2] WT ∧ Qw w3 w') ⟨Bx.new _ _ _, Qw.al Q4.out _⟩ ?_
      clear c3 d0 d1 Q4
      generalize w4.heap.size = WB at *
      rintro w5 ⟨WX, q5⟩
      have DD := DX.out _ q5
      refine wp_region_M (fun wS => Qw w5 wS) 7 (by kernel_rfl) ?_
      have hSS : Qw w5 (World.drew w5) := qw_drew1 w5
      generalize World.drew w5 = wd at *
      refine wpAnyM_take (i := 0) (v := ?_) rfl (by kernel_rfl) (fun _ _ _ h => h) (Or.inl ⟨by rfl, ?_⟩) hSS ?_
      rotate_left 1
      · intro wS hwS
        go_simp
        try with_reducible rfl
      simp only [List.getElem_toArray, List.getElem_cons_succ, List.getElem_cons_zero, Act.put, List.setIfInBounds_toArray, List.set_cons_zero, List.set_cons_succ]
      refine wpAnyM_take (i := 1) (v := ?_) rfl (by kernel_rfl) (fun _ _ _ h => h) (Or.inl ⟨by rfl, ?_⟩) hSS ?_
      rotate_left 1
      · intro wS hwS
        have y := (DD.kept hwS).cell' 0 (.int .i64 0) rfl; go_simp
        try with_reducible rfl
      simp only [List.getElem_toArray, List.getElem_cons_succ, List.getElem_cons_zero, Act.put, List.setIfInBounds_toArray, List.set_cons_zero, List.set_cons_succ]
      refine wpAnyM_take (i := 2) (v := ?_) rfl (by kernel_rfl) (fun _ _ _ h => h) (Or.inl ⟨by rfl, ?_⟩) hSS ?_
      rotate_left 1
      · intro wS hwS
        go_simp
        try with_reducible rfl
      simp only [List.getElem_toArray, List.getElem_cons_succ, List.getElem_cons_zero, Act.put, List.setIfInBounds_toArray, List.set_cons_zero, List.set_cons_succ]
      refine wpAnyM_take (i := 3) (v := ?_) rfl (by kernel_rfl) (fun _ _ _ h => h) (Or.inl ⟨by rfl, ?_⟩) hSS ?_
      rotate_left 1
      · intro wS hwS
        go_simp
        try with_reducible rfl
      simp only [List.getElem_toArray, List.getElem_cons_succ, List.getElem_cons_zero, Act.put, List.setIfInBounds_toArray, List.set_cons_zero, List.set_cons_succ]
      refine wpAnyM_take (i := 4) (v := ?_) rfl (by kernel_rfl) (fun _ _ _ h => h) (Or.inl ⟨by rfl, ?_⟩) hSS ?_
      rotate_left 1
      · intro wS hwS
        have y := (DD.kept hwS).cell' 1 (.int .i64 1) rfl; go_simp
        try with_reducible rfl
      simp only [List.getElem_toArray, List.getElem_cons_succ, List.getElem_cons_zero, Act.put, List.setIfInBounds_toArray, List.set_cons_zero, List.set_cons_succ]
      refine wpAnyM_take (i := 5) (v := ?_) rfl (by kernel_rfl) (fun _ _ _ h => h) (Or.inl ⟨by rfl, ?_⟩) hSS ?_
      rotate_left 1
      · intro wS hwS
        go_simp
        try with_reducible rfl
      simp only [List.getElem_toArray, List.getElem_cons_succ, List.getElem_cons_zero, Act.put, List.setIfInBounds_toArray, List.set_cons_zero, List.set_cons_succ]
      refine wpAnyM_one (i := 6) rfl (by kernel_rfl) rfl (fun K hK => ?_)
      go_simp
      refine hK _ _ (fun _ => hSS) ?_
      clear hK K
      try simp only [List.getElem_toArray, List.getElem_cons_succ, List.getElem_cons_zero, Act.put, List.setIfInBounds_toArray, List.set_cons_zero, List.set_cons_succ]
      refine wpAnyM_one (i := 7) rfl (by kernel_rfl) rfl (fun K hK => ?_)
      go_simp
      refine hK _ _ (fun h => absurd h (by decide)) ?_
      clear hK K
      try simp only [List.getElem_toArray, List.getElem_cons_succ, List.getElem_cons_zero, Act.put, List.setIfInBounds_toArray, List.set_cons_zero, List.set_cons_succ]
      refine wpAnyM_done (by kernel_rfl) ?_ _
      have WX2 := WX.kept hSS
      have Q6 := Lib.hid (Qw.trans (Qw.trans Q3.out q5) hSS)
      clear WX q5 DD hSS w5
      have b_u := WX2.kcell 0 (.bool b0) rfl
      have b_w := WX2.kcell 2 (.bool b0) rfl
      have K6 := Lib.hid WX2
      clear WX2
      go_upto_region 8 with fail
      refine region_kept (by kernel_rfl) (by kernel_rfl) ?_
      repeat (go_big_quiet_step (fail))
      refine wpQuiet_nil ?_
      intro w7 q7
      clear b_u b_w
      have W7 := Lib.hid (K6.out.kept q7)
      have R7 := Lib.hid (RX.out _ (Qw.trans Q6.out q7))
      have Q7 := Lib.hid (Qw.trans Q6.out q7)
      clear q7 K6 Q6
      go_upto_region 10 with fail
      refine wp_region_held (S := fun _ => True) (by kernel_rfl) ?_
      change wpAnyH _ _ _ _ _ _ _ _ (World.drew w7)
      have hSS : (fun _ : World => True) (World.drew w7) := trivial
      have W8 := Lib.hid (W7.out.kept (qw_drew1 w7))
      have R8 := Lib.hid (R7.out.kept (qw_drew1 w7))
      have Q8 := Lib.hid (Qw.trans Q7.out (qw_drew1 w7))
      clear W7 R7 Q7
      generalize World.drew w7 = w8 at *
      refine wpAnyH_take (i := 0) (v := ?_) rfl (by kernel_rfl) (by kernel_rfl) (by kernel_rfl) (fun _ _ _ h => h) (Or.inl ⟨by rfl, ?_⟩) hSS ?_
      rotate_left 1
      · intro wS hwS
        go_simp
        try with_reducible rfl
      simp only [List.getElem_toArray, List.getElem_cons_succ, List.getElem_cons_zero, Act.put, List.setIfInBounds_toArray, List.set_cons_zero, List.set_cons_succ]
      refine wpAnyH_take (i := 1) (v := ?_) rfl (by kernel_rfl) (by kernel_rfl) (by kernel_rfl) (fun _ _ _ h => h) (Or.inl ⟨by rfl, ?_⟩) hSS ?_
      rotate_left 1
      · intro wS hwS
        go_simp
        try with_reducible rfl
      simp only [List.getElem_toArray, List.getElem_cons_succ, List.getElem_cons_zero, Act.put, List.setIfInBounds_toArray, List.set_cons_zero, List.set_cons_succ]
      refine wpAnyH_take (i := 2) (v := ?_) rfl (by kernel_rfl) (by kernel_rfl) (by kernel_rfl) (fun _ _ _ h => h) (Or.inl ⟨by rfl, ?_⟩) hSS ?_
      rotate_left 1
      · intro wS hwS
        go_simp
        try with_reducible rfl
      simp only [List.getElem_toArray, List.getElem_cons_succ, List.getElem_cons_zero, Act.put, List.setIfInBounds_toArray, List.set_cons_zero, List.set_cons_succ]
      refine wpAnyH_take (i := 6) (v := ?_) rfl (by kernel_rfl) (by kernel_rfl) (by kernel_rfl) (fun _ _ _ h => h) (Or.inl ⟨by rfl, ?_⟩) hSS ?_
      rotate_left 1
      · intro wS hwS
        go_simp
        try with_reducible rfl
      simp only [List.getElem_toArray, List.getElem_cons_succ, List.getElem_cons_zero, Act.put, List.setIfInBounds_toArray, List.set_cons_zero, List.set_cons_succ]
      refine wpAnyH_take (i := 3) (v := ?_) rfl (by kernel_rfl) (by kernel_rfl) (by kernel_rfl) (fun _ _ _ h => h) (Or.inl ⟨by rfl, ?_⟩) hSS ?_
      rotate_left 1
      · intro wS hwS
        go_simp
        try with_reducible rfl
      simp only [List.getElem_toArray, List.getElem_cons_succ, List.getElem_cons_zero, Act.put, List.setIfInBounds_toArray, List.set_cons_zero, List.set_cons_succ]
      refine wpAnyH_take (i := 7) (v := ?_) rfl (by kernel_rfl) (by kernel_rfl) (by kernel_rfl) (fun _ _ _ h => h) (Or.inl ⟨by rfl, ?_⟩) hSS ?_
      rotate_left 1
      · intro wS hwS
        go_simp
        try with_reducible rfl
      simp only [List.getElem_toArray, List.getElem_cons_succ, List.getElem_cons_zero, Act.put, List.setIfInBounds_toArray, List.set_cons_zero, List.set_cons_succ]
      refine wpAnyH_take (i := 4) (v := ?_) rfl (by kernel_rfl) (by kernel_rfl) (by kernel_rfl) (fun _ _ _ h => h) (Or.inl ⟨by rfl, ?_⟩) hSS ?_
      rotate_left 1
      · intro wS hwS
        go_simp
        try with_reducible rfl
      simp only [List.getElem_toArray, List.getElem_cons_succ, List.getElem_cons_zero, Act.put, List.setIfInBounds_toArray, List.set_cons_zero, List.set_cons_succ]
      refine wpAnyH_take (i := 8) (v := ?_) rfl (by kernel_rfl) (by kernel_rfl) (by kernel_rfl) (fun _ _ _ h => h) (Or.inl ⟨by rfl, ?_⟩) hSS ?_
      rotate_left 1
      · intro wS hwS
        go_simp
        try with_reducible rfl
      simp only [List.getElem_toArray, List.getElem_cons_succ, List.getElem_cons_zero, Act.put, List.setIfInBounds_toArray, List.set_cons_zero, List.set_cons_succ]
      have x5 := W8.out.cell' 1 (.int .i64 n0) rfl
      have x9 := W8.out.cell' 3 (.int .i64 n1) rfl
      refine tgH_two (i := 5) (j := 9) rfl rfl (by kernel_rfl) rfl rfl (fun K hK => ?_) (fun K hK => ?_)
      · go_simp
        refine hK _ _ trivial ?_
        clear hK K
        try simp only [List.getElem_toArray, List.getElem_cons_succ, List.getElem_cons_zero, Act.put, List.setIfInBounds_toArray, List.set_cons_zero, List.set_cons_succ]
        refine tgH_one (i := 9) rfl (by kernel_rfl) rfl (fun K hK => ?_)
        go_simp
        refine hK _ _ trivial ?_
        clear hK K
        try simp only [List.getElem_toArray, List.getElem_cons_succ, List.getElem_cons_zero, Act.put, List.setIfInBounds_toArray, List.set_cons_zero, List.set_cons_succ]
        refine tgH_one (i := 10) rfl (by kernel_rfl) rfl (fun K hK => ?_)
        go_simp
        refine (RT.out _ (Qw.trans Q1.out Q8.out)).mono ?_
        rintro e w9 ⟨rfl, q⟩
        have W9 := Lib.hid (W8.out.kept q)
        have R9 := Lib.hid (R8.out.kept q)
        have Q9 := Lib.hid (Qw.trans Q8.out q)
        refine hK _ _ trivial ?_
        clear hK K q x5 x9 W8 R8 Q8 hSS
        have hSS : (fun _ : World => True) w9 := trivial
        try simp only [List.getElem_toArray, List.getElem_cons_succ, List.getElem_cons_zero, Act.put, List.setIfInBounds_toArray, List.set_cons_zero, List.set_cons_succ]
        refine wpAnyH_take (i := 11) (v := ?_) rfl (by kernel_rfl) (by kernel_rfl) (by kernel_rfl) (fun _ _ _ h => h) (Or.inl ⟨by rfl, ?_⟩) hSS ?_
        rotate_left 1
        · intro wS hwS
          go_simp
          try with_reducible rfl
        simp only [List.getElem_toArray, List.getElem_cons_succ, List.getElem_cons_zero, Act.put, List.setIfInBounds_toArray, List.set_cons_zero, List.set_cons_succ]
        refine wpAnyH_take (i := 12) (v := ?_) rfl (by kernel_rfl) (by kernel_rfl) (by kernel_rfl) (fun _ _ _ h => h) (Or.inl ⟨by rfl, ?_⟩) hSS ?_
        rotate_left 1
        · intro wS hwS
          go_simp
          try with_reducible rfl
        simp only [List.getElem_toArray, List.getElem_cons_succ, List.getElem_cons_zero, Act.put, List.setIfInBounds_toArray, List.set_cons_zero, List.set_cons_succ]
        refine wpAnyH_take (i := 13) (v := ?_) rfl (by kernel_rfl) (by kernel_rfl) (by kernel_rfl) (fun _ _ _ h => h) (Or.inl ⟨by rfl, ?_⟩) hSS ?_
        rotate_left 1
        · intro wS hwS
          go_simp
          try with_reducible rfl
        simp only [List.getElem_toArray, List.getElem_cons_succ, List.getElem_cons_zero, Act.put, List.setIfInBounds_toArray, List.set_cons_zero, List.set_cons_succ]
        refine wpAnyH_take (i := 14) (v := ?_) rfl (by kernel_rfl) (by kernel_rfl) (by kernel_rfl) (fun _ _ _ h => h) (Or.inl ⟨by rfl, ?_⟩) hSS ?_
        rotate_left 1
        · intro wS hwS
          go_simp
          try with_reducible rfl
        simp only [List.getElem_toArray, List.getElem_cons_succ, List.getElem_cons_zero, Act.put, List.setIfInBounds_toArray, List.set_cons_zero, List.set_cons_succ]
        refine wpAnyH_take (i := 15) (v := ?_) rfl (by kernel_rfl) (by kernel_rfl) (by kernel_rfl) (fun _ _ _ h => h) (Or.inl ⟨by rfl, ?_⟩) hSS ?_
        rotate_left 1
        · intro wS hwS
          go_simp
          try with_reducible rfl
        simp only [List.getElem_toArray, List.getElem_cons_succ, List.getElem_cons_zero, Act.put, List.setIfInBounds_toArray, List.set_cons_zero, List.set_cons_succ]
        refine wpAnyH_take (i := 16) (v := ?_) rfl (by kernel_rfl) (by kernel_rfl) (by kernel_rfl) (fun _ _ _ h => h) (Or.inl ⟨by rfl, ?_⟩) hSS ?_
        rotate_left 1
        · intro wS hwS
          go_simp
          try with_reducible rfl
        simp only [List.getElem_toArray, List.getElem_cons_succ, List.getElem_cons_zero, Act.put, List.setIfInBounds_toArray, List.set_cons_zero, List.set_cons_succ]
        have x5 := W9.out.cell' 1 (.int .i64 n0) rfl
        have g5 := W9.out.free 1
        refine tgH_one (i := 17) rfl (by kernel_rfl) rfl (fun K hK => ?_)
        go_simp
        refine hK _ _ trivial ?_
        clear hK K hSS x5 g5
        have W10 := Lib.hid (W9.out.set 1 (.int .i64 v1))
        have R10 := Lib.hid (R9.out.other (a := ⟨WB, 1, none⟩) nR (.int .i64 v1))
        have Q10 := Lib.hid (Q9.out.sc (p := ⟨WB, 1, none⟩) hW (.int .i64 v1))
        clear W9 R9 Q9
        generalize World.setCell w9 _ _ = w10 at *
        have hSS : (fun _ : World => True) w10 := trivial
        try simp only [List.getElem_toArray, List.getElem_cons_succ, List.getElem_cons_zero, Act.put, List.setIfInBounds_toArray, List.set_cons_zero, List.set_cons_succ]
        refine wpAnyH_take (i := 18) (v := ?_) rfl (by kernel_rfl) (by kernel_rfl) (by kernel_rfl) (fun _ _ _ h => h) (Or.inl ⟨by rfl, ?_⟩) hSS ?_
        rotate_left 1
        · intro wS hwS
          go_simp
          try with_reducible rfl
        simp only [List.getElem_toArray, List.getElem_cons_succ, List.getElem_cons_zero, Act.put, List.setIfInBounds_toArray, List.set_cons_zero, List.set_cons_succ]
        refine wpAnyH_take (i := 19) (v := ?_) rfl (by kernel_rfl) (by kernel_rfl) (by kernel_rfl) (fun _ _ _ h => h) (Or.inl ⟨by rfl, ?_⟩) hSS ?_
        rotate_left 1
        · intro wS hwS
          go_simp
          try with_reducible rfl
        simp only [List.getElem_toArray, List.getElem_cons_succ, List.getElem_cons_zero, Act.put, List.setIfInBounds_toArray, List.set_cons_zero, List.set_cons_succ]
        have x5 := W10.out.cell' 3 (.int .i64 n1) rfl
        have g5 := W10.out.free 3
        refine tgH_one (i := 20) rfl (by kernel_rfl) rfl (fun K hK => ?_)
        go_simp
        refine hK _ _ trivial ?_
        clear hK K hSS x5 g5
        have W11 := Lib.hid (W10.out.set 3 (.int .i64 v2))
        have R11 := Lib.hid (R10.out.other (a := ⟨WB, 3, none⟩) nR (.int .i64 v2))
        have Q11 := Lib.hid (Q10.out.sc (p := ⟨WB, 3, none⟩) hW (.int .i64 v2))
        clear W10 R10 Q10
        generalize World.setCell w10 _ _ = w11 at *
        try simp only [List.getElem_toArray, List.getElem_cons_succ, List.getElem_cons_zero, Act.put, List.setIfInBounds_toArray, List.set_cons_zero, List.set_cons_succ]
        refine wpAnyH_done (by kernel_rfl) ?_ _
        have y0 := W11.out.cell' 0 (.bool b0) rfl
        have r0 := R11.out.cell' 0 (.bool false) rfl
        have f0 := R11.out.free 0
        have y1 := W11.out.cell' 1 (.int .i64 v1) rfl
        have r1 := R11.out.cell' 1 (.int .i64 0) rfl
        have f1 := R11.out.free 1
        have y2 := W11.out.cell' 2 (.bool b0) rfl
        have r2 := R11.out.cell' 2 (.bool false) rfl
        have f2 := R11.out.free 2
        have y3 := W11.out.cell' 3 (.int .i64 v2) rfl
        have r3 := R11.out.cell' 3 (.int .i64 0) rfl
        have f3 := R11.out.free 3
        have y4 := W11.out.cell' 4 (.bool b2) rfl
        have r4 := R11.out.cell' 4 (.bool false) rfl
        have f4 := R11.out.free 4
        have y5 := W11.out.cell' 5 (.int .i64 n2) rfl
        have r5 := R11.out.cell' 5 (.int .i64 0) rfl
        have f5 := R11.out.free 5
        go_wp2
        have S := R11.out.st6 (.bool b0) (.int .i64 v1) (.bool b0) (.int .i64 v2) (.bool b2) (.int .i64 n2)
        clear y0 y1 y2 y3 y4 y5 r0 r1 r2 r3 r4 r5 f0 f1 f2 f3 f4 f5
        have t0 := S.cell' 0 (.bool b0) rfl
        have t1 := S.cell' 1 (.int .i64 v1) rfl
        have t2 := S.cell' 2 (.bool b0) rfl
        have t3 := S.cell' 3 (.int .i64 v2) rfl
        have t4 := S.cell' 4 (.bool b2) rfl
        have t5 := S.cell' 5 (.int .i64 n2) rfl
        exact bodyPost_ret (v := .tuple #[.agg #[.bool b0, .int .i64 v1, .bool b0, .int .i64 v2, .bool b2, .int .i64 n2], .int .i64 0]) (by simp [results, Tryd.results55, go_sem, t0, t1, t2, t3, t4, t5]) rfl ⟨rfl, (Qw.trans Q1.out Q11.out).st6 hR _ _ _ _ _ _⟩
      · go_simp
        refine hK _ _ trivial ?_
        clear hK K
        try simp only [List.getElem_toArray, List.getElem_cons_succ, List.getElem_cons_zero, Act.put, List.setIfInBounds_toArray, List.set_cons_zero, List.set_cons_succ]
        refine tgH_one (i := 5) rfl (by kernel_rfl) rfl (fun K hK => ?_)
        go_simp
        refine hK _ _ trivial ?_
        clear hK K
        try simp only [List.getElem_toArray, List.getElem_cons_succ, List.getElem_cons_zero, Act.put, List.setIfInBounds_toArray, List.set_cons_zero, List.set_cons_succ]
        refine tgH_one (i := 10) rfl (by kernel_rfl) rfl (fun K hK => ?_)
        go_simp
        refine (RT.out _ (Qw.trans Q1.out Q8.out)).mono ?_
        rintro e w9 ⟨rfl, q⟩
        have W9 := Lib.hid (W8.out.kept q)
        have R9 := Lib.hid (R8.out.kept q)
        have Q9 := Lib.hid (Qw.trans Q8.out q)
        refine hK _ _ trivial ?_
        clear hK K q x5 x9 W8 R8 Q8 hSS
        have hSS : (fun _ : World => True) w9 := trivial
        try simp only [List.getElem_toArray, List.getElem_cons_succ, List.getElem_cons_zero, Act.put, List.setIfInBounds_toArray, List.set_cons_zero, List.set_cons_succ]
        refine wpAnyH_take (i := 11) (v := ?_) rfl (by kernel_rfl) (by kernel_rfl) (by kernel_rfl) (fun _ _ _ h => h) (Or.inl ⟨by rfl, ?_⟩) hSS ?_
        rotate_left 1
        · intro wS hwS
          go_simp
          try with_reducible rfl
        simp only [List.getElem_toArray, List.getElem_cons_succ, List.getElem_cons_zero, Act.put, List.setIfInBounds_toArray, List.set_cons_zero, List.set_cons_succ]
        refine wpAnyH_take (i := 12) (v := ?_) rfl (by kernel_rfl) (by kernel_rfl) (by kernel_rfl) (fun _ _ _ h => h) (Or.inl ⟨by rfl, ?_⟩) hSS ?_
        rotate_left 1
        · intro wS hwS
          go_simp
          try with_reducible rfl
        simp only [List.getElem_toArray, List.getElem_cons_succ, List.getElem_cons_zero, Act.put, List.setIfInBounds_toArray, List.set_cons_zero, List.set_cons_succ]
        refine wpAnyH_take (i := 13) (v := ?_) rfl (by kernel_rfl) (by kernel_rfl) (by kernel_rfl) (fun _ _ _ h => h) (Or.inl ⟨by rfl, ?_⟩) hSS ?_
        rotate_left 1
        · intro wS hwS
          go_simp
          try with_reducible rfl
        simp only [List.getElem_toArray, List.getElem_cons_succ, List.getElem_cons_zero, Act.put, List.setIfInBounds_toArray, List.set_cons_zero, List.set_cons_succ]
        refine wpAnyH_take (i := 14) (v := ?_) rfl (by kernel_rfl) (by kernel_rfl) (by kernel_rfl) (fun _ _ _ h => h) (Or.inl ⟨by rfl, ?_⟩) hSS ?_
        rotate_left 1
        · intro wS hwS
          go_simp
          try with_reducible rfl
        simp only [List.getElem_toArray, List.getElem_cons_succ, List.getElem_cons_zero, Act.put, List.setIfInBounds_toArray, List.set_cons_zero, List.set_cons_succ]
        refine wpAnyH_take (i := 15) (v := ?_) rfl (by kernel_rfl) (by kernel_rfl) (by kernel_rfl) (fun _ _ _ h => h) (Or.inl ⟨by rfl, ?_⟩) hSS ?_
        rotate_left 1
        · intro wS hwS
          go_simp
          try with_reducible rfl
        simp only [List.getElem_toArray, List.getElem_cons_succ, List.getElem_cons_zero, Act.put, List.setIfInBounds_toArray, List.set_cons_zero, List.set_cons_succ]
        refine wpAnyH_take (i := 16) (v := ?_) rfl (by kernel_rfl) (by kernel_rfl) (by kernel_rfl) (fun _ _ _ h => h) (Or.inl ⟨by rfl, ?_⟩) hSS ?_
        rotate_left 1
        · intro wS hwS
          go_simp
          try with_reducible rfl
        simp only [List.getElem_toArray, List.getElem_cons_succ, List.getElem_cons_zero, Act.put, List.setIfInBounds_toArray, List.set_cons_zero, List.set_cons_succ]
        have x5 := W9.out.cell' 1 (.int .i64 n0) rfl
        have g5 := W9.out.free 1
        refine tgH_one (i := 17) rfl (by kernel_rfl) rfl (fun K hK => ?_)
        go_simp
        refine hK _ _ trivial ?_
        clear hK K hSS x5 g5
        have W10 := Lib.hid (W9.out.set 1 (.int .i64 v1))
        have R10 := Lib.hid (R9.out.other (a := ⟨WB, 1, none⟩) nR (.int .i64 v1))
        have Q10 := Lib.hid (Q9.out.sc (p := ⟨WB, 1, none⟩) hW (.int .i64 v1))
        clear W9 R9 Q9
        generalize World.setCell w9 _ _ = w10 at *
        have hSS : (fun _ : World => True) w10 := trivial
        try simp only [List.getElem_toArray, List.getElem_cons_succ, List.getElem_cons_zero, Act.put, List.setIfInBounds_toArray, List.set_cons_zero, List.set_cons_succ]
        refine wpAnyH_take (i := 18) (v := ?_) rfl (by kernel_rfl) (by kernel_rfl) (by kernel_rfl) (fun _ _ _ h => h) (Or.inl ⟨by rfl, ?_⟩) hSS ?_
        rotate_left 1
        · intro wS hwS
          go_simp
          try with_reducible rfl
        simp only [List.getElem_toArray, List.getElem_cons_succ, List.getElem_cons_zero, Act.put, List.setIfInBounds_toArray, List.set_cons_zero, List.set_cons_succ]
        refine wpAnyH_take (i := 19) (v := ?_) rfl (by kernel_rfl) (by kernel_rfl) (by kernel_rfl) (fun _ _ _ h => h) (Or.inl ⟨by rfl, ?_⟩) hSS ?_
        rotate_left 1
        · intro wS hwS
          go_simp
          try with_reducible rfl
        simp only [List.getElem_toArray, List.getElem_cons_succ, List.getElem_cons_zero, Act.put, List.setIfInBounds_toArray, List.set_cons_zero, List.set_cons_succ]
        have x5 := W10.out.cell' 3 (.int .i64 n1) rfl
        have g5 := W10.out.free 3
        refine tgH_one (i := 20) rfl (by kernel_rfl) rfl (fun K hK => ?_)
        go_simp
        refine hK _ _ trivial ?_
        clear hK K hSS x5 g5
        have W11 := Lib.hid (W10.out.set 3 (.int .i64 v2))
        have R11 := Lib.hid (R10.out.other (a := ⟨WB, 3, none⟩) nR (.int .i64 v2))
        have Q11 := Lib.hid (Q10.out.sc (p := ⟨WB, 3, none⟩) hW (.int .i64 v2))
        clear W10 R10 Q10
        generalize World.setCell w10 _ _ = w11 at *
        try simp only [List.getElem_toArray, List.getElem_cons_succ, List.getElem_cons_zero, Act.put, List.setIfInBounds_toArray, List.set_cons_zero, List.set_cons_succ]
        refine wpAnyH_done (by kernel_rfl) ?_ _
        have y0 := W11.out.cell' 0 (.bool b0) rfl
        have r0 := R11.out.cell' 0 (.bool false) rfl
        have f0 := R11.out.free 0
        have y1 := W11.out.cell' 1 (.int .i64 v1) rfl
        have r1 := R11.out.cell' 1 (.int .i64 0) rfl
        have f1 := R11.out.free 1
        have y2 := W11.out.cell' 2 (.bool b0) rfl
        have r2 := R11.out.cell' 2 (.bool false) rfl
        have f2 := R11.out.free 2
        have y3 := W11.out.cell' 3 (.int .i64 v2) rfl
        have r3 := R11.out.cell' 3 (.int .i64 0) rfl
        have f3 := R11.out.free 3
        have y4 := W11.out.cell' 4 (.bool b2) rfl
        have r4 := R11.out.cell' 4 (.bool false) rfl
        have f4 := R11.out.free 4
        have y5 := W11.out.cell' 5 (.int .i64 n2) rfl
        have r5 := R11.out.cell' 5 (.int .i64 0) rfl
        have f5 := R11.out.free 5
        go_wp2
        have S := R11.out.st6 (.bool b0) (.int .i64 v1) (.bool b0) (.int .i64 v2) (.bool b2) (.int .i64 n2)
        clear y0 y1 y2 y3 y4 y5 r0 r1 r2 r3 r4 r5 f0 f1 f2 f3 f4 f5
        have t0 := S.cell' 0 (.bool b0) rfl
        have t1 := S.cell' 1 (.int .i64 v1) rfl
        have t2 := S.cell' 2 (.bool b0) rfl
        have t3 := S.cell' 3 (.int .i64 v2) rfl
        have t4 := S.cell' 4 (.bool b2) rfl
        have t5 := S.cell' 5 (.int .i64 n2) rfl
        exact bodyPost_ret (v := .tuple #[.agg #[.bool b0, .int .i64 v1, .bool b0, .int .i64 v2, .bool b2, .int .i64 n2], .int .i64 0]) (by simp [results, Tryd.results55, go_sem, t0, t1, t2, t3, t4, t5]) rfl ⟨rfl, (Qw.trans Q1.out Q11.out).st6 hR _ _ _ _ _ _⟩
  · have rb := rd_bad (e := Tg.e3 l s.un 1) rfl he
    rw [if_neg he] at g1
    have sb := sg_bad (e := Tg.e3 l s.un 1) g1 he
    rw [g1, (sb 0).1, (sb 0).2, (sb 1).1, (sb 1).2, (sb 2).1, (sb 2).2]
    have RD : Hid (∀ w' : World, Qw w w' → Calls Tryd.prog 73 #[v, .int .i64 s.un, .int .i64 1] w' fun e w'' => e = .returned (.tuple #[.agg #[.bool false, .int .i64 0, .bool false, .int .i64 0, .bool false, .int .i64 0], .int .i64 (Tg.e3 l s.un 1)]) ∧ Qw w' w'') := Lib.hid (fun w' q => by have := rd w' q; rwa [(rb 0).1, (rb 0).2, (rb 1).1, (rb 1).2, (rb 2).1, (rb 2).2] at this)
    clear rd sb rb g1 g2 g3 g4 ab TX
    generalize Tg.e3 l s.un 1 = er at *
    have zz : (er != 0) = true := by rw [bne_iff_ne]; exact he
    clear he
    go_enter Tryd.func55, Tryd.ntmps55
    go_upto_region 1 with (refine box_md 0 rfl ?_; intro w0 P hp X q; have X0 := Lib.hid X; have Q0 := Lib.hid q; clear X q)
    refine code_of (fun w' => Bx w' P (mdc s) MT ∧ Bx w' w0.heap.size #[.bool false, .int .i64 0, .bool false, .int .i64 0, .bool false, .int .i64 0] WT ∧ Qw w w') ⟨X0.out.alloc _, Bx.new _ _ _, Qw.al Q0.out _⟩ ?_
    have hR : w.heap.size ≤ w0.heap.size := Q0.out.size
    clear X0 Q0 hp
    generalize w0.heap.size = R at *
    rintro w1 ⟨X, RR, q1⟩
    have c10 := X.cell' 10 (.int .i64 16) C10.out
    have c1 := X.cell' 1 (.int .i64 17) C1.out
    have XX := Lib.hid (fun (w' : World) (q : Qw w1 w') => X.kept q)
    have RX := Lib.hid (fun (w' : World) (q : Qw w1 w') => RR.kept q)
    have Q1 := Lib.hid q1
    clear X RR q1
    go_upto_region 4 with (go_at_call 65; ((with_reducible refine (FL.out _).mono ?_); rintro e w2 ⟨rfl, q⟩; have Q2 := Lib.hid q; clear q))
    refine code_of (fun w' => Bx w' w2.heap.size #[.int .i64 0, .int .i64 1] 64 ∧ Qw w1 w') ⟨Bx.new _ _ _, Qw.al Q2.out _⟩ ?_
    clear c10 c1 Q2
    generalize w2.heap.size = D at *
    rintro w3 ⟨DD, q3⟩
    have c3 := (XX.out _ q3).cell' 3 (.int .i64 s.un) rfl
    have d0 := DD.cell' 0 (.int .i64 0) rfl
    have d1 := DD.cell' 1 (.int .i64 1) rfl
    have DX := Lib.hid (fun (w' : World) (q : Qw w3 w') => DD.kept q)
    have Q3 := Lib.hid q3
    clear DD q3
    go_wp2_with (go_at_call 73; ((with_reducible refine (RD.out _ (Qw.trans Q1.out Q3.out)).mono ?_); rintro e w4 ⟨rfl, q⟩; have Q4 := Lib.hid (Qw.trans Q3.out q); have R4 := Lib.hid (RX.out _ (Qw.trans Q3.out q)); have r0 := (RX.out _ (Qw.trans Q3.out q)).cell' 0 (.bool false) rfl; have f0 := (RX.out _ (Qw.trans Q3.out q)).free 0; have r1 := (RX.out _ (Qw.trans Q3.out q)).cell' 1 (.int .i64 0) rfl; have f1 := (RX.out _ (Qw.trans Q3.out q)).free 1; have r2 := (RX.out _ (Qw.trans Q3.out q)).cell' 2 (.bool false) rfl; have f2 := (RX.out _ (Qw.trans Q3.out q)).free 2; have r3 := (RX.out _ (Qw.trans Q3.out q)).cell' 3 (.int .i64 0) rfl; have f3 := (RX.out _ (Qw.trans Q3.out q)).free 3; have r4 := (RX.out _ (Qw.trans Q3.out q)).cell' 4 (.bool false) rfl; have f4 := (RX.out _ (Qw.trans Q3.out q)).free 4; have r5 := (RX.out _ (Qw.trans Q3.out q)).cell' 5 (.int .i64 0) rfl; have f5 := (RX.out _ (Qw.trans Q3.out q)).free 5; have lr := (RX.out _ (Qw.trans Q3.out q)).lt; clear q))
    have S := (R4.out.st6 (.bool false) (.int .i64 0) (.bool false) (.int .i64 0) (.bool false) (.int .i64 0)).alloc (.cells #[.bool false, .int .i64 0, .bool false, .int .i64 0, .bool false, .int .i64 0] WT)
    have t0 := S.cell' 0 (.bool false) rfl
    have t1 := S.cell' 1 (.int .i64 0) rfl
    have t2 := S.cell' 2 (.bool false) rfl
    have t3 := S.cell' 3 (.int .i64 0) rfl
    have t4 := S.cell' 4 (.bool false) rfl
    have t5 := S.cell' 5 (.int .i64 0) rfl
    exact bodyPost_ret (v := .tuple #[.agg #[.bool false, .int .i64 0, .bool false, .int .i64 0, .bool false, .int .i64 0], .int .i64 er]) (by simp [results, Tryd.results55, go_sem, t0, t1, t2, t3, t4, t5]) rfl ⟨rfl, Qw.al ((Qw.trans Q1.out Q4.out).st6 hR _ _ _ _ _ _) _⟩
theorem sg_p18 {l : Vs.Ar} {u : Int} : Tg.pe l 18 u 16 = (if Tg.e3 l u 0 = 0 then (if Tg.thr l 2 ≠ Tg.thr l 0 then 9 else 0) else Tg.e3 l u 0) ∧
    Tg.pn l 18 u 16 2 = (rotv (Tg.wn l u 0 2) 0 (Tg.wn l u 0 0)).1 ∧ Tg.pn l 18 u 16 0 = (rotv (Tg.wn l u 0 2) 0 (Tg.wn l u 0 0)).2 ∧ Tg.pn l 18 u 16 1 = Tg.wn l u 0 1 := by
  have e1 : Tg.au 18 = 2 := by decide
  have e2 : Tg.aw 18 = 0 := by decide
  refine ⟨?_, ?_, ?_, ?_⟩
  · simp [Tg.pe, Tg.ax, e1, e2]
  · simp [Tg.pn, e1, e2]
  · simp [Tg.pn, e1, e2]
  · simp [Tg.pn, e1, e2]
set_option maxRecDepth 100000 in
set_option maxHeartbeats 16000000 in
theorem tgStraight18 {C : Nat} {w : World} {v : Value} {l : Vs.Ar} (h : ValsB C w v l) (hC : C ≤ w.heap.size) (s : Md.S) (hp : s.po = 16) (hpl : s.pl = 18) (T : Tc w) :
    Calls Tryd.prog 55 #[.agg (mdc s), v] w fun e w' => e = .returned (.tuple #[.agg #[.bool (sgb l s.pl s.un s.po 0), .int .i64 (sgv l s.pl s.un s.po 0), .bool (sgb l s.pl s.un s.po 1), .int .i64 (sgv l s.pl s.un s.po 1), .bool (sgb l s.pl s.un s.po 2), .int .i64 (sgv l s.pl s.un s.po 2)], .int .i64 (Tg.pe l s.pl s.un s.po)]) ∧ Qw w w' := by
  rw [hp, hpl]
  have C10 : Hid ((mdc s)[10]? = some (.int .i64 16)) := Lib.hid (by rw [← hp]; rfl)
  have C1 : Hid ((mdc s)[1]? = some (.int .i64 18)) := Lib.hid (by rw [← hpl]; rfl)
  clear hp hpl
  have rd := fun (w' : World) (q : Qw w w') => tgRead (h.kept q hC) (Nat.le_trans hC q.size) s.un 0 (by omega) (by omega)
  have fb := vals_fv h (88 + 0)
  have ab : -9223372036854775808 ≤ Tg.wn l s.un 0 0 ∧ Tg.wn l s.un 0 0 ≤ 9223372036854775807 := by
    unfold Tg.wn
    rw [if_pos rfl]
    split
    · exact fb
    · omega
  have FL := Lib.hid (show ∀ w : World, Calls Tryd.prog 65 #[.int .i64 18, .agg #[.int .i64 0, .int .i64 1, .int .i64 2]] w fun e w' => e = .returned (.tuple #[.agg #[.int .i64 2, .int .i64 0], .int .i64 1, .bool true]) ∧ Qw w w' from fun w => vc_flat 18 0 1 2 (by decide) (by decide) w)
  have TX := Lib.hid (fun (w' : World) (q : Qw w w') => T.kept q)
  obtain ⟨g1, g2, g3, g4⟩ := sg_p18 (l := l) (u := s.un)
  clear h hC fb T
  by_cases he : Tg.e3 l s.un 0 = 0
  · have ro := rd_ok he
    rw [if_pos he] at g1
    by_cases hn : Tg.thr l 2 ≠ Tg.thr l 0
    · rw [if_pos hn] at g1
      have sb := sg_bad g1 (by decide)
      rw [g1, (sb 0).1, (sb 0).2, (sb 1).1, (sb 1).2, (sb 2).1, (sb 2).2]
      have RD : Hid (∀ w' : World, Qw w w' → Calls Tryd.prog 73 #[v, .int .i64 s.un, .int .i64 0] w' fun e w'' => e = .returned (.tuple #[.agg #[.bool (Tg.thr l 0), .int .i64 (Tg.wn l s.un 0 0), .bool (Tg.thr l 1), .int .i64 (Tg.wn l s.un 0 1), .bool (Tg.thr l 2), .int .i64 (Tg.wn l s.un 0 2)], .int .i64 0]) ∧ Qw w' w'') := Lib.hid (fun w' q => by have := rd w' q; rwa [(ro 0).1, (ro 0).2, (ro 1).1, (ro 1).2, (ro 2).1, (ro 2).2, he] at this)
      clear rd sb ro g1 g2 g3 g4 ab TX he
      generalize Tg.wn l s.un 0 0 = n0 at *
      generalize Tg.wn l s.un 0 1 = n1 at *
      generalize Tg.wn l s.un 0 2 = n2 at *
      generalize Tg.thr l 0 = b0 at *
      generalize Tg.thr l 1 = b1 at *
      generalize Tg.thr l 2 = b2 at *
      have zb : (b2 == b0) = false := by simpa using hn
      clear hn
      go_enter Tryd.func55, Tryd.ntmps55
      go_upto_region 1 with (refine box_md 0 rfl ?_; intro w0 P hp X q; have X0 := Lib.hid X; have Q0 := Lib.hid q; clear X q)
      refine code_of (fun w' => Bx w' P (mdc s) MT ∧ Bx w' w0.heap.size #[.bool false, .int .i64 0, .bool false, .int .i64 0, .bool false, .int .i64 0] WT ∧ Qw w w') ⟨X0.out.alloc _, Bx.new _ _ _, Qw.al Q0.out _⟩ ?_
      have hR : w.heap.size ≤ w0.heap.size := Q0.out.size
      clear X0 Q0 hp
      generalize w0.heap.size = R at *
      rintro w1 ⟨X, RR, q1⟩
      have c10 := X.cell' 10 (.int .i64 16) C10.out
      have c1 := X.cell' 1 (.int .i64 18) C1.out
      have XX := Lib.hid (fun (w' : World) (q : Qw w1 w') => X.kept q)
      have RX := Lib.hid (fun (w' : World) (q : Qw w1 w') => RR.kept q)
      have Q1 := Lib.hid q1
      clear X RR q1
      go_upto_region 4 with (go_at_call 65; ((with_reducible refine (FL.out _).mono ?_); rintro e w2 ⟨rfl, q⟩; have Q2 := Lib.hid q; clear q))
      refine code_of (fun w' => Bx w' w2.heap.size #[.int .i64 2, .int .i64 0] 64 ∧ Qw w1 w') ⟨Bx.new _ _ _, Qw.al Q2.out _⟩ ?_
      clear c10 c1 Q2
      generalize w2.heap.size = D at *
      rintro w3 ⟨DD, q3⟩
      have c3 := (XX.out _ q3).cell' 3 (.int .i64 s.un) rfl
      have d0 := DD.cell' 0 (.int .i64 2) rfl
      have d1 := DD.cell' 1 (.int .i64 0) rfl
      have DX := Lib.hid (fun (w' : World) (q : Qw w3 w') => DD.kept q)
      have Q3 := Lib.hid q3
      clear DD q3
      go_upto_region 7 with (go_at_call 73; ((with_reducible refine (RD.out _ (Qw.trans Q1.out Q3.out)).mono ?_); rintro e w4 ⟨rfl, q⟩; have Q4 := Lib.hid q; clear q))
      have nR : R ≠ w4.heap.size := Nat.ne_of_lt (RX.out _ (Qw.trans Q3.out Q4.out)).lt
      have hW : w1.heap.size ≤ w4.heap.size := (Qw.trans Q3.out Q4.out).size
      refine code_of (fun w' => Bx w' w4.heap.size #[.bool b0, .int .i64 n0, .bool b1, .int .i64 n1, .bool b2, .int .i64 n2] WT ∧ Qw w3 w') ⟨Bx.new _ _ _, Qw.al Q4.out _⟩ ?_
      clear c3 d0 d1 Q4
      generalize w4.heap.size = WB at *
      rintro w5 ⟨WX, q5⟩
      have DD := DX.out _ q5
      refine wp_region_M (fun wS => Qw w5 wS) 7 (by kernel_rfl) ?_
      have hSS : Qw w5 (World.drew w5) := qw_drew1 w5
      generalize World.drew w5 = wd at *
      refine wpAnyM_take (i := 0) (v := ?_) rfl (by kernel_rfl) (fun _ _ _ h => h) (Or.inl ⟨by rfl, ?_⟩) hSS ?_
      rotate_left 1
      · intro wS hwS
        go_simp
        try with_reducible rfl
      simp only [List.getElem_toArray, List.getElem_cons_succ, List.getElem_cons_zero, Act.put, List.setIfInBounds_toArray, List.set_cons_zero, List.set_cons_succ]
      refine wpAnyM_take (i := 1) (v := ?_) rfl (by kernel_rfl) (fun _ _ _ h => h) (Or.inl ⟨by rfl, ?_⟩) hSS ?_
      rotate_left 1
      · intro wS hwS
        have y := (DD.kept hwS).cell' 0 (.int .i64 2) rfl; go_simp
        try with_reducible rfl
      simp only [List.getElem_toArray, List.getElem_cons_succ, List.getElem_cons_zero, Act.put, List.setIfInBounds_toArray, List.set_cons_zero, List.set_cons_succ]
      refine wpAnyM_take (i := 2) (v := ?_) rfl (by kernel_rfl) (fun _ _ _ h => h) (Or.inl ⟨by rfl, ?_⟩) hSS ?_
      rotate_left 1
      · intro wS hwS
        go_simp
        try with_reducible rfl
      simp only [List.getElem_toArray, List.getElem_cons_succ, List.getElem_cons_zero, Act.put, List.setIfInBounds_toArray, List.set_cons_zero, List.set_cons_succ]
      refine wpAnyM_take (i := 3) (v := ?_) rfl (by kernel_rfl) (fun _ _ _ h => h) (Or.inl ⟨by rfl, ?_⟩) hSS ?_
      rotate_left 1
      · intro wS hwS
        go_simp
        try with_reducible rfl
      simp only [List.getElem_toArray, List.getElem_cons_succ, List.getElem_cons_zero, Act.put, List.setIfInBounds_toArray, List.set_cons_zero, List.set_cons_succ]
      refine wpAnyM_take (i := 4) (v := ?_) rfl (by kernel_rfl) (fun _ _ _ h => h) (Or.inl ⟨by rfl, ?_⟩) hSS ?_
      rotate_left 1
      · intro wS hwS
        have y := (DD.kept hwS).cell' 1 (.int .i64 0) rfl; go_simp
        try with_reducible rfl
      simp only [List.getElem_toArray, List.getElem_cons_succ, List.getElem_cons_zero, Act.put, List.setIfInBounds_toArray, List.set_cons_zero, List.set_cons_succ]
      refine wpAnyM_take (i := 5) (v := ?_) rfl (by kernel_rfl) (fun _ _ _ h => h) (Or.inl ⟨by rfl, ?_⟩) hSS ?_
      rotate_left 1
      · intro wS hwS
        go_simp
        try with_reducible rfl
      simp only [List.getElem_toArray, List.getElem_cons_succ, List.getElem_cons_zero, Act.put, List.setIfInBounds_toArray, List.set_cons_zero, List.set_cons_succ]
      refine wpAnyM_one (i := 6) rfl (by kernel_rfl) rfl (fun K hK => ?_)
      go_simp
      refine hK _ _ (fun _ => hSS) ?_
      clear hK K
      try simp only [List.getElem_toArray, List.getElem_cons_succ, List.getElem_cons_zero, Act.put, List.setIfInBounds_toArray, List.set_cons_zero, List.set_cons_succ]
      refine wpAnyM_one (i := 7) rfl (by kernel_rfl) rfl (fun K hK => ?_)
      go_simp
      refine hK _ _ (fun h => absurd h (by decide)) ?_
      clear hK K
      try simp only [List.getElem_toArray, List.getElem_cons_succ, List.getElem_cons_zero, Act.put, List.setIfInBounds_toArray, List.set_cons_zero, List.set_cons_succ]
      refine wpAnyM_done (by kernel_rfl) ?_ _
      have WX2 := WX.kept hSS
      have Q6 := Lib.hid (Qw.trans (Qw.trans Q3.out q5) hSS)
      clear WX q5 DD hSS w5
      have b_u := WX2.kcell 4 (.bool b2) rfl
      have b_w := WX2.kcell 0 (.bool b0) rfl
      have K6 := Lib.hid WX2
      clear WX2
      go_upto_region 8 with fail
      refine region_kept (by kernel_rfl) (by kernel_rfl) ?_
      repeat (go_big_quiet_step (fail))
      refine wpQuiet_nil ?_
      intro w7 q7
      clear b_u b_w
      have R7 := Lib.hid (RX.out _ (Qw.trans Q6.out q7))
      have QQ := Lib.hid (Qw.trans Q1.out (Qw.trans Q6.out q7))
      clear q7
      have r0 := R7.out.cell' 0 (.bool false) rfl
      have f0 := R7.out.free 0
      have r1 := R7.out.cell' 1 (.int .i64 0) rfl
      have f1 := R7.out.free 1
      have r2 := R7.out.cell' 2 (.bool false) rfl
      have f2 := R7.out.free 2
      have r3 := R7.out.cell' 3 (.int .i64 0) rfl
      have f3 := R7.out.free 3
      have r4 := R7.out.cell' 4 (.bool false) rfl
      have f4 := R7.out.free 4
      have r5 := R7.out.cell' 5 (.int .i64 0) rfl
      have f5 := R7.out.free 5
      go_wp2
      have S := R7.out.st6 (.bool false) (.int .i64 0) (.bool false) (.int .i64 0) (.bool false) (.int .i64 0)
      have t0 := S.cell' 0 (.bool false) rfl
      have t1 := S.cell' 1 (.int .i64 0) rfl
      have t2 := S.cell' 2 (.bool false) rfl
      have t3 := S.cell' 3 (.int .i64 0) rfl
      have t4 := S.cell' 4 (.bool false) rfl
      have t5 := S.cell' 5 (.int .i64 0) rfl
      exact bodyPost_ret (v := .tuple #[.agg #[.bool false, .int .i64 0, .bool false, .int .i64 0, .bool false, .int .i64 0], .int .i64 9]) (by simp [results, Tryd.results55, go_sem, t0, t1, t2, t3, t4, t5]) rfl ⟨rfl, QQ.out.st6 hR _ _ _ _ _ _⟩
    · rw [if_neg hn] at g1
      have sb := sg_ok g1
      rw [g1, (sb 0).1, (sb 0).2, (sb 1).1, (sb 1).2, (sb 2).1, (sb 2).2, g2, g3, g4]
      have RD : Hid (∀ w' : World, Qw w w' → Calls Tryd.prog 73 #[v, .int .i64 s.un, .int .i64 0] w' fun e w'' => e = .returned (.tuple #[.agg #[.bool (Tg.thr l 0), .int .i64 (Tg.wn l s.un 0 0), .bool (Tg.thr l 1), .int .i64 (Tg.wn l s.un 0 1), .bool (Tg.thr l 2), .int .i64 (Tg.wn l s.un 0 2)], .int .i64 0]) ∧ Qw w' w'') := Lib.hid (fun w' q => by have := rd w' q; rwa [(ro 0).1, (ro 0).2, (ro 1).1, (ro 1).2, (ro 2).1, (ro 2).2, he] at this)
      have RT := Lib.hid (fun (w' : World) (q : Qw w w') => co_rotate (Tg.wn l s.un 0 2) 0 (Tg.wn l s.un 0 0) ab.1 ab.2 w' (TX.out w' q))
      clear rd sb ro g1 g2 g3 g4 ab TX he
      generalize rotok (Tg.wn l s.un 0 2) 0 = ok at *
      generalize (rotv (Tg.wn l s.un 0 2) 0 (Tg.wn l s.un 0 0)).1 = v1 at *
      generalize (rotv (Tg.wn l s.un 0 2) 0 (Tg.wn l s.un 0 0)).2 = v2 at *
      have hb : Tg.thr l 2 = Tg.thr l 0 := by simpa using hn
      clear hn
      generalize Tg.wn l s.un 0 0 = n0 at *
      generalize Tg.wn l s.un 0 1 = n1 at *
      generalize Tg.wn l s.un 0 2 = n2 at *
      generalize Tg.thr l 0 = b0 at *
      generalize Tg.thr l 1 = b1 at *
      generalize Tg.thr l 2 = b2 at *
      subst hb
      go_enter Tryd.func55, Tryd.ntmps55
      go_upto_region 1 with (refine box_md 0 rfl ?_; intro w0 P hp X q; have X0 := Lib.hid X; have Q0 := Lib.hid q; clear X q)
      refine code_of (fun w' => Bx w' P (mdc s) MT ∧ Bx w' w0.heap.size #[.bool false, .int .i64 0, .bool false, .int .i64 0, .bool false, .int .i64 0] WT ∧ Qw w w') ⟨X0.out.alloc _, Bx.new _ _ _, Qw.al Q0.out _⟩ ?_
      have hR : w.heap.size ≤ w0.heap.size := Q0.out.size
      clear X0 Q0 hp
      generalize w0.heap.size = R at *
      rintro w1 ⟨X, RR, q1⟩
      have c10 := X.cell' 10 (.int .i64 16) C10.out
      have c1 := X.cell' 1 (.int .i64 18) C1.out
      have XX := Lib.hid (fun (w' : World) (q : Qw w1 w') => X.kept q)
      have RX := Lib.hid (fun (w' : World) (q : Qw w1 w') => RR.kept q)
      have Q1 := Lib.hid q1
      clear X RR q1
      go_upto_region 4 with (go_at_call 65; ((with_reducible refine (FL.out _).mono ?_); rintro e w2 ⟨rfl, q⟩; have Q2 := Lib.hid q; clear q))
      refine code_of (fun w' => Bx w' w2.heap.size #[.int .i64 2, .int .i64 0] 64 ∧ Qw w1 w') ⟨Bx.new _ _ _, Qw.al Q2.out _⟩ ?_
      clear c10 c1 Q2
      generalize w2.heap.size = D at *
      rintro w3 ⟨DD, q3⟩
      have c3 := (XX.out _ q3).cell' 3 (.int .i64 s.un) rfl
      have d0 := DD.cell' 0 (.int .i64 2) rfl
      have d1 := DD.cell' 1 (.int .i64 0) rfl
      have DX := Lib.hid (fun (w' : World) (q : Qw w3 w') => DD.kept q)
      have Q3 := Lib.hid q3
      clear DD q3
      go_upto_region 7 with (go_at_call 73; ((with_reducible refine (RD.out _ (Qw.trans Q1.out Q3.out)).mono ?_); rintro e w4 ⟨rfl, q⟩; have Q4 := Lib.hid q; clear q))
      have nR : R ≠ w4.heap.size := Nat.ne_of_lt (RX.out _ (Qw.trans Q3.out Q4.out)).lt
      have hW : w1.heap.size ≤ w4.heap.size := (Qw.trans Q3.out Q4.out).size
      refine code_of (fun w' => Bx w' w4.heap.size #[.bool b2, .int .i64 n0, .bool b1, .int .i64 n1, .bool b2, .int .i64 n2] WT ∧ Qw w3 w') ⟨Bx.new _ _ _, Qw.al Q4.out _⟩ ?_
      clear c3 d0 d1 Q4
      generalize w4.heap.size = WB at *
      rintro w5 ⟨WX, q5⟩
      have DD := DX.out _ q5
      refine wp_region_M (fun wS => Qw w5 wS) 7 (by kernel_rfl) ?_
      have hSS : Qw w5 (World.drew w5) := qw_drew1 w5
      generalize World.drew w5 = wd at *
      refine wpAnyM_take (i := 0) (v := ?_) rfl (by kernel_rfl) (fun _ _ _ h => h) (Or.inl ⟨by rfl, ?_⟩) hSS ?_
      rotate_left 1
      · intro wS hwS
        go_simp
        try with_reducible rfl
      simp only [List.getElem_toArray, List.getElem_cons_succ, List.getElem_cons_zero, Act.put, List.setIfInBounds_toArray, List.set_cons_zero, List.set_cons_succ]
      refine wpAnyM_take (i := 1) (v := ?_) rfl (by kernel_rfl) (fun _ _ _ h => h) (Or.inl ⟨by rfl, ?_⟩) hSS ?_
      rotate_left 1
      · intro wS hwS
        have y := (DD.kept hwS).cell' 0 (.int .i64 2) rfl; go_simp
        try with_reducible rfl
      simp only [List.getElem_toArray, List.getElem_cons_succ, List.getElem_cons_zero, Act.put, List.setIfInBounds_toArray, List.set_cons_zero, List.set_cons_succ]
      refine wpAnyM_take (i := 2) (v := ?_) rfl (by kernel_rfl) (fun _ _ _ h => h) (Or.inl ⟨by rfl, ?_⟩) hSS ?_
      rotate_left 1
      · intro wS hwS
        go_simp
        try with_reducible rfl
      simp only [List.getElem_toArray, List.getElem_cons_succ, List.getElem_cons_zero, Act.put, List.setIfInBounds_toArray, List.set_cons_zero, List.set_cons_succ]
      refine wpAnyM_take (i := 3) (v := ?_) rfl (by kernel_rfl) (fun _ _ _ h => h) (Or.inl ⟨by rfl, ?_⟩) hSS ?_
      rotate_left 1
      · intro wS hwS
        go_simp
        try with_reducible rfl
      simp only [List.getElem_toArray, List.getElem_cons_succ, List.getElem_cons_zero, Act.put, List.setIfInBounds_toArray, List.set_cons_zero, List.set_cons_succ]
      refine wpAnyM_take (i := 4) (v := ?_) rfl (by kernel_rfl) (fun _ _ _ h => h) (Or.inl ⟨by rfl, ?_⟩) hSS ?_
      rotate_left 1
      · intro wS hwS
        have y := (DD.kept hwS).cell' 1 (.int .i64 0) rfl; go_simp
        try with_reducible rfl
      simp only [List.getElem_toArray, List.getElem_cons_succ, List.getElem_cons_zero, Act.put, List.setIfInBounds_toArray, List.set_cons_zero, List.set_cons_succ]
      refine wpAnyM_take (i := 5) (v := ?_) rfl (by kernel_rfl) (fun _ _ _ h => h) (Or.inl ⟨by rfl, ?_⟩) hSS ?_
      rotate_left 1
      · intro wS hwS
        go_simp
        try with_reducible rfl
      simp only [List.getElem_toArray, List.getElem_cons_succ, List.getElem_cons_zero, Act.put, List.setIfInBounds_toArray, List.set_cons_zero, List.set_cons_succ]
      refine wpAnyM_one (i := 6) rfl (by kernel_rfl) rfl (fun K hK => ?_)
      go_simp
      refine hK _ _ (fun _ => hSS) ?_
      clear hK K
      try simp only [List.getElem_toArray, List.getElem_cons_succ, List.getElem_cons_zero, Act.put, List.setIfInBounds_toArray, List.set_cons_zero, List.set_cons_succ]
      refine wpAnyM_one (i := 7) rfl (by kernel_rfl) rfl (fun K hK => ?_)
      go_simp
      refine hK _ _ (fun h => absurd h (by decide)) ?_
      clear hK K
      try simp only [List.getElem_toArray, List.getElem_cons_succ, List.getElem_cons_zero, Act.put, List.setIfInBounds_toArray, List.set_cons_zero, List.set_cons_succ]
      refine wpAnyM_done (by kernel_rfl) ?_ _
      have WX2 := WX.kept hSS
      have Q6 := Lib.hid (Qw.trans (Qw.trans Q3.out q5) hSS)
      clear WX q5 DD hSS w5
      have b_u := WX2.kcell 4 (.bool b2) rfl
      have b_w := WX2.kcell 0 (.bool b2) rfl
      have K6 := Lib.hid WX2
      clear WX2
      go_upto_region 8 with fail
      refine region_kept (by kernel_rfl) (by kernel_rfl) ?_
      repeat (go_big_quiet_step (fail))
      refine wpQuiet_nil ?_
      intro w7 q7
      clear b_u b_w
      have W7 := Lib.hid (K6.out.kept q7)
      have R7 := Lib.hid (RX.out _ (Qw.trans Q6.out q7))
      have Q7 := Lib.hid (Qw.trans Q6.out q7)
      clear q7 K6 Q6
      go_upto_region 10 with fail
      refine wp_region_held (S := fun _ => True) (by kernel_rfl) ?_
      change wpAnyH _ _ _ _ _ _ _ _ (World.drew w7)
      have hSS : (fun _ : World => True) (World.drew w7) := trivial
      have W8 := Lib.hid (W7.out.kept (qw_drew1 w7))
      have R8 := Lib.hid (R7.out.kept (qw_drew1 w7))
      have Q8 := Lib.hid (Qw.trans Q7.out (qw_drew1 w7))
      clear W7 R7 Q7
      generalize World.drew w7 = w8 at *
      refine wpAnyH_take (i := 0) (v := ?_) rfl (by kernel_rfl) (by kernel_rfl) (by kernel_rfl) (fun _ _ _ h => h) (Or.inl ⟨by rfl, ?_⟩) hSS ?_
      rotate_left 1
      · intro wS hwS
        go_simp
        try with_reducible rfl
      simp only [List.getElem_toArray, List.getElem_cons_succ, List.getElem_cons_zero, Act.put, List.setIfInBounds_toArray, List.set_cons_zero, List.set_cons_succ]
      refine wpAnyH_take (i := 1) (v := ?_) rfl (by kernel_rfl) (by kernel_rfl) (by kernel_rfl) (fun _ _ _ h => h) (Or.inl ⟨by rfl, ?_⟩) hSS ?_
      rotate_left 1
      · intro wS hwS
        go_simp
        try with_reducible rfl
      simp only [List.getElem_toArray, List.getElem_cons_succ, List.getElem_cons_zero, Act.put, List.setIfInBounds_toArray, List.set_cons_zero, List.set_cons_succ]
      refine wpAnyH_take (i := 2) (v := ?_) rfl (by kernel_rfl) (by kernel_rfl) (by kernel_rfl) (fun _ _ _ h => h) (Or.inl ⟨by rfl, ?_⟩) hSS ?_
      rotate_left 1
      · intro wS hwS
        go_simp
        try with_reducible rfl
      simp only [List.getElem_toArray, List.getElem_cons_succ, List.getElem_cons_zero, Act.put, List.setIfInBounds_toArray, List.set_cons_zero, List.set_cons_succ]
      refine wpAnyH_take (i := 6) (v := ?_) rfl (by kernel_rfl) (by kernel_rfl) (by kernel_rfl) (fun _ _ _ h => h) (Or.inl ⟨by rfl, ?_⟩) hSS ?_
      rotate_left 1
      · intro wS hwS
        go_simp
        try with_reducible rfl
      simp only [List.getElem_toArray, List.getElem_cons_succ, List.getElem_cons_zero, Act.put, List.setIfInBounds_toArray, List.set_cons_zero, List.set_cons_succ]
      refine wpAnyH_take (i := 3) (v := ?_) rfl (by kernel_rfl) (by kernel_rfl) (by kernel_rfl) (fun _ _ _ h => h) (Or.inl ⟨by rfl, ?_⟩) hSS ?_
      rotate_left 1
      · intro wS hwS
        go_simp
        try with_reducible rfl
      simp only [List.getElem_toArray, List.getElem_cons_succ, List.getElem_cons_zero, Act.put, List.setIfInBounds_toArray, List.set_cons_zero, List.set_cons_succ]
      refine wpAnyH_take (i := 7) (v := ?_) rfl (by kernel_rfl) (by kernel_rfl) (by kernel_rfl) (fun _ _ _ h => h) (Or.inl ⟨by rfl, ?_⟩) hSS ?_
      rotate_left 1
      · intro wS hwS
        go_simp
        try with_reducible rfl
      simp only [List.getElem_toArray, List.getElem_cons_succ, List.getElem_cons_zero, Act.put, List.setIfInBounds_toArray, List.set_cons_zero, List.set_cons_succ]
      refine wpAnyH_take (i := 4) (v := ?_) rfl (by kernel_rfl) (by kernel_rfl) (by kernel_rfl) (fun _ _ _ h => h) (Or.inl ⟨by rfl, ?_⟩) hSS ?_
      rotate_left 1
      · intro wS hwS
        go_simp
        try with_reducible rfl
      simp only [List.getElem_toArray, List.getElem_cons_succ, List.getElem_cons_zero, Act.put, List.setIfInBounds_toArray, List.set_cons_zero, List.set_cons_succ]
      refine wpAnyH_take (i := 8) (v := ?_) rfl (by kernel_rfl) (by kernel_rfl) (by kernel_rfl) (fun _ _ _ h => h) (Or.inl ⟨by rfl, ?_⟩) hSS ?_
      rotate_left 1
      · intro wS hwS
        go_simp
        try with_reducible rfl
      simp only [List.getElem_toArray, List.getElem_cons_succ, List.getElem_cons_zero, Act.put, List.setIfInBounds_toArray, List.set_cons_zero, List.set_cons_succ]
      have x5 := W8.out.cell' 5 (.int .i64 n2) rfl
      have x9 := W8.out.cell' 1 (.int .i64 n0) rfl
      refine tgH_two (i := 5) (j := 9) rfl rfl (by kernel_rfl) rfl rfl (fun K hK => ?_) (fun K hK => ?_)
      · go_simp
        refine hK _ _ trivial ?_
        clear hK K
        try simp only [List.getElem_toArray, List.getElem_cons_succ, List.getElem_cons_zero, Act.put, List.setIfInBounds_toArray, List.set_cons_zero, List.set_cons_succ]
        refine tgH_one (i := 9) rfl (by kernel_rfl) rfl (fun K hK => ?_)
        go_simp
        refine hK _ _ trivial ?_
        clear hK K
        try simp only [List.getElem_toArray, List.getElem_cons_succ, List.getElem_cons_zero, Act.put, List.setIfInBounds_toArray, List.set_cons_zero, List.set_cons_succ]
        refine tgH_one (i := 10) rfl (by kernel_rfl) rfl (fun K hK => ?_)
        go_simp
        refine (RT.out _ (Qw.trans Q1.out Q8.out)).mono ?_
        rintro e w9 ⟨rfl, q⟩
        have W9 := Lib.hid (W8.out.kept q)
        have R9 := Lib.hid (R8.out.kept q)
        have Q9 := Lib.hid (Qw.trans Q8.out q)
        refine hK _ _ trivial ?_
        clear hK K q x5 x9 W8 R8 Q8 hSS
        have hSS : (fun _ : World => True) w9 := trivial
        try simp only [List.getElem_toArray, List.getElem_cons_succ, List.getElem_cons_zero, Act.put, List.setIfInBounds_toArray, List.set_cons_zero, List.set_cons_succ]
        refine wpAnyH_take (i := 11) (v := ?_) rfl (by kernel_rfl) (by kernel_rfl) (by kernel_rfl) (fun _ _ _ h => h) (Or.inl ⟨by rfl, ?_⟩) hSS ?_
        rotate_left 1
        · intro wS hwS
          go_simp
          try with_reducible rfl
        simp only [List.getElem_toArray, List.getElem_cons_succ, List.getElem_cons_zero, Act.put, List.setIfInBounds_toArray, List.set_cons_zero, List.set_cons_succ]
        refine wpAnyH_take (i := 12) (v := ?_) rfl (by kernel_rfl) (by kernel_rfl) (by kernel_rfl) (fun _ _ _ h => h) (Or.inl ⟨by rfl, ?_⟩) hSS ?_
        rotate_left 1
        · intro wS hwS
          go_simp
          try with_reducible rfl
        simp only [List.getElem_toArray, List.getElem_cons_succ, List.getElem_cons_zero, Act.put, List.setIfInBounds_toArray, List.set_cons_zero, List.set_cons_succ]
        refine wpAnyH_take (i := 13) (v := ?_) rfl (by kernel_rfl) (by kernel_rfl) (by kernel_rfl) (fun _ _ _ h => h) (Or.inl ⟨by rfl, ?_⟩) hSS ?_
        rotate_left 1
        · intro wS hwS
          go_simp
          try with_reducible rfl
        simp only [List.getElem_toArray, List.getElem_cons_succ, List.getElem_cons_zero, Act.put, List.setIfInBounds_toArray, List.set_cons_zero, List.set_cons_succ]
        refine wpAnyH_take (i := 14) (v := ?_) rfl (by kernel_rfl) (by kernel_rfl) (by kernel_rfl) (fun _ _ _ h => h) (Or.inl ⟨by rfl, ?_⟩) hSS ?_
        rotate_left 1
        · intro wS hwS
          go_simp
          try with_reducible rfl
        simp only [List.getElem_toArray, List.getElem_cons_succ, List.getElem_cons_zero, Act.put, List.setIfInBounds_toArray, List.set_cons_zero, List.set_cons_succ]
        refine wpAnyH_take (i := 15) (v := ?_) rfl (by kernel_rfl) (by kernel_rfl) (by kernel_rfl) (fun _ _ _ h => h) (Or.inl ⟨by rfl, ?_⟩) hSS ?_
        rotate_left 1
        · intro wS hwS
          go_simp
          try with_reducible rfl
        simp only [List.getElem_toArray, List.getElem_cons_succ, List.getElem_cons_zero, Act.put, List.setIfInBounds_toArray, List.set_cons_zero, List.set_cons_succ]
        refine wpAnyH_take (i := 16) (v := ?_) rfl (by kernel_rfl) (by kernel_rfl) (by kernel_rfl) (fun _ _ _ h => h) (Or.inl ⟨by rfl, ?_⟩) hSS ?_
        rotate_left 1
        · intro wS hwS
          go_simp
          try with_reducible rfl
        simp only [List.getElem_toArray, List.getElem_cons_succ, List.getElem_cons_zero, Act.put, List.setIfInBounds_toArray, List.set_cons_zero, List.set_cons_succ]
        have x5 := W9.out.cell' 5 (.int .i64 n2) rfl
        have g5 := W9.out.free 5
        refine tgH_one (i := 17) rfl (by kernel_rfl) rfl (fun K hK => ?_)
        go_simp
        refine hK _ _ trivial ?_
        clear hK K hSS x5 g5
        have W10 := Lib.hid (W9.out.set 5 (.int .i64 v1))
        have R10 := Lib.hid (R9.out.other (a := ⟨WB, 5, none⟩) nR (.int .i64 v1))
        have Q10 := Lib.hid (Q9.out.sc (p := ⟨WB, 5, none⟩) hW (.int .i64 v1))
        clear W9 R9 Q9
        generalize World.setCell w9 _ _ = w10 at *
        have hSS : (fun _ : World => True) w10 := trivial
        try simp only [List.getElem_toArray, List.getElem_cons_succ, List.getElem_cons_zero, Act.put, List.setIfInBounds_toArray, List.set_cons_zero, List.set_cons_succ]
        refine wpAnyH_take (i := 18) (v := ?_) rfl (by kernel_rfl) (by kernel_rfl) (by kernel_rfl) (fun _ _ _ h => h) (Or.inl ⟨by rfl, ?_⟩) hSS ?_
        rotate_left 1
        · intro wS hwS
          go_simp
          try with_reducible rfl
        simp only [List.getElem_toArray, List.getElem_cons_succ, List.getElem_cons_zero, Act.put, List.setIfInBounds_toArray, List.set_cons_zero, List.set_cons_succ]
        refine wpAnyH_take (i := 19) (v := ?_) rfl (by kernel_rfl) (by kernel_rfl) (by kernel_rfl) (fun _ _ _ h => h) (Or.inl ⟨by rfl, ?_⟩) hSS ?_
        rotate_left 1
        · intro wS hwS
          go_simp
          try with_reducible rfl
        simp only [List.getElem_toArray, List.getElem_cons_succ, List.getElem_cons_zero, Act.put, List.setIfInBounds_toArray, List.set_cons_zero, List.set_cons_succ]
        have x5 := W10.out.cell' 1 (.int .i64 n0) rfl
        have g5 := W10.out.free 1
        refine tgH_one (i := 20) rfl (by kernel_rfl) rfl (fun K hK => ?_)
        go_simp
        refine hK _ _ trivial ?_
        clear hK K hSS x5 g5
        have W11 := Lib.hid (W10.out.set 1 (.int .i64 v2))
        have R11 := Lib.hid (R10.out.other (a := ⟨WB, 1, none⟩) nR (.int .i64 v2))
        have Q11 := Lib.hid (Q10.out.sc (p := ⟨WB, 1, none⟩) hW (.int .i64 v2))
        clear W10 R10 Q10
        generalize World.setCell w10 _ _ = w11 at *
        try simp only [List.getElem_toArray, List.getElem_cons_succ, List.getElem_cons_zero, Act.put, List.setIfInBounds_toArray, List.set_cons_zero, List.set_cons_succ]
        refine wpAnyH_done (by kernel_rfl) ?_ _
        have y0 := W11.out.cell' 0 (.bool b2) rfl
        have r0 := R11.out.cell' 0 (.bool false) rfl
        have f0 := R11.out.free 0
        have y1 := W11.out.cell' 1 (.int .i64 v2) rfl
        have r1 := R11.out.cell' 1 (.int .i64 0) rfl
        have f1 := R11.out.free 1
        have y2 := W11.out.cell' 2 (.bool b1) rfl
        have r2 := R11.out.cell' 2 (.bool false) rfl
        have f2 := R11.out.free 2
        have y3 := W11.out.cell' 3 (.int .i64 n1) rfl
        have r3 := R11.out.cell' 3 (.int .i64 0) rfl
        have f3 := R11.out.free 3
        have y4 := W11.out.cell' 4 (.bool b2) rfl
        have r4 := R11.out.cell' 4 (.bool false) rfl
        have f4 := R11.out.free 4
        have y5 := W11.out.cell' 5 (.int .i64 v1) rfl
        have r5 := R11.out.cell' 5 (.int .i64 0) rfl
        have f5 := R11.out.free 5
        go_wp2
        have S := R11.out.st6 (.bool b2) (.int .i64 v2) (.bool b1) (.int .i64 n1) (.bool b2) (.int .i64 v1)
        clear y0 y1 y2 y3 y4 y5 r0 r1 r2 r3 r4 r5 f0 f1 f2 f3 f4 f5
        have t0 := S.cell' 0 (.bool b2) rfl
        have t1 := S.cell' 1 (.int .i64 v2) rfl
        have t2 := S.cell' 2 (.bool b1) rfl
        have t3 := S.cell' 3 (.int .i64 n1) rfl
        have t4 := S.cell' 4 (.bool b2) rfl
        have t5 := S.cell' 5 (.int .i64 v1) rfl
        exact bodyPost_ret (v := .tuple #[.agg #[.bool b2, .int .i64 v2, .bool b1, .int .i64 n1, .bool b2, .int .i64 v1], .int .i64 0]) (by simp [results, Tryd.results55, go_sem, t0, t1, t2, t3, t4, t5]) rfl ⟨rfl, (Qw.trans Q1.out Q11.out).st6 hR _ _ _ _ _ _⟩
      · go_simp
        refine hK _ _ trivial ?_
        clear hK K
        try simp only [List.getElem_toArray, List.getElem_cons_succ, List.getElem_cons_zero, Act.put, List.setIfInBounds_toArray, List.set_cons_zero, List.set_cons_succ]
        refine tgH_one (i := 5) rfl (by kernel_rfl) rfl (fun K hK => ?_)
        go_simp
        refine hK _ _ trivial ?_
        clear hK K
        try simp only [List.getElem_toArray, List.getElem_cons_succ, List.getElem_cons_zero, Act.put, List.setIfInBounds_toArray, List.set_cons_zero, List.set_cons_succ]
        refine tgH_one (i := 10) rfl (by kernel_rfl) rfl (fun K hK => ?_)
        go_simp
        refine (RT.out _ (Qw.trans Q1.out Q8.out)).mono ?_
        rintro e w9 ⟨rfl, q⟩
        have W9 := Lib.hid (W8.out.kept q)
        have R9 := Lib.hid (R8.out.kept q)
        have Q9 := Lib.hid (Qw.trans Q8.out q)
        refine hK _ _ trivial ?_
        clear hK K q x5 x9 W8 R8 Q8 hSS
        have hSS : (fun _ : World => True) w9 := trivial
        try simp only [List.getElem_toArray, List.getElem_cons_succ, List.getElem_cons_zero, Act.put, List.setIfInBounds_toArray, List.set_cons_zero, List.set_cons_succ]
        refine wpAnyH_take (i := 11) (v := ?_) rfl (by kernel_rfl) (by kernel_rfl) (by kernel_rfl) (fun _ _ _ h => h) (Or.inl ⟨by rfl, ?_⟩) hSS ?_
        rotate_left 1
        · intro wS hwS
          go_simp
          try with_reducible rfl
        simp only [List.getElem_toArray, List.getElem_cons_succ, List.getElem_cons_zero, Act.put, List.setIfInBounds_toArray, List.set_cons_zero, List.set_cons_succ]
        refine wpAnyH_take (i := 12) (v := ?_) rfl (by kernel_rfl) (by kernel_rfl) (by kernel_rfl) (fun _ _ _ h => h) (Or.inl ⟨by rfl, ?_⟩) hSS ?_
        rotate_left 1
        · intro wS hwS
          go_simp
          try with_reducible rfl
        simp only [List.getElem_toArray, List.getElem_cons_succ, List.getElem_cons_zero, Act.put, List.setIfInBounds_toArray, List.set_cons_zero, List.set_cons_succ]
        refine wpAnyH_take (i := 13) (v := ?_) rfl (by kernel_rfl) (by kernel_rfl) (by kernel_rfl) (fun _ _ _ h => h) (Or.inl ⟨by rfl, ?_⟩) hSS ?_
        rotate_left 1
        · intro wS hwS
          go_simp
          try with_reducible rfl
        simp only [List.getElem_toArray, List.getElem_cons_succ, List.getElem_cons_zero, Act.put, List.setIfInBounds_toArray, List.set_cons_zero, List.set_cons_succ]
        refine wpAnyH_take (i := 14) (v := ?_) rfl (by kernel_rfl) (by kernel_rfl) (by kernel_rfl) (fun _ _ _ h => h) (Or.inl ⟨by rfl, ?_⟩) hSS ?_
        rotate_left 1
        · intro wS hwS
          go_simp
          try with_reducible rfl
        simp only [List.getElem_toArray, List.getElem_cons_succ, List.getElem_cons_zero, Act.put, List.setIfInBounds_toArray, List.set_cons_zero, List.set_cons_succ]
        refine wpAnyH_take (i := 15) (v := ?_) rfl (by kernel_rfl) (by kernel_rfl) (by kernel_rfl) (fun _ _ _ h => h) (Or.inl ⟨by rfl, ?_⟩) hSS ?_
        rotate_left 1
        · intro wS hwS
          go_simp
          try with_reducible rfl
        simp only [List.getElem_toArray, List.getElem_cons_succ, List.getElem_cons_zero, Act.put, List.setIfInBounds_toArray, List.set_cons_zero, List.set_cons_succ]
        refine wpAnyH_take (i := 16) (v := ?_) rfl (by kernel_rfl) (by kernel_rfl) (by kernel_rfl) (fun _ _ _ h => h) (Or.inl ⟨by rfl, ?_⟩) hSS ?_
        rotate_left 1
        · intro wS hwS
          go_simp
          try with_reducible rfl
        simp only [List.getElem_toArray, List.getElem_cons_succ, List.getElem_cons_zero, Act.put, List.setIfInBounds_toArray, List.set_cons_zero, List.set_cons_succ]
        have x5 := W9.out.cell' 5 (.int .i64 n2) rfl
        have g5 := W9.out.free 5
        refine tgH_one (i := 17) rfl (by kernel_rfl) rfl (fun K hK => ?_)
        go_simp
        refine hK _ _ trivial ?_
        clear hK K hSS x5 g5
        have W10 := Lib.hid (W9.out.set 5 (.int .i64 v1))
        have R10 := Lib.hid (R9.out.other (a := ⟨WB, 5, none⟩) nR (.int .i64 v1))
        have Q10 := Lib.hid (Q9.out.sc (p := ⟨WB, 5, none⟩) hW (.int .i64 v1))
        clear W9 R9 Q9
        generalize World.setCell w9 _ _ = w10 at *
        have hSS : (fun _ : World => True) w10 := trivial
        try simp only [List.getElem_toArray, List.getElem_cons_succ, List.getElem_cons_zero, Act.put, List.setIfInBounds_toArray, List.set_cons_zero, List.set_cons_succ]
        refine wpAnyH_take (i := 18) (v := ?_) rfl (by kernel_rfl) (by kernel_rfl) (by kernel_rfl) (fun _ _ _ h => h) (Or.inl ⟨by rfl, ?_⟩) hSS ?_
        rotate_left 1
        · intro wS hwS
          go_simp
          try with_reducible rfl
        simp only [List.getElem_toArray, List.getElem_cons_succ, List.getElem_cons_zero, Act.put, List.setIfInBounds_toArray, List.set_cons_zero, List.set_cons_succ]
        refine wpAnyH_take (i := 19) (v := ?_) rfl (by kernel_rfl) (by kernel_rfl) (by kernel_rfl) (fun _ _ _ h => h) (Or.inl ⟨by rfl, ?_⟩) hSS ?_
        rotate_left 1
        · intro wS hwS
          go_simp
          try with_reducible rfl
        simp only [List.getElem_toArray, List.getElem_cons_succ, List.getElem_cons_zero, Act.put, List.setIfInBounds_toArray, List.set_cons_zero, List.set_cons_succ]
        have x5 := W10.out.cell' 1 (.int .i64 n0) rfl
        have g5 := W10.out.free 1
        refine tgH_one (i := 20) rfl (by kernel_rfl) rfl (fun K hK => ?_)
        go_simp
        refine hK _ _ trivial ?_
        clear hK K hSS x5 g5
        have W11 := Lib.hid (W10.out.set 1 (.int .i64 v2))
        have R11 := Lib.hid (R10.out.other (a := ⟨WB, 1, none⟩) nR (.int .i64 v2))
        have Q11 := Lib.hid (Q10.out.sc (p := ⟨WB, 1, none⟩) hW (.int .i64 v2))
        clear W10 R10 Q10
        generalize World.setCell w10 _ _ = w11 at *
        try simp only [List.getElem_toArray, List.getElem_cons_succ, List.getElem_cons_zero, Act.put, List.setIfInBounds_toArray, List.set_cons_zero, List.set_cons_succ]
        refine wpAnyH_done (by kernel_rfl) ?_ _
        have y0 := W11.out.cell' 0 (.bool b2) rfl
        have r0 := R11.out.cell' 0 (.bool false) rfl
        have f0 := R11.out.free 0
        have y1 := W11.out.cell' 1 (.int .i64 v2) rfl
        have r1 := R11.out.cell' 1 (.int .i64 0) rfl
        have f1 := R11.out.free 1
        have y2 := W11.out.cell' 2 (.bool b1) rfl
        have r2 := R11.out.cell' 2 (.bool false) rfl
        have f2 := R11.out.free 2
        have y3 := W11.out.cell' 3 (.int .i64 n1) rfl
        have r3 := R11.out.cell' 3 (.int .i64 0) rfl
        have f3 := R11.out.free 3
        have y4 := W11.out.cell' 4 (.bool b2) rfl
        have r4 := R11.out.cell' 4 (.bool false) rfl
        have f4 := R11.out.free 4
        have y5 := W11.out.cell' 5 (.int .i64 v1) rfl
        have r5 := R11.out.cell' 5 (.int .i64 0) rfl
        have f5 := R11.out.free 5
        go_wp2
        have S := R11.out.st6 (.bool b2) (.int .i64 v2) (.bool b1) (.int .i64 n1) (.bool b2) (.int .i64 v1)
        clear y0 y1 y2 y3 y4 y5 r0 r1 r2 r3 r4 r5 f0 f1 f2 f3 f4 f5
        have t0 := S.cell' 0 (.bool b2) rfl
        have t1 := S.cell' 1 (.int .i64 v2) rfl
        have t2 := S.cell' 2 (.bool b1) rfl
        have t3 := S.cell' 3 (.int .i64 n1) rfl
        have t4 := S.cell' 4 (.bool b2) rfl
        have t5 := S.cell' 5 (.int .i64 v1) rfl
        exact bodyPost_ret (v := .tuple #[.agg #[.bool b2, .int .i64 v2, .bool b1, .int .i64 n1, .bool b2, .int .i64 v1], .int .i64 0]) (by simp [results, Tryd.results55, go_sem, t0, t1, t2, t3, t4, t5]) rfl ⟨rfl, (Qw.trans Q1.out Q11.out).st6 hR _ _ _ _ _ _⟩
  · have rb := rd_bad (e := Tg.e3 l s.un 0) rfl he
    rw [if_neg he] at g1
    have sb := sg_bad (e := Tg.e3 l s.un 0) g1 he
    rw [g1, (sb 0).1, (sb 0).2, (sb 1).1, (sb 1).2, (sb 2).1, (sb 2).2]
    have RD : Hid (∀ w' : World, Qw w w' → Calls Tryd.prog 73 #[v, .int .i64 s.un, .int .i64 0] w' fun e w'' => e = .returned (.tuple #[.agg #[.bool false, .int .i64 0, .bool false, .int .i64 0, .bool false, .int .i64 0], .int .i64 (Tg.e3 l s.un 0)]) ∧ Qw w' w'') := Lib.hid (fun w' q => by have := rd w' q; rwa [(rb 0).1, (rb 0).2, (rb 1).1, (rb 1).2, (rb 2).1, (rb 2).2] at this)
    clear rd sb rb g1 g2 g3 g4 ab TX
    generalize Tg.e3 l s.un 0 = er at *
    have zz : (er != 0) = true := by rw [bne_iff_ne]; exact he
    clear he
    go_enter Tryd.func55, Tryd.ntmps55
    go_upto_region 1 with (refine box_md 0 rfl ?_; intro w0 P hp X q; have X0 := Lib.hid X; have Q0 := Lib.hid q; clear X q)
    refine code_of (fun w' => Bx w' P (mdc s) MT ∧ Bx w' w0.heap.size #[.bool false, .int .i64 0, .bool false, .int .i64 0, .bool false, .int .i64 0] WT ∧ Qw w w') ⟨X0.out.alloc _, Bx.new _ _ _, Qw.al Q0.out _⟩ ?_
    have hR : w.heap.size ≤ w0.heap.size := Q0.out.size
    clear X0 Q0 hp
    generalize w0.heap.size = R at *
    rintro w1 ⟨X, RR, q1⟩
    have c10 := X.cell' 10 (.int .i64 16) C10.out
    have c1 := X.cell' 1 (.int .i64 18) C1.out
    have XX := Lib.hid (fun (w' : World) (q : Qw w1 w') => X.kept q)
    have RX := Lib.hid (fun (w' : World) (q : Qw w1 w') => RR.kept q)
    have Q1 := Lib.hid q1
    clear X RR q1
    go_upto_region 4 with (go_at_call 65; ((with_reducible refine (FL.out _).mono ?_); rintro e w2 ⟨rfl, q⟩; have Q2 := Lib.hid q; clear q))
    refine code_of (fun w' => Bx w' w2.heap.size #[.int .i64 2, .int .i64 0] 64 ∧ Qw w1 w') ⟨Bx.new _ _ _, Qw.al Q2.out _⟩ ?_
    clear c10 c1 Q2
    generalize w2.heap.size = D at *
    rintro w3 ⟨DD, q3⟩
    have c3 := (XX.out _ q3).cell' 3 (.int .i64 s.un) rfl
    have d0 := DD.cell' 0 (.int .i64 2) rfl
    have d1 := DD.cell' 1 (.int .i64 0) rfl
    have DX := Lib.hid (fun (w' : World) (q : Qw w3 w') => DD.kept q)
    have Q3 := Lib.hid q3
    clear DD q3
    go_wp2_with (go_at_call 73; ((with_reducible refine (RD.out _ (Qw.trans Q1.out Q3.out)).mono ?_); rintro e w4 ⟨rfl, q⟩; have Q4 := Lib.hid (Qw.trans Q3.out q); have R4 := Lib.hid (RX.out _ (Qw.trans Q3.out q)); have r0 := (RX.out _ (Qw.trans Q3.out q)).cell' 0 (.bool false) rfl; have f0 := (RX.out _ (Qw.trans Q3.out q)).free 0; have r1 := (RX.out _ (Qw.trans Q3.out q)).cell' 1 (.int .i64 0) rfl; have f1 := (RX.out _ (Qw.trans Q3.out q)).free 1; have r2 := (RX.out _ (Qw.trans Q3.out q)).cell' 2 (.bool false) rfl; have f2 := (RX.out _ (Qw.trans Q3.out q)).free 2; have r3 := (RX.out _ (Qw.trans Q3.out q)).cell' 3 (.int .i64 0) rfl; have f3 := (RX.out _ (Qw.trans Q3.out q)).free 3; have r4 := (RX.out _ (Qw.trans Q3.out q)).cell' 4 (.bool false) rfl; have f4 := (RX.out _ (Qw.trans Q3.out q)).free 4; have r5 := (RX.out _ (Qw.trans Q3.out q)).cell' 5 (.int .i64 0) rfl; have f5 := (RX.out _ (Qw.trans Q3.out q)).free 5; have lr := (RX.out _ (Qw.trans Q3.out q)).lt; clear q))
    have S := (R4.out.st6 (.bool false) (.int .i64 0) (.bool false) (.int .i64 0) (.bool false) (.int .i64 0)).alloc (.cells #[.bool false, .int .i64 0, .bool false, .int .i64 0, .bool false, .int .i64 0] WT)
    have t0 := S.cell' 0 (.bool false) rfl
    have t1 := S.cell' 1 (.int .i64 0) rfl
    have t2 := S.cell' 2 (.bool false) rfl
    have t3 := S.cell' 3 (.int .i64 0) rfl
    have t4 := S.cell' 4 (.bool false) rfl
    have t5 := S.cell' 5 (.int .i64 0) rfl
    exact bodyPost_ret (v := .tuple #[.agg #[.bool false, .int .i64 0, .bool false, .int .i64 0, .bool false, .int .i64 0], .int .i64 er]) (by simp [results, Tryd.results55, go_sem, t0, t1, t2, t3, t4, t5]) rfl ⟨rfl, Qw.al ((Qw.trans Q1.out Q4.out).st6 hR _ _ _ _ _ _) _⟩
theorem sg_p19 {l : Vs.Ar} {u : Int} : Tg.pe l 19 u 16 = (if Tg.e3 l u 2 = 0 then (if Tg.thr l 1 ≠ Tg.thr l 2 then 9 else 0) else Tg.e3 l u 2) ∧
    Tg.pn l 19 u 16 1 = (rotv (Tg.wn l u 2 1) 0 (Tg.wn l u 2 2)).1 ∧ Tg.pn l 19 u 16 2 = (rotv (Tg.wn l u 2 1) 0 (Tg.wn l u 2 2)).2 ∧ Tg.pn l 19 u 16 0 = Tg.wn l u 2 0 := by
  have e1 : Tg.au 19 = 1 := by decide
  have e2 : Tg.aw 19 = 2 := by decide
  refine ⟨?_, ?_, ?_, ?_⟩
  · simp [Tg.pe, Tg.ax, e1, e2]
  · simp [Tg.pn, e1, e2]
  · simp [Tg.pn, e1, e2]
  · simp [Tg.pn, e1, e2]
set_option maxRecDepth 100000 in
set_option maxHeartbeats 16000000 in
theorem tgStraight19 {C : Nat} {w : World} {v : Value} {l : Vs.Ar} (h : ValsB C w v l) (hC : C ≤ w.heap.size) (s : Md.S) (hp : s.po = 16) (hpl : s.pl = 19) (T : Tc w) :
    Calls Tryd.prog 55 #[.agg (mdc s), v] w fun e w' => e = .returned (.tuple #[.agg #[.bool (sgb l s.pl s.un s.po 0), .int .i64 (sgv l s.pl s.un s.po 0), .bool (sgb l s.pl s.un s.po 1), .int .i64 (sgv l s.pl s.un s.po 1), .bool (sgb l s.pl s.un s.po 2), .int .i64 (sgv l s.pl s.un s.po 2)], .int .i64 (Tg.pe l s.pl s.un s.po)]) ∧ Qw w w' := by
  rw [hp, hpl]
  have C10 : Hid ((mdc s)[10]? = some (.int .i64 16)) := Lib.hid (by rw [← hp]; rfl)
  have C1 : Hid ((mdc s)[1]? = some (.int .i64 19)) := Lib.hid (by rw [← hpl]; rfl)
  clear hp hpl
  have rd := fun (w' : World) (q : Qw w w') => tgRead (h.kept q hC) (Nat.le_trans hC q.size) s.un 2 (by omega) (by omega)
  have fb := vals_fv h (88 + 2)
  have ab : -9223372036854775808 ≤ Tg.wn l s.un 2 2 ∧ Tg.wn l s.un 2 2 ≤ 9223372036854775807 := by
    unfold Tg.wn
    rw [if_pos rfl]
    split
    · exact fb
    · omega
  have FL := Lib.hid (show ∀ w : World, Calls Tryd.prog 65 #[.int .i64 19, .agg #[.int .i64 0, .int .i64 1, .int .i64 2]] w fun e w' => e = .returned (.tuple #[.agg #[.int .i64 1, .int .i64 2], .int .i64 0, .bool true]) ∧ Qw w w' from fun w => vc_flat 19 0 1 2 (by decide) (by decide) w)
  have TX := Lib.hid (fun (w' : World) (q : Qw w w') => T.kept q)
  obtain ⟨g1, g2, g3, g4⟩ := sg_p19 (l := l) (u := s.un)
  clear h hC fb T
  by_cases he : Tg.e3 l s.un 2 = 0
  · have ro := rd_ok he
    rw [if_pos he] at g1
    by_cases hn : Tg.thr l 1 ≠ Tg.thr l 2
    · rw [if_pos hn] at g1
      have sb := sg_bad g1 (by decide)
      rw [g1, (sb 0).1, (sb 0).2, (sb 1).1, (sb 1).2, (sb 2).1, (sb 2).2]
      have RD : Hid (∀ w' : World, Qw w w' → Calls Tryd.prog 73 #[v, .int .i64 s.un, .int .i64 2] w' fun e w'' => e = .returned (.tuple #[.agg #[.bool (Tg.thr l 0), .int .i64 (Tg.wn l s.un 2 0), .bool (Tg.thr l 1), .int .i64 (Tg.wn l s.un 2 1), .bool (Tg.thr l 2), .int .i64 (Tg.wn l s.un 2 2)], .int .i64 0]) ∧ Qw w' w'') := Lib.hid (fun w' q => by have := rd w' q; rwa [(ro 0).1, (ro 0).2, (ro 1).1, (ro 1).2, (ro 2).1, (ro 2).2, he] at this)
      clear rd sb ro g1 g2 g3 g4 ab TX he
      generalize Tg.wn l s.un 2 0 = n0 at *
      generalize Tg.wn l s.un 2 1 = n1 at *
      generalize Tg.wn l s.un 2 2 = n2 at *
      generalize Tg.thr l 0 = b0 at *
      generalize Tg.thr l 1 = b1 at *
      generalize Tg.thr l 2 = b2 at *
      have zb : (b1 == b2) = false := by simpa using hn
      clear hn
      go_enter Tryd.func55, Tryd.ntmps55
      go_upto_region 1 with (refine box_md 0 rfl ?_; intro w0 P hp X q; have X0 := Lib.hid X; have Q0 := Lib.hid q; clear X q)
      refine code_of (fun w' => Bx w' P (mdc s) MT ∧ Bx w' w0.heap.size #[.bool false, .int .i64 0, .bool false, .int .i64 0, .bool false, .int .i64 0] WT ∧ Qw w w') ⟨X0.out.alloc _, Bx.new _ _ _, Qw.al Q0.out _⟩ ?_
      have hR : w.heap.size ≤ w0.heap.size := Q0.out.size
      clear X0 Q0 hp
      generalize w0.heap.size = R at *
      rintro w1 ⟨X, RR, q1⟩
      have c10 := X.cell' 10 (.int .i64 16) C10.out
      have c1 := X.cell' 1 (.int .i64 19) C1.out
      have XX := Lib.hid (fun (w' : World) (q : Qw w1 w') => X.kept q)
      have RX := Lib.hid (fun (w' : World) (q : Qw w1 w') => RR.kept q)
      have Q1 := Lib.hid q1
      clear X RR q1
      go_upto_region 4 with (go_at_call 65; ((with_reducible refine (FL.out _).mono ?_); rintro e w2 ⟨rfl, q⟩; have Q2 := Lib.hid q; clear q))
      refine code_of (fun w' => Bx w' w2.heap.size #[.int .i64 1, .int .i64 2] 64 ∧ Qw w1 w') ⟨Bx.new _ _ _, Qw.al Q2.out _⟩ ?_
      clear c10 c1 Q2
      generalize w2.heap.size = D at *
      rintro w3 ⟨DD, q3⟩
      have c3 := (XX.out _ q3).cell' 3 (.int .i64 s.un) rfl
      have d0 := DD.cell' 0 (.int .i64 1) rfl
      have d1 := DD.cell' 1 (.int .i64 2) rfl
      have DX := Lib.hid (fun (w' : World) (q : Qw w3 w') => DD.kept q)
      have Q3 := Lib.hid q3
      clear DD q3
      go_upto_region 7 with (go_at_call 73; ((with_reducible refine (RD.out _ (Qw.trans Q1.out Q3.out)).mono ?_); rintro e w4 ⟨rfl, q⟩; have Q4 := Lib.hid q; clear q))
      have nR : R ≠ w4.heap.size := Nat.ne_of_lt (RX.out _ (Qw.trans Q3.out Q4.out)).lt
      have hW : w1.heap.size ≤ w4.heap.size := (Qw.trans Q3.out Q4.out).size
      refine code_of (fun w' => Bx w' w4.heap.size #[.bool b0, .int .i64 n0, .bool b1, .int .i64 n1, .bool b2, .int .i64 n2] WT ∧ Qw w3 w') ⟨Bx.new _ _ _, Qw.al Q4.out _⟩ ?_
      clear c3 d0 d1 Q4
      generalize w4.heap.size = WB at *
      rintro w5 ⟨WX, q5⟩
      have DD := DX.out _ q5
      refine wp_region_M (fun wS => Qw w5 wS) 7 (by kernel_rfl) ?_
      have hSS : Qw w5 (World.drew w5) := qw_drew1 w5
      generalize World.drew w5 = wd at *
      refine wpAnyM_take (i := 0) (v := ?_) rfl (by kernel_rfl) (fun _ _ _ h => h) (Or.inl ⟨by rfl, ?_⟩) hSS ?_
      rotate_left 1
      · intro wS hwS
        go_simp
        try with_reducible rfl
      simp only [List.getElem_toArray, List.getElem_cons_succ, List.getElem_cons_zero, Act.put, List.setIfInBounds_toArray, List.set_cons_zero, List.set_cons_succ]
      refine wpAnyM_take (i := 1) (v := ?_) rfl (by kernel_rfl) (fun _ _ _ h => h) (Or.inl ⟨by rfl, ?_⟩) hSS ?_
      rotate_left 1
      · intro wS hwS
        have y := (DD.kept hwS).cell' 0 (.int .i64 1) rfl; go_simp
        try with_reducible rfl
      simp only [List.getElem_toArray, List.getElem_cons_succ, List.getElem_cons_zero, Act.put, List.setIfInBounds_toArray, List.set_cons_zero, List.set_cons_succ]
      refine wpAnyM_take (i := 2) (v := ?_) rfl (by kernel_rfl) (fun _ _ _ h => h) (Or.inl ⟨by rfl, ?_⟩) hSS ?_
      rotate_left 1
      · intro wS hwS
        go_simp
        try with_reducible rfl
      simp only [List.getElem_toArray, List.getElem_cons_succ, List.getElem_cons_zero, Act.put, List.setIfInBounds_toArray, List.set_cons_zero, List.set_cons_succ]
      refine wpAnyM_take (i := 3) (v := ?_) rfl (by kernel_rfl) (fun _ _ _ h => h) (Or.inl ⟨by rfl, ?_⟩) hSS ?_
      rotate_left 1
      · intro wS hwS
        go_simp
        try with_reducible rfl
      simp only [List.getElem_toArray, List.getElem_cons_succ, List.getElem_cons_zero, Act.put, List.setIfInBounds_toArray, List.set_cons_zero, List.set_cons_succ]
      refine wpAnyM_take (i := 4) (v := ?_) rfl (by kernel_rfl) (fun _ _ _ h => h) (Or.inl ⟨by rfl, ?_⟩) hSS ?_
      rotate_left 1
      · intro wS hwS
        have y := (DD.kept hwS).cell' 1 (.int .i64 2) rfl; go_simp
        try with_reducible rfl
      simp only [List.getElem_toArray, List.getElem_cons_succ, List.getElem_cons_zero, Act.put, List.setIfInBounds_toArray, List.set_cons_zero, List.set_cons_succ]
      refine wpAnyM_take (i := 5) (v := ?_) rfl (by kernel_rfl) (fun _ _ _ h => h) (Or.inl ⟨by rfl, ?_⟩) hSS ?_
      rotate_left 1
      · intro wS hwS
        go_simp
        try with_reducible rfl
      simp only [List.getElem_toArray, List.getElem_cons_succ, List.getElem_cons_zero, Act.put, List.setIfInBounds_toArray, List.set_cons_zero, List.set_cons_succ]
      refine wpAnyM_one (i := 6) rfl (by kernel_rfl) rfl (fun K hK => ?_)
      go_simp
      refine hK _ _ (fun _ => hSS) ?_
      clear hK K
      try simp only [List.getElem_toArray, List.getElem_cons_succ, List.getElem_cons_zero, Act.put, List.setIfInBounds_toArray, List.set_cons_zero, List.set_cons_succ]
      refine wpAnyM_one (i := 7) rfl (by kernel_rfl) rfl (fun K hK => ?_)
      go_simp
      refine hK _ _ (fun h => absurd h (by decide)) ?_
      clear hK K
      try simp only [List.getElem_toArray, List.getElem_cons_succ, List.getElem_cons_zero, Act.put, List.setIfInBounds_toArray, List.set_cons_zero, List.set_cons_succ]
      refine wpAnyM_done (by kernel_rfl) ?_ _
      have WX2 := WX.kept hSS
      have Q6 := Lib.hid (Qw.trans (Qw.trans Q3.out q5) hSS)
      clear WX q5 DD hSS w5
      have b_u := WX2.kcell 2 (.bool b1) rfl
      have b_w := WX2.kcell 4 (.bool b2) rfl
      have K6 := Lib.hid WX2
      clear WX2
      go_upto_region 8 with fail
      refine region_kept (by kernel_rfl) (by kernel_rfl) ?_
      repeat (go_big_quiet_step (fail))
      refine wpQuiet_nil ?_
      intro w7 q7
      clear b_u b_w
      have R7 := Lib.hid (RX.out _ (Qw.trans Q6.out q7))
      have QQ := Lib.hid (Qw.trans Q1.out (Qw.trans Q6.out q7))
      clear q7
      have r0 := R7.out.cell' 0 (.bool false) rfl
      have f0 := R7.out.free 0
      have r1 := R7.out.cell' 1 (.int .i64 0) rfl
      have f1 := R7.out.free 1
      have r2 := R7.out.cell' 2 (.bool false) rfl
      have f2 := R7.out.free 2
      have r3 := R7.out.cell' 3 (.int .i64 0) rfl
      have f3 := R7.out.free 3
      have r4 := R7.out.cell' 4 (.bool false) rfl
      have f4 := R7.out.free 4
      have r5 := R7.out.cell' 5 (.int .i64 0) rfl
      have f5 := R7.out.free 5
      go_wp2
      have S := R7.out.st6 (.bool false) (.int .i64 0) (.bool false) (.int .i64 0) (.bool false) (.int .i64 0)
      have t0 := S.cell' 0 (.bool false) rfl
      have t1 := S.cell' 1 (.int .i64 0) rfl
      have t2 := S.cell' 2 (.bool false) rfl
      have t3 := S.cell' 3 (.int .i64 0) rfl
      have t4 := S.cell' 4 (.bool false) rfl
      have t5 := S.cell' 5 (.int .i64 0) rfl
      exact bodyPost_ret (v := .tuple #[.agg #[.bool false, .int .i64 0, .bool false, .int .i64 0, .bool false, .int .i64 0], .int .i64 9]) (by simp [results, Tryd.results55, go_sem, t0, t1, t2, t3, t4, t5]) rfl ⟨rfl, QQ.out.st6 hR _ _ _ _ _ _⟩
    · rw [if_neg hn] at g1
      have sb := sg_ok g1
      rw [g1, (sb 0).1, (sb 0).2, (sb 1).1, (sb 1).2, (sb 2).1, (sb 2).2, g2, g3, g4]
      have RD : Hid (∀ w' : World, Qw w w' → Calls Tryd.prog 73 #[v, .int .i64 s.un, .int .i64 2] w' fun e w'' => e = .returned (.tuple #[.agg #[.bool (Tg.thr l 0), .int .i64 (Tg.wn l s.un 2 0), .bool (Tg.thr l 1), .int .i64 (Tg.wn l s.un 2 1), .bool (Tg.thr l 2), .int .i64 (Tg.wn l s.un 2 2)], .int .i64 0]) ∧ Qw w' w'') := Lib.hid (fun w' q => by have := rd w' q; rwa [(ro 0).1, (ro 0).2, (ro 1).1, (ro 1).2, (ro 2).1, (ro 2).2, he] at this)
      have RT := Lib.hid (fun (w' : World) (q : Qw w w') => co_rotate (Tg.wn l s.un 2 1) 0 (Tg.wn l s.un 2 2) ab.1 ab.2 w' (TX.out w' q))
      clear rd sb ro g1 g2 g3 g4 ab TX he
      generalize rotok (Tg.wn l s.un 2 1) 0 = ok at *
      generalize (rotv (Tg.wn l s.un 2 1) 0 (Tg.wn l s.un 2 2)).1 = v1 at *
      generalize (rotv (Tg.wn l s.un 2 1) 0 (Tg.wn l s.un 2 2)).2 = v2 at *
      have hb : Tg.thr l 1 = Tg.thr l 2 := by simpa using hn
      clear hn
      generalize Tg.wn l s.un 2 0 = n0 at *
      generalize Tg.wn l s.un 2 1 = n1 at *
      generalize Tg.wn l s.un 2 2 = n2 at *
      generalize Tg.thr l 0 = b0 at *
      generalize Tg.thr l 1 = b1 at *
      generalize Tg.thr l 2 = b2 at *
      subst hb
      go_enter Tryd.func55, Tryd.ntmps55
      go_upto_region 1 with (refine box_md 0 rfl ?_; intro w0 P hp X q; have X0 := Lib.hid X; have Q0 := Lib.hid q; clear X q)
      refine code_of (fun w' => Bx w' P (mdc s) MT ∧ Bx w' w0.heap.size #[.bool false, .int .i64 0, .bool false, .int .i64 0, .bool false, .int .i64 0] WT ∧ Qw w w') ⟨X0.out.alloc _, Bx.new _ _ _, Qw.al Q0.out _⟩ ?_
      have hR : w.heap.size ≤ w0.heap.size := Q0.out.size
      clear X0 Q0 hp
      generalize w0.heap.size = R at *
      rintro w1 ⟨X, RR, q1⟩
      have c10 := X.cell' 10 (.int .i64 16) C10.out
      have c1 := X.cell' 1 (.int .i64 19) C1.out
      have XX := Lib.hid (fun (w' : World) (q : Qw w1 w') => X.kept q)
      have RX := Lib.hid (fun (w' : World) (q : Qw w1 w') => RR.kept q)
      have Q1 := Lib.hid q1
      clear X RR q1
      go_upto_region 4 with (go_at_call 65; ((with_reducible refine (FL.out _).mono ?_); rintro e w2 ⟨rfl, q⟩; have Q2 := Lib.hid q; clear q))
      refine code_of (fun w' => Bx w' w2.heap.size #[.int .i64 1, .int .i64 2] 64 ∧ Qw w1 w') ⟨Bx.new _ _ _, Qw.al Q2.out _⟩ ?_
      clear c10 c1 Q2
      generalize w2.heap.size = D at *
      rintro w3 ⟨DD, q3⟩
      have c3 := (XX.out _ q3).cell' 3 (.int .i64 s.un) rfl
      have d0 := DD.cell' 0 (.int .i64 1) rfl
      have d1 := DD.cell' 1 (.int .i64 2) rfl
      have DX := Lib.hid (fun (w' : World) (q : Qw w3 w') => DD.kept q)
      have Q3 := Lib.hid q3
      clear DD q3
      go_upto_region 7 with (go_at_call 73; ((with_reducible refine (RD.out _ (Qw.trans Q1.out Q3.out)).mono ?_); rintro e w4 ⟨rfl, q⟩; have Q4 := Lib.hid q; clear q))
      have nR : R ≠ w4.heap.size := Nat.ne_of_lt (RX.out _ (Qw.trans Q3.out Q4.out)).lt
      have hW : w1.heap.size ≤ w4.heap.size := (Qw.trans Q3.out Q4.out).size
      refine code_of (fun w' => Bx w' w4.heap.size #[.bool b0, .int .i64 n0, .bool b1, .int .i64 n1, .bool b1, .int .i64 n2] WT ∧ Qw w3 w') ⟨Bx.new _ _ _, Qw.al Q4.out _⟩ ?_
      clear c3 d0 d1 Q4
      generalize w4.heap.size = WB at *
      rintro w5 ⟨WX, q5⟩
      have DD := DX.out _ q5
      refine wp_region_M (fun wS => Qw w5 wS) 7 (by kernel_rfl) ?_
      have hSS : Qw w5 (World.drew w5) := qw_drew1 w5
      generalize World.drew w5 = wd at *
      refine wpAnyM_take (i := 0) (v := ?_) rfl (by kernel_rfl) (fun _ _ _ h => h) (Or.inl ⟨by rfl, ?_⟩) hSS ?_
      rotate_left 1
      · intro wS hwS
        go_simp
        try with_reducible rfl
      simp only [List.getElem_toArray, List.getElem_cons_succ, List.getElem_cons_zero, Act.put, List.setIfInBounds_toArray, List.set_cons_zero, List.set_cons_succ]
      refine wpAnyM_take (i := 1) (v := ?_) rfl (by kernel_rfl) (fun _ _ _ h => h) (Or.inl ⟨by rfl, ?_⟩) hSS ?_
      rotate_left 1
      · intro wS hwS
        have y := (DD.kept hwS).cell' 0 (.int .i64 1) rfl; go_simp
        try with_reducible rfl
      simp only [List.getElem_toArray, List.getElem_cons_succ, List.getElem_cons_zero, Act.put, List.setIfInBounds_toArray, List.set_cons_zero, List.set_cons_succ]
      refine wpAnyM_take (i := 2) (v := ?_) rfl (by kernel_rfl) (fun _ _ _ h => h) (Or.inl ⟨by rfl, ?_⟩) hSS ?_
      rotate_left 1
      · intro wS hwS
        go_simp
        try with_reducible rfl
      simp only [List.getElem_toArray, List.getElem_cons_succ, List.getElem_cons_zero, Act.put, List.setIfInBounds_toArray, List.set_cons_zero, List.set_cons_succ]
      refine wpAnyM_take (i := 3) (v := ?_) rfl (by kernel_rfl) (fun _ _ _ h => h) (Or.inl ⟨by rfl, ?_⟩) hSS ?_
      rotate_left 1
      · intro wS hwS
        go_simp
        try with_reducible rfl
      simp only [List.getElem_toArray, List.getElem_cons_succ, List.getElem_cons_zero, Act.put, List.setIfInBounds_toArray, List.set_cons_zero, List.set_cons_succ]
      refine wpAnyM_take (i := 4) (v := ?_) rfl (by kernel_rfl) (fun _ _ _ h => h) (Or.inl ⟨by rfl, ?_⟩) hSS ?_
      rotate_left 1
      · intro wS hwS
        have y := (DD.kept hwS).cell' 1 (.int .i64 2) rfl; go_simp
        try with_reducible rfl
      simp only [List.getElem_toArray, List.getElem_cons_succ, List.getElem_cons_zero, Act.put, List.setIfInBounds_toArray, List.set_cons_zero, List.set_cons_succ]
      refine wpAnyM_take (i := 5) (v := ?_) rfl (by kernel_rfl) (fun _ _ _ h => h) (Or.inl ⟨by rfl, ?_⟩) hSS ?_
      rotate_left 1
      · intro wS hwS
        go_simp
        try with_reducible rfl
      simp only [List.getElem_toArray, List.getElem_cons_succ, List.getElem_cons_zero, Act.put, List.setIfInBounds_toArray, List.set_cons_zero, List.set_cons_succ]
      refine wpAnyM_one (i := 6) rfl (by kernel_rfl) rfl (fun K hK => ?_)
      go_simp
      refine hK _ _ (fun _ => hSS) ?_
      clear hK K
      try simp only [List.getElem_toArray, List.getElem_cons_succ, List.getElem_cons_zero, Act.put, List.setIfInBounds_toArray, List.set_cons_zero, List.set_cons_succ]
      refine wpAnyM_one (i := 7) rfl (by kernel_rfl) rfl (fun K hK => ?_)
      go_simp
      refine hK _ _ (fun h => absurd h (by decide)) ?_
      clear hK K
      try simp only [List.getElem_toArray, List.getElem_cons_succ, List.getElem_cons_zero, Act.put, List.setIfInBounds_toArray, List.set_cons_zero, List.set_cons_succ]
      refine wpAnyM_done (by kernel_rfl) ?_ _
      have WX2 := WX.kept hSS
      have Q6 := Lib.hid (Qw.trans (Qw.trans Q3.out q5) hSS)
      clear WX q5 DD hSS w5
      have b_u := WX2.kcell 2 (.bool b1) rfl
      have b_w := WX2.kcell 4 (.bool b1) rfl
      have K6 := Lib.hid WX2
      clear WX2
      go_upto_region 8 with fail
      refine region_kept (by kernel_rfl) (by kernel_rfl) ?_
      repeat (go_big_quiet_step (fail))
      refine wpQuiet_nil ?_
      intro w7 q7
      clear b_u b_w
      have W7 := Lib.hid (K6.out.kept q7)
      have R7 := Lib.hid (RX.out _ (Qw.trans Q6.out q7))
      have Q7 := Lib.hid (Qw.trans Q6.out q7)
      clear q7 K6 Q6
      go_upto_region 10 with fail
      refine wp_region_held (S := fun _ => True) (by kernel_rfl) ?_
      change wpAnyH _ _ _ _ _ _ _ _ (World.drew w7)
      have hSS : (fun _ : World => True) (World.drew w7) := trivial
      have W8 := Lib.hid (W7.out.kept (qw_drew1 w7))
      have R8 := Lib.hid (R7.out.kept (qw_drew1 w7))
      have Q8 := Lib.hid (Qw.trans Q7.out (qw_drew1 w7))
      clear W7 R7 Q7
      generalize World.drew w7 = w8 at *
      refine wpAnyH_take (i := 0) (v := ?_) rfl (by kernel_rfl) (by kernel_rfl) (by kernel_rfl) (fun _ _ _ h => h) (Or.inl ⟨by rfl, ?_⟩) hSS ?_
      rotate_left 1
      · intro wS hwS
        go_simp
        try with_reducible rfl
      simp only [List.getElem_toArray, List.getElem_cons_succ, List.getElem_cons_zero, Act.put, List.setIfInBounds_toArray, List.set_cons_zero, List.set_cons_succ]
      refine wpAnyH_take (i := 1) (v := ?_) rfl (by kernel_rfl) (by kernel_rfl) (by kernel_rfl) (fun _ _ _ h => h) (Or.inl ⟨by rfl, ?_⟩) hSS ?_
      rotate_left 1
      · intro wS hwS
        go_simp
        try with_reducible rfl
      simp only [List.getElem_toArray, List.getElem_cons_succ, List.getElem_cons_zero, Act.put, List.setIfInBounds_toArray, List.set_cons_zero, List.set_cons_succ]
      refine wpAnyH_take (i := 2) (v := ?_) rfl (by kernel_rfl) (by kernel_rfl) (by kernel_rfl) (fun _ _ _ h => h) (Or.inl ⟨by rfl, ?_⟩) hSS ?_
      rotate_left 1
      · intro wS hwS
        go_simp
        try with_reducible rfl
      simp only [List.getElem_toArray, List.getElem_cons_succ, List.getElem_cons_zero, Act.put, List.setIfInBounds_toArray, List.set_cons_zero, List.set_cons_succ]
      refine wpAnyH_take (i := 6) (v := ?_) rfl (by kernel_rfl) (by kernel_rfl) (by kernel_rfl) (fun _ _ _ h => h) (Or.inl ⟨by rfl, ?_⟩) hSS ?_
      rotate_left 1
      · intro wS hwS
        go_simp
        try with_reducible rfl
      simp only [List.getElem_toArray, List.getElem_cons_succ, List.getElem_cons_zero, Act.put, List.setIfInBounds_toArray, List.set_cons_zero, List.set_cons_succ]
      refine wpAnyH_take (i := 3) (v := ?_) rfl (by kernel_rfl) (by kernel_rfl) (by kernel_rfl) (fun _ _ _ h => h) (Or.inl ⟨by rfl, ?_⟩) hSS ?_
      rotate_left 1
      · intro wS hwS
        go_simp
        try with_reducible rfl
      simp only [List.getElem_toArray, List.getElem_cons_succ, List.getElem_cons_zero, Act.put, List.setIfInBounds_toArray, List.set_cons_zero, List.set_cons_succ]
      refine wpAnyH_take (i := 7) (v := ?_) rfl (by kernel_rfl) (by kernel_rfl) (by kernel_rfl) (fun _ _ _ h => h) (Or.inl ⟨by rfl, ?_⟩) hSS ?_
      rotate_left 1
      · intro wS hwS
        go_simp
        try with_reducible rfl
      simp only [List.getElem_toArray, List.getElem_cons_succ, List.getElem_cons_zero, Act.put, List.setIfInBounds_toArray, List.set_cons_zero, List.set_cons_succ]
      refine wpAnyH_take (i := 4) (v := ?_) rfl (by kernel_rfl) (by kernel_rfl) (by kernel_rfl) (fun _ _ _ h => h) (Or.inl ⟨by rfl, ?_⟩) hSS ?_
      rotate_left 1
      · intro wS hwS
        go_simp
        try with_reducible rfl
      simp only [List.getElem_toArray, List.getElem_cons_succ, List.getElem_cons_zero, Act.put, List.setIfInBounds_toArray, List.set_cons_zero, List.set_cons_succ]
      refine wpAnyH_take (i := 8) (v := ?_) rfl (by kernel_rfl) (by kernel_rfl) (by kernel_rfl) (fun _ _ _ h => h) (Or.inl ⟨by rfl, ?_⟩) hSS ?_
      rotate_left 1
      · intro wS hwS
        go_simp
        try with_reducible rfl
      simp only [List.getElem_toArray, List.getElem_cons_succ, List.getElem_cons_zero, Act.put, List.setIfInBounds_toArray, List.set_cons_zero, List.set_cons_succ]
      have x5 := W8.out.cell' 3 (.int .i64 n1) rfl
      have x9 := W8.out.cell' 5 (.int .i64 n2) rfl
      refine tgH_two (i := 5) (j := 9) rfl rfl (by kernel_rfl) rfl rfl (fun K hK => ?_) (fun K hK => ?_)
      · go_simp
        refine hK _ _ trivial ?_
        clear hK K
        try simp only [List.getElem_toArray, List.getElem_cons_succ, List.getElem_cons_zero, Act.put, List.setIfInBounds_toArray, List.set_cons_zero, List.set_cons_succ]
        refine tgH_one (i := 9) rfl (by kernel_rfl) rfl (fun K hK => ?_)
        go_simp
        refine hK _ _ trivial ?_
        clear hK K
        try simp only [List.getElem_toArray, List.getElem_cons_succ, List.getElem_cons_zero, Act.put, List.setIfInBounds_toArray, List.set_cons_zero, List.set_cons_succ]
        refine tgH_one (i := 10) rfl (by kernel_rfl) rfl (fun K hK => ?_)
        go_simp
        refine (RT.out _ (Qw.trans Q1.out Q8.out)).mono ?_
        rintro e w9 ⟨rfl, q⟩
        have W9 := Lib.hid (W8.out.kept q)
        have R9 := Lib.hid (R8.out.kept q)
        have Q9 := Lib.hid (Qw.trans Q8.out q)
        refine hK _ _ trivial ?_
        clear hK K q x5 x9 W8 R8 Q8 hSS
        have hSS : (fun _ : World => True) w9 := trivial
        try simp only [List.getElem_toArray, List.getElem_cons_succ, List.getElem_cons_zero, Act.put, List.setIfInBounds_toArray, List.set_cons_zero, List.set_cons_succ]
        refine wpAnyH_take (i := 11) (v := ?_) rfl (by kernel_rfl) (by kernel_rfl) (by kernel_rfl) (fun _ _ _ h => h) (Or.inl ⟨by rfl, ?_⟩) hSS ?_
        rotate_left 1
        · intro wS hwS
          go_simp
          try with_reducible rfl
        simp only [List.getElem_toArray, List.getElem_cons_succ, List.getElem_cons_zero, Act.put, List.setIfInBounds_toArray, List.set_cons_zero, List.set_cons_succ]
        refine wpAnyH_take (i := 12) (v := ?_) rfl (by kernel_rfl) (by kernel_rfl) (by kernel_rfl) (fun _ _ _ h => h) (Or.inl ⟨by rfl, ?_⟩) hSS ?_
        rotate_left 1
        · intro wS hwS
          go_simp
          try with_reducible rfl
        simp only [List.getElem_toArray, List.getElem_cons_succ, List.getElem_cons_zero, Act.put, List.setIfInBounds_toArray, List.set_cons_zero, List.set_cons_succ]
        refine wpAnyH_take (i := 13) (v := ?_) rfl (by kernel_rfl) (by kernel_rfl) (by kernel_rfl) (fun _ _ _ h => h) (Or.inl ⟨by rfl, ?_⟩) hSS ?_
        rotate_left 1
        · intro wS hwS
          go_simp
          try with_reducible rfl
        simp only [List.getElem_toArray, List.getElem_cons_succ, List.getElem_cons_zero, Act.put, List.setIfInBounds_toArray, List.set_cons_zero, List.set_cons_succ]
        refine wpAnyH_take (i := 14) (v := ?_) rfl (by kernel_rfl) (by kernel_rfl) (by kernel_rfl) (fun _ _ _ h => h) (Or.inl ⟨by rfl, ?_⟩) hSS ?_
        rotate_left 1
        · intro wS hwS
          go_simp
          try with_reducible rfl
        simp only [List.getElem_toArray, List.getElem_cons_succ, List.getElem_cons_zero, Act.put, List.setIfInBounds_toArray, List.set_cons_zero, List.set_cons_succ]
        refine wpAnyH_take (i := 15) (v := ?_) rfl (by kernel_rfl) (by kernel_rfl) (by kernel_rfl) (fun _ _ _ h => h) (Or.inl ⟨by rfl, ?_⟩) hSS ?_
        rotate_left 1
        · intro wS hwS
          go_simp
          try with_reducible rfl
        simp only [List.getElem_toArray, List.getElem_cons_succ, List.getElem_cons_zero, Act.put, List.setIfInBounds_toArray, List.set_cons_zero, List.set_cons_succ]
        refine wpAnyH_take (i := 16) (v := ?_) rfl (by kernel_rfl) (by kernel_rfl) (by kernel_rfl) (fun _ _ _ h => h) (Or.inl ⟨by rfl, ?_⟩) hSS ?_
        rotate_left 1
        · intro wS hwS
          go_simp
          try with_reducible rfl
        simp only [List.getElem_toArray, List.getElem_cons_succ, List.getElem_cons_zero, Act.put, List.setIfInBounds_toArray, List.set_cons_zero, List.set_cons_succ]
        have x5 := W9.out.cell' 3 (.int .i64 n1) rfl
        have g5 := W9.out.free 3
        refine tgH_one (i := 17) rfl (by kernel_rfl) rfl (fun K hK => ?_)
        go_simp
        refine hK _ _ trivial ?_
        clear hK K hSS x5 g5
        have W10 := Lib.hid (W9.out.set 3 (.int .i64 v1))
        have R10 := Lib.hid (R9.out.other (a := ⟨WB, 3, none⟩) nR (.int .i64 v1))
        have Q10 := Lib.hid (Q9.out.sc (p := ⟨WB, 3, none⟩) hW (.int .i64 v1))
        clear W9 R9 Q9
        generalize World.setCell w9 _ _ = w10 at *
        have hSS : (fun _ : World => True) w10 := trivial
        try simp only [List.getElem_toArray, List.getElem_cons_succ, List.getElem_cons_zero, Act.put, List.setIfInBounds_toArray, List.set_cons_zero, List.set_cons_succ]
        refine wpAnyH_take (i := 18) (v := ?_) rfl (by kernel_rfl) (by kernel_rfl) (by kernel_rfl) (fun _ _ _ h => h) (Or.inl ⟨by rfl, ?_⟩) hSS ?_
        rotate_left 1
        · intro wS hwS
          go_simp
          try with_reducible rfl
        simp only [List.getElem_toArray, List.getElem_cons_succ, List.getElem_cons_zero, Act.put, List.setIfInBounds_toArray, List.set_cons_zero, List.set_cons_succ]
        refine wpAnyH_take (i := 19) (v := ?_) rfl (by kernel_rfl) (by kernel_rfl) (by kernel_rfl) (fun _ _ _ h => h) (Or.inl ⟨by rfl, ?_⟩) hSS ?_
        rotate_left 1
        · intro wS hwS
          go_simp
          try with_reducible rfl
        simp only [List.getElem_toArray, List.getElem_cons_succ, List.getElem_cons_zero, Act.put, List.setIfInBounds_toArray, List.set_cons_zero, List.set_cons_succ]
        have x5 := W10.out.cell' 5 (.int .i64 n2) rfl
        have g5 := W10.out.free 5
        refine tgH_one (i := 20) rfl (by kernel_rfl) rfl (fun K hK => ?_)
        go_simp
        refine hK _ _ trivial ?_
        clear hK K hSS x5 g5
        have W11 := Lib.hid (W10.out.set 5 (.int .i64 v2))
        have R11 := Lib.hid (R10.out.other (a := ⟨WB, 5, none⟩) nR (.int .i64 v2))
        have Q11 := Lib.hid (Q10.out.sc (p := ⟨WB, 5, none⟩) hW (.int .i64 v2))
        clear W10 R10 Q10
        generalize World.setCell w10 _ _ = w11 at *
        try simp only [List.getElem_toArray, List.getElem_cons_succ, List.getElem_cons_zero, Act.put, List.setIfInBounds_toArray, List.set_cons_zero, List.set_cons_succ]
        refine wpAnyH_done (by kernel_rfl) ?_ _
        have y0 := W11.out.cell' 0 (.bool b0) rfl
        have r0 := R11.out.cell' 0 (.bool false) rfl
        have f0 := R11.out.free 0
        have y1 := W11.out.cell' 1 (.int .i64 n0) rfl
        have r1 := R11.out.cell' 1 (.int .i64 0) rfl
        have f1 := R11.out.free 1
        have y2 := W11.out.cell' 2 (.bool b1) rfl
        have r2 := R11.out.cell' 2 (.bool false) rfl
        have f2 := R11.out.free 2
        have y3 := W11.out.cell' 3 (.int .i64 v1) rfl
        have r3 := R11.out.cell' 3 (.int .i64 0) rfl
        have f3 := R11.out.free 3
        have y4 := W11.out.cell' 4 (.bool b1) rfl
        have r4 := R11.out.cell' 4 (.bool false) rfl
        have f4 := R11.out.free 4
        have y5 := W11.out.cell' 5 (.int .i64 v2) rfl
        have r5 := R11.out.cell' 5 (.int .i64 0) rfl
        have f5 := R11.out.free 5
        go_wp2
        have S := R11.out.st6 (.bool b0) (.int .i64 n0) (.bool b1) (.int .i64 v1) (.bool b1) (.int .i64 v2)
        clear y0 y1 y2 y3 y4 y5 r0 r1 r2 r3 r4 r5 f0 f1 f2 f3 f4 f5
        have t0 := S.cell' 0 (.bool b0) rfl
        have t1 := S.cell' 1 (.int .i64 n0) rfl
        have t2 := S.cell' 2 (.bool b1) rfl
        have t3 := S.cell' 3 (.int .i64 v1) rfl
        have t4 := S.cell' 4 (.bool b1) rfl
        have t5 := S.cell' 5 (.int .i64 v2) rfl
        exact bodyPost_ret (v := .tuple #[.agg #[.bool b0, .int .i64 n0, .bool b1, .int .i64 v1, .bool b1, .int .i64 v2], .int .i64 0]) (by simp [results, Tryd.results55, go_sem, t0, t1, t2, t3, t4, t5]) rfl ⟨rfl, (Qw.trans Q1.out Q11.out).st6 hR _ _ _ _ _ _⟩
      · go_simp
        refine hK _ _ trivial ?_
        clear hK K
        try simp only [List.getElem_toArray, List.getElem_cons_succ, List.getElem_cons_zero, Act.put, List.setIfInBounds_toArray, List.set_cons_zero, List.set_cons_succ]
        refine tgH_one (i := 5) rfl (by kernel_rfl) rfl (fun K hK => ?_)
        go_simp
        refine hK _ _ trivial ?_
        clear hK K
        try simp only [List.getElem_toArray, List.getElem_cons_succ, List.getElem_cons_zero, Act.put, List.setIfInBounds_toArray, List.set_cons_zero, List.set_cons_succ]
        refine tgH_one (i := 10) rfl (by kernel_rfl) rfl (fun K hK => ?_)
        go_simp
        refine (RT.out _ (Qw.trans Q1.out Q8.out)).mono ?_
        rintro e w9 ⟨rfl, q⟩
        have W9 := Lib.hid (W8.out.kept q)
        have R9 := Lib.hid (R8.out.kept q)
        have Q9 := Lib.hid (Qw.trans Q8.out q)
        refine hK _ _ trivial ?_
        clear hK K q x5 x9 W8 R8 Q8 hSS
        have hSS : (fun _ : World => True) w9 := trivial
        try simp only [List.getElem_toArray, List.getElem_cons_succ, List.getElem_cons_zero, Act.put, List.setIfInBounds_toArray, List.set_cons_zero, List.set_cons_succ]
        refine wpAnyH_take (i := 11) (v := ?_) rfl (by kernel_rfl) (by kernel_rfl) (by kernel_rfl) (fun _ _ _ h => h) (Or.inl ⟨by rfl, ?_⟩) hSS ?_
        rotate_left 1
        · intro wS hwS
          go_simp
          try with_reducible rfl
        simp only [List.getElem_toArray, List.getElem_cons_succ, List.getElem_cons_zero, Act.put, List.setIfInBounds_toArray, List.set_cons_zero, List.set_cons_succ]
        refine wpAnyH_take (i := 12) (v := ?_) rfl (by kernel_rfl) (by kernel_rfl) (by kernel_rfl) (fun _ _ _ h => h) (Or.inl ⟨by rfl, ?_⟩) hSS ?_
        rotate_left 1
        · intro wS hwS
          go_simp
          try with_reducible rfl
        simp only [List.getElem_toArray, List.getElem_cons_succ, List.getElem_cons_zero, Act.put, List.setIfInBounds_toArray, List.set_cons_zero, List.set_cons_succ]
        refine wpAnyH_take (i := 13) (v := ?_) rfl (by kernel_rfl) (by kernel_rfl) (by kernel_rfl) (fun _ _ _ h => h) (Or.inl ⟨by rfl, ?_⟩) hSS ?_
        rotate_left 1
        · intro wS hwS
          go_simp
          try with_reducible rfl
        simp only [List.getElem_toArray, List.getElem_cons_succ, List.getElem_cons_zero, Act.put, List.setIfInBounds_toArray, List.set_cons_zero, List.set_cons_succ]
        refine wpAnyH_take (i := 14) (v := ?_) rfl (by kernel_rfl) (by kernel_rfl) (by kernel_rfl) (fun _ _ _ h => h) (Or.inl ⟨by rfl, ?_⟩) hSS ?_
        rotate_left 1
        · intro wS hwS
          go_simp
          try with_reducible rfl
        simp only [List.getElem_toArray, List.getElem_cons_succ, List.getElem_cons_zero, Act.put, List.setIfInBounds_toArray, List.set_cons_zero, List.set_cons_succ]
        refine wpAnyH_take (i := 15) (v := ?_) rfl (by kernel_rfl) (by kernel_rfl) (by kernel_rfl) (fun _ _ _ h => h) (Or.inl ⟨by rfl, ?_⟩) hSS ?_
        rotate_left 1
        · intro wS hwS
          go_simp
          try with_reducible rfl
        simp only [List.getElem_toArray, List.getElem_cons_succ, List.getElem_cons_zero, Act.put, List.setIfInBounds_toArray, List.set_cons_zero, List.set_cons_succ]
        refine wpAnyH_take (i := 16) (v := ?_) rfl (by kernel_rfl) (by kernel_rfl) (by kernel_rfl) (fun _ _ _ h => h) (Or.inl ⟨by rfl, ?_⟩) hSS ?_
        rotate_left 1
        · intro wS hwS
          go_simp
          try with_reducible rfl
        simp only [List.getElem_toArray, List.getElem_cons_succ, List.getElem_cons_zero, Act.put, List.setIfInBounds_toArray, List.set_cons_zero, List.set_cons_succ]
        have x5 := W9.out.cell' 3 (.int .i64 n1) rfl
        have g5 := W9.out.free 3
        refine tgH_one (i := 17) rfl (by kernel_rfl) rfl (fun K hK => ?_)
        go_simp
        refine hK _ _ trivial ?_
        clear hK K hSS x5 g5
        have W10 := Lib.hid (W9.out.set 3 (.int .i64 v1))
        have R10 := Lib.hid (R9.out.other (a := ⟨WB, 3, none⟩) nR (.int .i64 v1))
        have Q10 := Lib.hid (Q9.out.sc (p := ⟨WB, 3, none⟩) hW (.int .i64 v1))
        clear W9 R9 Q9
        generalize World.setCell w9 _ _ = w10 at *
        have hSS : (fun _ : World => True) w10 := trivial
        try simp only [List.getElem_toArray, List.getElem_cons_succ, List.getElem_cons_zero, Act.put, List.setIfInBounds_toArray, List.set_cons_zero, List.set_cons_succ]
        refine wpAnyH_take (i := 18) (v := ?_) rfl (by kernel_rfl) (by kernel_rfl) (by kernel_rfl) (fun _ _ _ h => h) (Or.inl ⟨by rfl, ?_⟩) hSS ?_
        rotate_left 1
        · intro wS hwS
          go_simp
          try with_reducible rfl
        simp only [List.getElem_toArray, List.getElem_cons_succ, List.getElem_cons_zero, Act.put, List.setIfInBounds_toArray, List.set_cons_zero, List.set_cons_succ]
        refine wpAnyH_take (i := 19) (v := ?_) rfl (by kernel_rfl) (by kernel_rfl) (by kernel_rfl) (fun _ _ _ h => h) (Or.inl ⟨by rfl, ?_⟩) hSS ?_
        rotate_left 1
        · intro wS hwS
          go_simp
          try with_reducible rfl
        simp only [List.getElem_toArray, List.getElem_cons_succ, List.getElem_cons_zero, Act.put, List.setIfInBounds_toArray, List.set_cons_zero, List.set_cons_succ]
        have x5 := W10.out.cell' 5 (.int .i64 n2) rfl
        have g5 := W10.out.free 5
        refine tgH_one (i := 20) rfl (by kernel_rfl) rfl (fun K hK => ?_)
        go_simp
        refine hK _ _ trivial ?_
        clear hK K hSS x5 g5
        have W11 := Lib.hid (W10.out.set 5 (.int .i64 v2))
        have R11 := Lib.hid (R10.out.other (a := ⟨WB, 5, none⟩) nR (.int .i64 v2))
        have Q11 := Lib.hid (Q10.out.sc (p := ⟨WB, 5, none⟩) hW (.int .i64 v2))
        clear W10 R10 Q10
        generalize World.setCell w10 _ _ = w11 at *
        try simp only [List.getElem_toArray, List.getElem_cons_succ, List.getElem_cons_zero, Act.put, List.setIfInBounds_toArray, List.set_cons_zero, List.set_cons_succ]
        refine wpAnyH_done (by kernel_rfl) ?_ _
        have y0 := W11.out.cell' 0 (.bool b0) rfl
        have r0 := R11.out.cell' 0 (.bool false) rfl
        have f0 := R11.out.free 0
        have y1 := W11.out.cell' 1 (.int .i64 n0) rfl
        have r1 := R11.out.cell' 1 (.int .i64 0) rfl
        have f1 := R11.out.free 1
        have y2 := W11.out.cell' 2 (.bool b1) rfl
        have r2 := R11.out.cell' 2 (.bool false) rfl
        have f2 := R11.out.free 2
        have y3 := W11.out.cell' 3 (.int .i64 v1) rfl
        have r3 := R11.out.cell' 3 (.int .i64 0) rfl
        have f3 := R11.out.free 3
        have y4 := W11.out.cell' 4 (.bool b1) rfl
        have r4 := R11.out.cell' 4 (.bool false) rfl
        have f4 := R11.out.free 4
        have y5 := W11.out.cell' 5 (.int .i64 v2) rfl
        have r5 := R11.out.cell' 5 (.int .i64 0) rfl
        have f5 := R11.out.free 5
        go_wp2
        have S := R11.out.st6 (.bool b0) (.int .i64 n0) (.bool b1) (.int .i64 v1) (.bool b1) (.int .i64 v2)
        clear y0 y1 y2 y3 y4 y5 r0 r1 r2 r3 r4 r5 f0 f1 f2 f3 f4 f5
        have t0 := S.cell' 0 (.bool b0) rfl
        have t1 := S.cell' 1 (.int .i64 n0) rfl
        have t2 := S.cell' 2 (.bool b1) rfl
        have t3 := S.cell' 3 (.int .i64 v1) rfl
        have t4 := S.cell' 4 (.bool b1) rfl
        have t5 := S.cell' 5 (.int .i64 v2) rfl
        exact bodyPost_ret (v := .tuple #[.agg #[.bool b0, .int .i64 n0, .bool b1, .int .i64 v1, .bool b1, .int .i64 v2], .int .i64 0]) (by simp [results, Tryd.results55, go_sem, t0, t1, t2, t3, t4, t5]) rfl ⟨rfl, (Qw.trans Q1.out Q11.out).st6 hR _ _ _ _ _ _⟩
  · have rb := rd_bad (e := Tg.e3 l s.un 2) rfl he
    rw [if_neg he] at g1
    have sb := sg_bad (e := Tg.e3 l s.un 2) g1 he
    rw [g1, (sb 0).1, (sb 0).2, (sb 1).1, (sb 1).2, (sb 2).1, (sb 2).2]
    have RD : Hid (∀ w' : World, Qw w w' → Calls Tryd.prog 73 #[v, .int .i64 s.un, .int .i64 2] w' fun e w'' => e = .returned (.tuple #[.agg #[.bool false, .int .i64 0, .bool false, .int .i64 0, .bool false, .int .i64 0], .int .i64 (Tg.e3 l s.un 2)]) ∧ Qw w' w'') := Lib.hid (fun w' q => by have := rd w' q; rwa [(rb 0).1, (rb 0).2, (rb 1).1, (rb 1).2, (rb 2).1, (rb 2).2] at this)
    clear rd sb rb g1 g2 g3 g4 ab TX
    generalize Tg.e3 l s.un 2 = er at *
    have zz : (er != 0) = true := by rw [bne_iff_ne]; exact he
    clear he
    go_enter Tryd.func55, Tryd.ntmps55
    go_upto_region 1 with (refine box_md 0 rfl ?_; intro w0 P hp X q; have X0 := Lib.hid X; have Q0 := Lib.hid q; clear X q)
    refine code_of (fun w' => Bx w' P (mdc s) MT ∧ Bx w' w0.heap.size #[.bool false, .int .i64 0, .bool false, .int .i64 0, .bool false, .int .i64 0] WT ∧ Qw w w') ⟨X0.out.alloc _, Bx.new _ _ _, Qw.al Q0.out _⟩ ?_
    have hR : w.heap.size ≤ w0.heap.size := Q0.out.size
    clear X0 Q0 hp
    generalize w0.heap.size = R at *
    rintro w1 ⟨X, RR, q1⟩
    have c10 := X.cell' 10 (.int .i64 16) C10.out
    have c1 := X.cell' 1 (.int .i64 19) C1.out
    have XX := Lib.hid (fun (w' : World) (q : Qw w1 w') => X.kept q)
    have RX := Lib.hid (fun (w' : World) (q : Qw w1 w') => RR.kept q)
    have Q1 := Lib.hid q1
    clear X RR q1
    go_upto_region 4 with (go_at_call 65; ((with_reducible refine (FL.out _).mono ?_); rintro e w2 ⟨rfl, q⟩; have Q2 := Lib.hid q; clear q))
    refine code_of (fun w' => Bx w' w2.heap.size #[.int .i64 1, .int .i64 2] 64 ∧ Qw w1 w') ⟨Bx.new _ _ _, Qw.al Q2.out _⟩ ?_
    clear c10 c1 Q2
    generalize w2.heap.size = D at *
    rintro w3 ⟨DD, q3⟩
    have c3 := (XX.out _ q3).cell' 3 (.int .i64 s.un) rfl
    have d0 := DD.cell' 0 (.int .i64 1) rfl
    have d1 := DD.cell' 1 (.int .i64 2) rfl
    have DX := Lib.hid (fun (w' : World) (q : Qw w3 w') => DD.kept q)
    have Q3 := Lib.hid q3
    clear DD q3
    go_wp2_with (go_at_call 73; ((with_reducible refine (RD.out _ (Qw.trans Q1.out Q3.out)).mono ?_); rintro e w4 ⟨rfl, q⟩; have Q4 := Lib.hid (Qw.trans Q3.out q); have R4 := Lib.hid (RX.out _ (Qw.trans Q3.out q)); have r0 := (RX.out _ (Qw.trans Q3.out q)).cell' 0 (.bool false) rfl; have f0 := (RX.out _ (Qw.trans Q3.out q)).free 0; have r1 := (RX.out _ (Qw.trans Q3.out q)).cell' 1 (.int .i64 0) rfl; have f1 := (RX.out _ (Qw.trans Q3.out q)).free 1; have r2 := (RX.out _ (Qw.trans Q3.out q)).cell' 2 (.bool false) rfl; have f2 := (RX.out _ (Qw.trans Q3.out q)).free 2; have r3 := (RX.out _ (Qw.trans Q3.out q)).cell' 3 (.int .i64 0) rfl; have f3 := (RX.out _ (Qw.trans Q3.out q)).free 3; have r4 := (RX.out _ (Qw.trans Q3.out q)).cell' 4 (.bool false) rfl; have f4 := (RX.out _ (Qw.trans Q3.out q)).free 4; have r5 := (RX.out _ (Qw.trans Q3.out q)).cell' 5 (.int .i64 0) rfl; have f5 := (RX.out _ (Qw.trans Q3.out q)).free 5; have lr := (RX.out _ (Qw.trans Q3.out q)).lt; clear q))
    have S := (R4.out.st6 (.bool false) (.int .i64 0) (.bool false) (.int .i64 0) (.bool false) (.int .i64 0)).alloc (.cells #[.bool false, .int .i64 0, .bool false, .int .i64 0, .bool false, .int .i64 0] WT)
    have t0 := S.cell' 0 (.bool false) rfl
    have t1 := S.cell' 1 (.int .i64 0) rfl
    have t2 := S.cell' 2 (.bool false) rfl
    have t3 := S.cell' 3 (.int .i64 0) rfl
    have t4 := S.cell' 4 (.bool false) rfl
    have t5 := S.cell' 5 (.int .i64 0) rfl
    exact bodyPost_ret (v := .tuple #[.agg #[.bool false, .int .i64 0, .bool false, .int .i64 0, .bool false, .int .i64 0], .int .i64 er]) (by simp [results, Tryd.results55, go_sem, t0, t1, t2, t3, t4, t5]) rfl ⟨rfl, Qw.al ((Qw.trans Q1.out Q4.out).st6 hR _ _ _ _ _ _) _⟩
theorem tgStraight {C : Nat} {w : World} {v : Value} {l : Vs.Ar} (h : ValsB C w v l) (hC : C ≤ w.heap.size) (s : Md.S) (p1 : 17 ≤ s.pl) (p2 : s.pl ≤ 19) (T : Tc w) :
    Calls Tryd.prog 55 #[.agg (mdc s), v] w fun e w' => e = .returned (.tuple #[.agg #[.bool (sgb l s.pl s.un s.po 0), .int .i64 (sgv l s.pl s.un s.po 0), .bool (sgb l s.pl s.un s.po 1), .int .i64 (sgv l s.pl s.un s.po 1), .bool (sgb l s.pl s.un s.po 2), .int .i64 (sgv l s.pl s.un s.po 2)], .int .i64 (Tg.pe l s.pl s.un s.po)]) ∧ Qw w w' := by
  by_cases hp : s.po = 16
  · rcases Tg.planes p1 p2 with k | k | k
    · exact tgStraight17 h hC s hp k T
    · exact tgStraight18 h hC s hp k T
    · exact tgStraight19 h hC s hp k T
  · exact tgStraightNo h hC s hp
end Go.Proofs.YtnjcbgnghfppoaaDoor
