import Derived.Test.YtihmifdadikhaaaGD
import Derived.BigQuiet
import Derived.Test.YtihmifdadikhaaaGE
import Derived.Test.YtihmifdadikhaaaGF
import Derived.Test.YtihmifdadikhaaaGHb

/- Items read in regions that draw their order; points compared with nothing. -/
set_option linter.unusedVariables false
set_option linter.unusedSimpArgs false
namespace Go.Proofs.Ytihmifdadikhaaa
open Go Go.RowKit
section
variable {ops : Array Oper} {rest : List Oper} {dst : Option Tmp} {ty : TypeId} {pos : String} {after : Array Edge} {gd : Option (Nat × Bool)} {a : Act} {C : World → Prop} {Q : Act → Prop} {P : Nat} {f : Ac.I}
theorem q_it (t : Tmp) (hw : Region.wanted ⟨dst, .load IT (.tmp t), ty, pos, after, gd⟩ (yielded ops a.tmps) = true) (hx : a.eval (.tmp t) = .pointer (some ⟨P, 0, none⟩)) (X : ∀ w, C w → Bx w P (itc f) IT)
    (h : wpQuiet Try.prog ops C Q rest (a.put dst (.agg (itc f)))) : wpQuiet Try.prog ops C Q (⟨dst, .load IT (.tmp t), ty, pos, after, gd⟩ :: rest) a := by
  refine wpQuiet_step fun K hK => ?_
  rw [if_pos hw]
  refine ⟨.agg (itc f), fun w hc => ?_, hK _ h⟩
  unfold Oper.quietAt execOp
  simp only [hx, Sem.run_bind, run_load_it w P f (X w hc), Result.andThen_ok, Sem.run_pure]
  exact ⟨rfl, rfl⟩
end
theorem eq_pt (x y : Int) : ∃ b : Bool, (b = true ↔ x = 0 ∧ y = 0) ∧ ∀ w, (binOp .eql 32 (.agg #[.int .i64 x, .int .i64 y]) (.agg #[.int .i64 0, .int .i64 0])).run Try.prog w = .ok (.bool b) w := by
  by_cases h : x = 0
  · by_cases k : y = 0
    · subst h k
      exact ⟨true, by simp, fun w => by kernel_rfl⟩
    · subst h
      have e : (y == 0) = false := beq_eq_false_iff_ne.2 k
      exact ⟨false, by simp [k], fun w => by go_simp⟩
  · have e : (x == 0) = false := beq_eq_false_iff_ne.2 h
    exact ⟨false, by simp [h], fun w => by go_simp⟩
end Go.Proofs.Ytihmifdadikhaaa

/- Plain: an arc from its end to its beginning in the opposite direction. -/
set_option linter.unusedVariables false
set_option linter.unusedSimpArgs false
namespace Go.Proofs.Ytihmifdadikhaaa
open Go.RowKit
namespace Ac
theorem sxV {p u v h L : Int} (l0 : 0 ≤ L) (h1 : -L ≤ u ∧ u ≤ L) (h2 : -L ≤ v ∧ v ≤ L) (h3 : -L ≤ h ∧ h ≤ L) : (-L ≤ sx p u v h ∧ sx p u v h ≤ L) ∧ (-L ≤ sy p u v h ∧ sy p u v h ≤ L) ∧ (-L ≤ sz p u v h ∧ sz p u v h ≤ L) := by
  unfold sx sy sz
  by_cases k1 : p = 17
  · simp only [k1, if_true]; exact ⟨h1, h2, h3⟩
  · by_cases k2 : p = 18
    · simp only [k2, if_true, if_false]; exact ⟨h2, h3, h1⟩
    · by_cases k3 : p = 19
      · simp only [k3, if_true, if_false]; exact ⟨h3, h1, h2⟩
      · simp only [k1, k2, k3, if_false]; omega
theorem backV {p : Int} (h1 : 17 ≤ p) (h2 : p ≤ 19) (u v h : Int) : fu p (sx p u v h) (sy p u v h) (sz p u v h) = u ∧ fw p (sx p u v h) (sy p u v h) (sz p u v h) = v ∧ fh p (sx p u v h) (sy p u v h) (sz p u v h) = h := by
  have hp : p = 17 ∨ p = 18 ∨ p = 19 := by omega
  rcases hp with rfl | rfl | rfl <;> exact ⟨rfl, rfl, rfl⟩
/-- The arc back: its center lies at the height of its beginning. -/
def rev (i : I) : I := ⟨i.k, i.b, i.tx, i.ty, i.tz, i.fx, i.fy, i.fz, i.p, sx i.p (fu i.p i.cx i.cy i.cz) (fw i.p i.cx i.cy i.cz) (fh i.p i.tx i.ty i.tz), sy i.p (fu i.p i.cx i.cy i.cz) (fw i.p i.cx i.cy i.cz) (fh i.p i.tx i.ty i.tz), sz i.p (fu i.p i.cx i.cy i.cz) (fw i.p i.cx i.cy i.cz) (fh i.p i.tx i.ty i.tz), -i.d, i.u, i.e, i.r, i.s, i.g, i.l, i.n, i.v, i.o⟩
theorem rev_sp {i : I} (h1 : 17 ≤ i.p) (h2 : i.p ≤ 19) : au (rev i) = bu i ∧ aw (rev i) = bw i ∧ bu (rev i) = au i ∧ bw (rev i) = aw i := by
  obtain ⟨e1, e2, _⟩ := backV h1 h2 (fu i.p i.cx i.cy i.cz) (fw i.p i.cx i.cy i.cz) (fh i.p i.tx i.ty i.tz)
  refine ⟨?_, ?_, ?_, ?_⟩
  · show fu i.p i.tx i.ty i.tz - fu i.p (sx i.p (fu i.p i.cx i.cy i.cz) (fw i.p i.cx i.cy i.cz) (fh i.p i.tx i.ty i.tz)) (sy i.p (fu i.p i.cx i.cy i.cz) (fw i.p i.cx i.cy i.cz) (fh i.p i.tx i.ty i.tz)) (sz i.p (fu i.p i.cx i.cy i.cz) (fw i.p i.cx i.cy i.cz) (fh i.p i.tx i.ty i.tz)) = fu i.p i.tx i.ty i.tz - fu i.p i.cx i.cy i.cz; rw [e1]
  · show fw i.p i.tx i.ty i.tz - fw i.p (sx i.p (fu i.p i.cx i.cy i.cz) (fw i.p i.cx i.cy i.cz) (fh i.p i.tx i.ty i.tz)) (sy i.p (fu i.p i.cx i.cy i.cz) (fw i.p i.cx i.cy i.cz) (fh i.p i.tx i.ty i.tz)) (sz i.p (fu i.p i.cx i.cy i.cz) (fw i.p i.cx i.cy i.cz) (fh i.p i.tx i.ty i.tz)) = fw i.p i.tx i.ty i.tz - fw i.p i.cx i.cy i.cz; rw [e2]
  · show fu i.p i.fx i.fy i.fz - fu i.p (sx i.p (fu i.p i.cx i.cy i.cz) (fw i.p i.cx i.cy i.cz) (fh i.p i.tx i.ty i.tz)) (sy i.p (fu i.p i.cx i.cy i.cz) (fw i.p i.cx i.cy i.cz) (fh i.p i.tx i.ty i.tz)) (sz i.p (fu i.p i.cx i.cy i.cz) (fw i.p i.cx i.cy i.cz) (fh i.p i.tx i.ty i.tz)) = fu i.p i.fx i.fy i.fz - fu i.p i.cx i.cy i.cz; rw [e1]
  · show fw i.p i.fx i.fy i.fz - fw i.p (sx i.p (fu i.p i.cx i.cy i.cz) (fw i.p i.cx i.cy i.cz) (fh i.p i.tx i.ty i.tz)) (sy i.p (fu i.p i.cx i.cy i.cz) (fw i.p i.cx i.cy i.cz) (fh i.p i.tx i.ty i.tz)) (sz i.p (fu i.p i.cx i.cy i.cz) (fw i.p i.cx i.cy i.cz) (fh i.p i.tx i.ty i.tz)) = fw i.p i.fx i.fy i.fz - fw i.p i.cx i.cy i.cz; rw [e2]
theorem agr_comm (u : Bool) (a b c d : Int) : agr u a b c d = agr u c d a b := by
  unfold agr
  cases u
  · simp only [Bool.false_eq_true, if_false]
    rw [cr_neg a b c d, inn_comm a b c d]
    congr 2
    rw [Bool.eq_iff_iff]
    simp only [decide_eq_true_eq]
    omega
  · simp only [if_true]
    rw [Bool.eq_iff_iff]
    simp only [Bool.and_eq_true, decide_eq_true_eq]
    omega
theorem rev_gd {i : I} (g : Gd i) : Gd (rev i) := by
  obtain ⟨e1, e2, e3, e4⟩ := rev_sp g.p1 g.p2
  obtain ⟨_, _, e5⟩ := backV g.p1 g.p2 (fu i.p i.cx i.cy i.cz) (fw i.p i.cx i.cy i.cz) (fh i.p i.tx i.ty i.tz)
  have a := flat_le (p := i.p) (L := 200000) (by decide) g.cx g.cy g.cz
  have b := flat_le (p := i.p) (L := 200000) (by decide) g.tx g.ty g.tz
  obtain ⟨s1, s2, s3⟩ := sxV (p := i.p) (L := 200000) (by decide) a.1 a.2.1 b.2.2
  exact ⟨g.k, g.p1, g.p2, by show -i.d = 1 ∨ -i.d = -1; have := g.d; omega, g.tx, g.ty, g.tz, g.fx, g.fy, g.fz, s1, s2, s3, e5, by rw [e1, e2, e3, e4, fit_comm]; exact g.ft,
    by rw [e1, e2, e3, e4, agr_comm]; exact g.ag⟩
theorem rev_ins {i : I} (g : Gd i) {x y : Int} (hp : ¬ (x = 0 ∧ y = 0)) : ins (rev i) x y = ins i x y := by
  obtain ⟨e1, e2, e3, e4⟩ := rev_sp g.p1 g.p2
  rw [g.ins hp, (rev_gd g).ins hp, e1, e2, e3, e4]
  show (if i.u = true then true else if -i.d < 0 then _ else _) = _
  cases i.u
  · simp only [Bool.false_eq_true, if_false]
    rcases g.d with k | k
    · rw [k, if_pos (by decide), if_neg (by decide)]
    · rw [k, if_neg (by decide), if_pos (by decide)]
  · rfl
end Ac
end Go.Proofs.Ytihmifdadikhaaa

/- The sanity check of the laws of layer 13. -/
set_option linter.unusedVariables false
set_option linter.unusedSimpArgs false
namespace Go.Proofs.Ytihmifdadikhaaa
open Go.RowKit

def qrt : Ac.I := ⟨3, 0, 10, 0, 0, 0, 10, 0, 17, 0, 0, 0, 1, false, 0, false, 0, 0, 0, 0, 0, false⟩
theorem built_qrt : ∀ l, l = [(0, Value.int .i64 3), (4, .int .i64 17), (2, .agg #[.int .i64 10, .int .i64 0, .int .i64 0]), (3, .agg #[.int .i64 0, .int .i64 10, .int .i64 0]), (6, .int .i64 1)] → Try.prog.built IT l = some (itc qrt) := by rintro l rfl; kernel_rfl
theorem qrt_gd : Ac.Gd qrt := ⟨rfl, by decide, by decide, .inl rfl, by decide, by decide, by decide, by decide, by decide, by decide, by decide, by decide, by decide, rfl, by decide +kernel, by decide +kernel⟩
theorem qrt_wf : Ac.Wf qrt := ⟨by unfold Ac.w64; decide, by unfold Ac.w64; decide, by unfold Ac.w64; decide, by unfold Ac.w64; decide, by unfold Ac.w64; decide, by unfold Ac.w64; decide, by unfold Ac.w64; decide, by unfold Ac.w64; decide, by unfold Ac.w64; decide, by unfold Ac.w64; decide, by unfold Ac.w64; decide, by unfold Ac.w64; decide⟩
theorem qrt_ins : Ac.ins qrt 1 1 = true := by decide +kernel
theorem qrt_tg : Ac.tgu qrt true = -10 ∧ Ac.tgw qrt true = 0 := by decide +kernel
theorem aw_rv : Ac.rv 17 0 0 0 2000 0 0 1 1000 0 = 1000 ∧ Ac.rv 17 0 0 0 2000 0 0 1 1000 1 = 0 ∧ Ac.rv 17 0 0 0 2000 0 0 1 1000 2 = 0 ∧ Ac.re 17 0 0 0 2000 0 0 1 1000 = 0 := by decide +kernel
section
variable {ops : Array Oper} {rest : List Oper} {dst : Option Tmp} {ty : TypeId} {pos : String} {after : Array Edge} {a : Act} {w w0 : World} {Q : Exit → Act → World → Prop}
theorem bu_qrt (i j : Tmp) (h2 : a.eval (.tmp i) = .agg #[.int .i64 10, .int .i64 0, .int .i64 0]) (h3 : a.eval (.tmp j) = .agg #[.int .i64 0, .int .i64 10, .int .i64 0])
    (h : wpList Try.prog ops Q rest (a.put dst (.agg (itc qrt))) w) : wpList Try.prog ops Q (⟨dst, .build IT #[(0, .const (.int .i64 3)), (4, .const (.int .i64 17)), (2, .tmp i), (3, .tmp j), (6, .const (.int .i64 1))], ty, pos, after, none⟩ :: rest) a w := by
  have e : Try.prog.built IT ((#[(0, .const (.int .i64 3)), (4, .const (.int .i64 17)), (2, .tmp i), (3, .tmp j), (6, .const (.int .i64 1))] : Array (Nat × Operand)).map fun (i, x) => (i, a.eval x)).toList = some (itc qrt) := built_qrt _ (by have e1 : ∀ v, a.eval (.const v) = v := fun v => rfl; simp [h2, h3, e1])
  refine wpList_build rfl IT _ rfl (by rw [e]; rfl) ?_
  rw [e]
  exact h
end
set_option maxRecDepth 100000 in
set_option maxHeartbeats 2000000 in
theorem quarterW (w : World) : Calls Try.prog 53 #[] w fun e w' => e = .returned (.agg (itc qrt)) ∧ Qw w w' := by
  have QQ : Hid (Qw w w) := Lib.hid (Qw.refl w)
  go_enter Try.func53, Try.ntmps53
  go_upto_region 1 with (go_big_may; ((with_reducible refine al_it (dst := some 0) ?_); intro w1 B0 hb xx qq; have h0 := Lib.hid (Nat.le_trans QQ.out.size hb); replace QQ := Lib.hid (Qw.trans QQ.out qq); have X0 := Lib.hid xx; clear xx qq hb))
  go_wp2_with (first | ((with_reducible refine st_itO (g := ?_) 0 3 ?_ ?_ X0.out ?_); rotate_left 1; (rfl); (rfl); intro w2 xx qf ot; replace QQ := Lib.hid (qf _ QQ.out h0.out); replace X0 := Lib.hid xx; clear xx qf ot) | ((with_reducible refine bu_qrt 1 2 ?_ ?_ ?_); (rfl); (rfl)))
  exact bodyPost_ret (v := .agg (itc qrt)) (ret_it 0 rfl rfl X0.out) rfl ⟨rfl, QQ.out⟩
set_option maxRecDepth 100000 in
set_option maxHeartbeats 2000000 in
theorem awakeA (w : World) : Calls Try.prog 20 #[] w fun e w' => e = .returned (.bool true) ∧ Qw w w' := by
  have ra := fun w' => apRadius 17 0 0 0 2000 0 0 1 1000 (by decide) (by decide) (by decide) (by decide) (by decide) (by decide) (by decide) (by decide) (by decide) (by decide) (by decide) (by decide) (by decide) (by decide) (by decide) (by decide) (by decide) (by decide) w'
  rw [aw_rv.1, aw_rv.2.1, aw_rv.2.2.1, aw_rv.2.2.2] at ra
  have ck := fun w' => apCheck qrt qrt_wf w'
  rw [qrt_gd.chk] at ck
  have inn := fun w' => apInside qrt qrt_gd 1 1 (by decide) (by decide) (by decide) (by decide) (by decide) w'
  rw [qrt_ins] at inn
  have tg := fun w' => apTangent qrt qrt_gd.near (by unfold Ac.w64; decide) (.inl rfl) true w'
  rw [qrt_tg.1, qrt_tg.2] at tg
  have RA := Lib.hid ra
  have CK := Lib.hid ck
  have IN := Lib.hid inn
  have TG := Lib.hid tg
  have QT := Lib.hid quarterW
  clear ra ck inn tg
  have QQ : Hid (Qw w w) := Lib.hid (Qw.refl w)
  go_enter Try.func20, Try.ntmps20
  go_upto_region 1 with fail
  go_upto_region 2 with (go_big_may; (first | (go_at_call 21; ((with_reducible refine (RA.out _).mono ?_); rintro e w1 ⟨rfl, qq⟩; replace QQ := Lib.hid (Qw.trans QQ.out qq); clear qq)) | ((with_reducible refine al_vec (dst := some 1) ?_); intro w2 B1 hb xx qq; have h1 := Lib.hid (Nat.le_trans QQ.out.size hb); replace QQ := Lib.hid (Qw.trans QQ.out qq); have X1 := Lib.hid xx; clear xx qq hb) | ((with_reducible refine st_vec (x := ?_) (y := ?_) (z := ?_) 1 7 ?_ ?_ X1.out ?_); rotate_left 3; (rfl); (rfl); intro w3 xx qf ot; replace QQ := Lib.hid (qf _ QQ.out h1.out); replace X1 := Lib.hid xx; clear xx qf ot)))
  have c1_0 := X1.out.v0
  have c1_1 := X1.out.v1
  have c1_2 := X1.out.v2
  go_wp2_with (first | (go_at_call 53; ((with_reducible refine (QT.out _).mono ?_); rintro e w4 ⟨rfl, qq⟩; replace X1 := Lib.hid (X1.out.kept qq); replace QQ := Lib.hid (Qw.trans QQ.out qq); clear qq)) | (go_at_call 26; ((with_reducible refine (CK.out _).mono ?_); rintro e w5 ⟨rfl, qq⟩; replace X1 := Lib.hid (X1.out.kept qq); replace QQ := Lib.hid (Qw.trans QQ.out qq); clear qq)) | (go_at_call 30; ((with_reducible refine (IN.out _).mono ?_); rintro e w6 ⟨rfl, qq⟩; replace X1 := Lib.hid (X1.out.kept qq); replace QQ := Lib.hid (Qw.trans QQ.out qq); clear qq)) | (go_at_call 36; ((with_reducible refine (TG.out _).mono ?_); rintro e w7 ⟨rfl, qq⟩; replace X1 := Lib.hid (X1.out.kept qq); replace QQ := Lib.hid (Qw.trans QQ.out qq); clear qq)))
  go_ret
  exact ⟨rfl, QQ.out⟩
def pc (n : Int) : Int := -1048576 + n % 2097153
theorem pc_bd (n : Int) : -1048576 ≤ pc n ∧ pc n ≤ 1048576 := by unfold pc; omega
theorem pc_is (n : Int) : -1048576 + n % (1048576 - -1048576 + 1) = pc n := rfl
set_option maxRecDepth 100000 in
set_option maxHeartbeats 2000000 in
theorem pointA (x y z : Int) (x1 : -9223372036854775808 ≤ x) (x2 : x ≤ 9223372036854775807) (y1 : -9223372036854775808 ≤ y) (y2 : y ≤ 9223372036854775807) (z1 : -9223372036854775808 ≤ z) (z2 : z ≤ 9223372036854775807) (w : World) : Calls Try.prog 15 #[.agg #[.int .i64 x, .int .i64 y, .int .i64 z]] w fun e w' => e = .returned (.agg #[.int .i64 (pc x), .int .i64 (pc y), .int .i64 (pc z)]) ∧ Qw w w' := by
  have c0 := fun w => sameQ (betweenW x (-1048576) 1048576 x1 x2 (by decide) (by decide) (by decide) (by decide) w)
  have c1 := fun w => sameQ (betweenW y (-1048576) 1048576 y1 y2 (by decide) (by decide) (by decide) (by decide) w)
  have c2 := fun w => sameQ (betweenW z (-1048576) 1048576 z1 z2 (by decide) (by decide) (by decide) (by decide) w)
  simp only [pc_is] at c0 c1 c2
  generalize pc x = m0 at *
  generalize pc y = m1 at *
  generalize pc z = m2 at *
  have C0 := Lib.hid c0
  have C1 := Lib.hid c1
  have C2 := Lib.hid c2
  clear c0 c1 c2
  have QQ : Hid (Qw w w) := Lib.hid (Qw.refl w)
  go_enter Try.func15, Try.ntmps15
  go_upto_region 1 with (go_big_may; (first | ((with_reducible refine box_vec (x := ?_) (y := ?_) (z := ?_) 0 ?_ ?_); rotate_left 3; (rfl); intro w1 B1 hb xx qq; have h1 := Lib.hid (Nat.le_trans QQ.out.size hb); replace QQ := Lib.hid (Qw.trans QQ.out qq); have X1 := Lib.hid xx; clear xx qq hb) | ((with_reducible refine al_vec (dst := some 2) ?_); intro w2 B2 hb xx qq; have n2_1 := Lib.hid (Nat.ne_of_gt (Nat.lt_of_lt_of_le X1.out.lt hb)); have m2_1 := Lib.hid (Nat.ne_of_lt (Nat.lt_of_lt_of_le X1.out.lt hb)); have h2 := Lib.hid (Nat.le_trans QQ.out.size hb); replace X1 := Lib.hid (X1.out.kept qq); replace QQ := Lib.hid (Qw.trans QQ.out qq); have X2 := Lib.hid xx; clear xx qq hb)))
  have c1_0 := X1.out.kv0
  have c1_1 := X1.out.kv1
  have c1_2 := X1.out.kv2
  try simp only [List.getElem_toArray, List.getElem_cons_succ, List.getElem_cons_zero, Act.put, List.setIfInBounds_toArray, List.set_cons_zero, List.set_cons_succ]
  refine region_kept_tail 10 (by kernel_rfl) (by kernel_rfl) ?_
  simp only [List.take_succ_cons, List.take_zero, List.drop_succ_cons, List.drop_zero]
  repeat (go_big_quiet_step (first | (go_at_call 17; with_reducible exact Kept.call (C0.out _)) | (go_at_call 17; with_reducible exact Kept.call (C1.out _)) | (go_at_call 17; with_reducible exact Kept.call (C2.out _))))
  refine wpQuiet_nil ?_
  intro w3 qq
  clear c1_0 c1_1 c1_2
  replace X1 := Lib.hid (X1.out.kept qq)
  replace X2 := Lib.hid (X2.out.kept qq)
  replace QQ := Lib.hid (Qw.trans QQ.out qq)
  clear qq
  go_wp2_with ((with_reducible refine st_vec (x := ?_) (y := ?_) (z := ?_) 2 12 ?_ ?_ X2.out ?_); rotate_left 3; (rfl); (rfl); intro w4 xx qf ot; replace X1 := Lib.hid (ot _ _ _ m2_1.out X1.out); replace QQ := Lib.hid (qf _ QQ.out h2.out); replace X2 := Lib.hid xx; clear xx qf ot)
  have c2_0 := X2.out.v0
  have c2_1 := X2.out.v1
  have c2_2 := X2.out.v2
  exact bodyPost_ret (v := .agg #[.int .i64 m0, .int .i64 m1, .int .i64 m2]) (by simp [results, Try.results15, go_sem, c2_0, c2_1, c2_2]) rfl ⟨rfl, QQ.out⟩
end Go.Proofs.Ytihmifdadikhaaa

/- What the laws of layer 13 share: lists, new tapes, drawn arcs. -/
set_option linter.unusedVariables false
set_option linter.unusedSimpArgs false
namespace Go.Proofs.Ytihmifdadikhaaa
open Go.RowKit
theorem ints_at {w w' : World} {v : Value} {zs : List Int} (h : IntsB w.heap.size w v zs) (q : Qw w w') : IntsB w'.heap.size w' v zs := by
  obtain ⟨a, cap, e1, e2, e3, e4⟩ := h.kept q (Nat.le_refl _)
  refine ⟨a, cap, e1, e2, e3, ?_⟩
  rcases e4 with e | ⟨b, off, ea, hb, hz⟩
  · exact .inl e
  · exact .inr ⟨b, off, ea, Nat.lt_of_lt_of_le hb q.size, hz⟩
theorem Qw.gb {w w1 w2 : World} {B : Nat} (q : Qw w w1) (hB : w.heap.size ≤ B) (g : w1.grownBy w2 (some B)) : Qw w w2 :=
  ⟨g.os.trans q.os, g.tape.trans q.tape, g.output.trans q.output, Nat.le_trans q.size g.size, fun k hk => (g.block k (by have := q.size; omega) (by intro h; injection h with h; omega)).trans (q.block k hk)⟩
theorem newN {w w' : World} {v : Value} {zs : List Int} (h : IntsB w.heap.size w v zs) (q : Qw w w') : Calls Try.prog 25 #[v] w' fun e w'' => e = .returned (.pointer (some ⟨w'.heap.size, 0, none⟩)) ∧ TapeAt w'' w'.heap.size v zs 0 ∧ Qw w' w'' := newF v zs w' (ints_at h q)
theorem arcN {w w1 : World} {B : Nat} {v : Value} {zs : List Int} (h : TapeAt w1 B v zs 0) (q : Qw w w1) (hB : w.heap.size ≤ B) : Calls Try.prog 24 #[.pointer (some ⟨B, 0, none⟩)] w1 fun e w' => (∃ i : Ac.I, e = .returned (.agg (itc i)) ∧ Ac.Gd i) ∧ Qw w w' :=
  (arcD B v zs w1 w1 (Tm.of h)).mono fun _ _ ⟨hf, _, g⟩ => ⟨hf, q.gb hB g⟩
theorem lightN {w w' : World} {v : Value} {zs : List Int} (h : IntsB w.heap.size w v zs) (q : Qw w w') {b : Bool} (hb : decide (zs.length ≤ 120) = b) : Calls Try.prog 23 #[v] w' fun e w'' => e = .returned (.bool b) ∧ w' = w'' := hb ▸ lightF v zs w'.heap.size w' (ints_at h q)
end Go.Proofs.Ytihmifdadikhaaa
