
/- Package eval: Eval; the expressions that the laws make; the sanity check. -/
import Derived.Test.YtkfipjlknfinpaaDoorEvV
import Derived.Test.YtkfipjlknfinpaaDoorVlA
set_option linter.unusedVariables false
set_option linter.unusedSimpArgs false
namespace Go.Proofs.YtkfipjlknfinpaaDoor
open Go.RowKit

/-- The tables of steps and of operators lie as laid. -/
structure Tw (w : World) : Prop where
  c : Tc w
  o : Ow w
theorem Tw.kept {w w' : World} (h : Tw w) (q : Qw w w') : Tw w' := ⟨h.c.kept q, h.o.kept q⟩

/-- Kids in any blocks. -/
abbrev Kd (w : World) (a : Option Addr) (c : Nat) (ks : List Sy.Ex) : Prop := KidsB w (fun _ => True) a c ks

namespace Ev
/-! ### stores -/
def All (s : Vs.St) : Prop := (∀ x ∈ s.ls, Bd x) ∧ (∀ x ∈ s.cm, Bd x) ∧ (∀ x ∈ s.sy, Bd x)
theorem getD_bd {l : List Int} (h : ∀ x ∈ l, Bd x) (i : Nat) : Bd (l.getD i 0) := by
  rw [List.getD_eq_getElem?_getD]
  by_cases hi : i < l.length
  · rw [List.getElem?_eq_getElem hi]; exact h _ (List.getElem_mem hi)
  · rw [List.getElem?_eq_none (by omega)]; exact bd0
theorem All.good {s : Vs.St} (h : All s) : Good s := by
  obtain ⟨h1, h2, h3⟩ := h
  intro n
  unfold Vs.St.get
  split
  · exact getD_bd h1 _
  · split
    · exact getD_bd h2 _
    · split
      · exact getD_bd h3 _
      · exact bd0
theorem zer_bd (n : Nat) : ∀ x ∈ Vs.zer n, Bd x := fun x hx => by
  rw [List.eq_of_mem_replicate hx]; exact bd0
theorem all_new : All Vs.new := ⟨zer_bd _, zer_bd _, zer_bd _⟩
theorem set_bd {l : List Int} (h : ∀ x ∈ l, Bd x) {v : Int} (hv : Bd v) (i : Nat) : ∀ x ∈ l.set i v, Bd x := fun x hx => by
  rcases List.mem_or_eq_of_mem_set hx with hx | rfl
  · exact h x hx
  · exact hv
theorem all_set {s : Vs.St} (h : All s) {v : Int} (hv : Bd v) (n : Int) : All (s.set n v) := by
  obtain ⟨h1, h2, h3⟩ := h
  unfold Vs.St.set
  split
  · exact ⟨h1, h2, h3⟩
  · split
    · exact ⟨set_bd h1 hv _, h2, h3⟩
    · exact ⟨h1, set_bd h2 hv _, h3⟩
theorem set_n (s : Vs.St) (n v : Int) : (s.set n v).n = s.n := by
  unfold Vs.St.set
  split
  · rfl
  · split <;> rfl
theorem good_new : Good Vs.new := all_new.good

/-! ### values -/
theorem evl_ok {s : Vs.St} {x : Sy.Ex} (h : Sy.okx x = true) (d : Sy.dpt x ≤ 16) : evl s x = val s x :=
  if_pos (by unfold Sy.rgt Sy.depB; rw [h, decide_eq_true d]; rfl)
theorem evl_no {s : Vs.St} {x : Sy.Ex} (h : Sy.rgt x = false) : evl s x = (0, 1) := if_neg (by rw [h]; decide)
theorem evl_yes {s : Vs.St} {x : Sy.Ex} (h : Sy.rgt x = true) : evl s x = val s x := if_pos h
theorem val_num (s : Vs.St) (n : Int) : val s (Sy.num n) = (n, 0) := by unfold Sy.num; rw [val_mk]; rfl
theorem val_un (s : Vs.St) (o : Int) (x : Sy.Ex) : val s (Sy.un o x) = opk s o 0 [val s x] := by unfold Sy.un; rw [val_mk]; rfl
theorem val_bin (s : Vs.St) (o : Int) (x y : Sy.Ex) : val s (Sy.bin o x y) = opk s o 0 [val s x, val s y] := by unfold Sy.bin; rw [val_mk]; rfl
theorem opk_one (s : Vs.St) (o n a : Int) : opk s o n [(a, 0)] = opv s n a 0 o.toNat := rfl
theorem opk_two (s : Vs.St) (o n a b : Int) : opk s o n [(a, 0), (b, 0)] = opv s n a b o.toNat := rfl
theorem opk_err1 (s : Vs.St) (o n : Int) {u : V} (l : List V) (h : u.2 ≠ 0) : opk s o n (u :: l) = (0, u.2) := by
  have e : fe (u :: l) = u.2 := if_neg h
  unfold opk; rw [e, if_neg h]
theorem opk_err2 (s : Vs.St) (o n : Int) {u v : V} (h0 : u.2 = 0) (h : v.2 ≠ 0) : opk s o n [u, v] = (0, v.2) := by
  have e : fe [u, v] = v.2 := (if_pos h0).trans (if_neg h)
  unfold opk; rw [e, if_neg h]
theorem aw_1 : evl Vs.new (Sy.bin 6 (Sy.num 1000000) (Sy.num 0)) = (0, 4) := by
  have o1 := Sy.okx_num' (n := 1000000) (by decide) (by decide)
  have o2 := Sy.okx_num' (n := 0) (by decide) (by decide)
  rw [evl_ok (Sy.okx_bin' (by decide) rfl o1 o2) (by rw [Sy.dpt_bin, Sy.dpt_num, Sy.dpt_num]; decide), val_bin, val_num, val_num, opk_two]
  show (divv 1000000 0, dive 1000000 0) = (0, 4)
  decide +kernel
theorem aw_2 : evl Vs.new (Sy.bin 11 (Sy.num 1000000) (Sy.num 0)) = (90000000, 0) := by
  have o1 := Sy.okx_num' (n := 1000000) (by decide) (by decide)
  have o2 := Sy.okx_num' (n := 0) (by decide) (by decide)
  rw [evl_ok (Sy.okx_bin' (by decide) rfl o1 o2) (by rw [Sy.dpt_bin, Sy.dpt_num, Sy.dpt_num]; decide), val_bin, val_num, val_num, opk_two]
  show dirv 1000000 0 = (90000000, 0)
  decide +kernel
end Ev

theorem kd_nil (w : World) : Kd w none 0 [] := .nl none 0 (by decide)

set_option maxRecDepth 100000 in
set_option maxHeartbeats 4000000 in
theorem evEval {B L cap : Nat} {s : Vs.St} (hg : Ev.Good s) (x : Sy.Ex) (a : Option Addr) (c : Nat) (w : World) (hp : Pst w B L cap s) (ht : Tw w) (hk : Kd w a c x.ks) :
    Calls Tryd.prog 14 #[.agg #[.int .i64 x.op, .int .i64 x.n, .slice a x.ks.length c], .pointer (some ⟨B, 0, none⟩)] w fun e w' => e = .returned (.tuple #[.int .i64 (Ev.evl s x).1, .int .i64 (Ev.evl s x).2]) ∧ Qw w w' := by
  have cr := fun w1 (h1 : Ow w1) (h2 : Kd w1 a c x.ks) => sv_right x.op x.n x.ks a c _ w1 h1 h2
  rw [show Sy.Ex.mk x.op x.n x.ks = x by cases x; rfl] at cr
  obtain ⟨l1, l2⟩ := hk.cap
  have HK := Lib.hid hk
  have HT := Lib.hid ht
  have HP := Lib.hid hp
  have q0 : Hid (Qw w w) := Lib.hid (Qw.refl w)
  clear hk ht hp
  cases hr : Sy.rgt x with
  | false =>
    rw [hr] at cr
    have CR := Lib.hid cr
    clear cr
    rw [Ev.evl_no hr]
    clear hr
    go_enter Tryd.func14, Tryd.ntmps14
    go_wp2_with (go_at_call 32; ((with_reducible refine (CR.out _ (HT.out.o.kept (by repeat (first | exact q0.out | exact Qw.refl _ | refine Qw.al ?_ _ | refine Qw.dr ?_ | refine Qw.dn ?_ _ | refine Qw.sc ?_ (by first | (simp; done) | omega | (have := q0.out.size; first | omega | (simp; omega))) _))) (KidsB.kept HK.out (by repeat (first | exact q0.out | exact Qw.refl _ | refine Qw.al ?_ _ | refine Qw.dr ?_ | refine Qw.dn ?_ _ | refine Qw.sc ?_ (by first | (simp; done) | omega | (have := q0.out.size; first | omega | (simp; omega))) _)))).mono ?_); rintro e w' ⟨rfl, q⟩; replace q0 : Hid (Qw w w') := Lib.hid (Qw.trans (by repeat (first | exact q0.out | exact Qw.refl _ | refine Qw.al ?_ _ | refine Qw.dr ?_ | refine Qw.dn ?_ _ | refine Qw.sc ?_ (by first | (simp; done) | omega | (have := q0.out.size; first | omega | (simp; omega))) _)) q); clear q))
    go_ret2
    exact ⟨rfl, q0.out⟩
  | true =>
    rw [hr] at cr
    have CR := Lib.hid cr
    rw [Ev.evl_yes hr]
    have hok : Sy.okx x = true := by unfold Sy.rgt at hr; simp only [Bool.and_eq_true] at hr; exact hr.1
    have CV := Lib.hid (fun (w1 : World) (h1 : Pst w1 B L cap s) h2 h3 => evValue hg x hok a c (fun _ => True) w1 h1 h2 h3)
    clear cr hr hok
    generalize (Ev.val s x).1 = v at *
    generalize (Ev.val s x).2 = ee at *
    go_enter Tryd.func14, Tryd.ntmps14
    go_wp2_with (first
      | (go_at_call 32; ((with_reducible refine (CR.out _ (HT.out.o.kept (by repeat (first | exact q0.out | exact Qw.refl _ | refine Qw.al ?_ _ | refine Qw.dr ?_ | refine Qw.dn ?_ _ | refine Qw.sc ?_ (by first | (simp; done) | omega | (have := q0.out.size; first | omega | (simp; omega))) _))) (KidsB.kept HK.out (by repeat (first | exact q0.out | exact Qw.refl _ | refine Qw.al ?_ _ | refine Qw.dr ?_ | refine Qw.dn ?_ _ | refine Qw.sc ?_ (by first | (simp; done) | omega | (have := q0.out.size; first | omega | (simp; omega))) _)))).mono ?_); rintro e w' ⟨rfl, q⟩; have x0 := (Bx.kept (Bx.new w #[.int .i64 x.op, .int .i64 x.n, .slice a x.ks.length c] 31) q).cell' 0 _ rfl; have x1 := (Bx.kept (Bx.new w #[.int .i64 x.op, .int .i64 x.n, .slice a x.ks.length c] 31) q).cell' 1 _ rfl; have x2 := (Bx.kept (Bx.new w #[.int .i64 x.op, .int .i64 x.n, .slice a x.ks.length c] 31) q).cell' 2 _ rfl; replace q0 : Hid (Qw w w') := Lib.hid (Qw.trans (by repeat (first | exact q0.out | exact Qw.refl _ | refine Qw.al ?_ _ | refine Qw.dr ?_ | refine Qw.dn ?_ _ | refine Qw.sc ?_ (by first | (simp; done) | omega | (have := q0.out.size; first | omega | (simp; omega))) _)) q); clear q))
      | (go_at_call 33; ((with_reducible refine (CV.out _ (HP.out.kept (by repeat (first | exact q0.out | exact Qw.refl _ | refine Qw.al ?_ _ | refine Qw.dr ?_ | refine Qw.dn ?_ _ | refine Qw.sc ?_ (by first | (simp; done) | omega | (have := q0.out.size; first | omega | (simp; omega))) _))) (HT.out.c.kept (by repeat (first | exact q0.out | exact Qw.refl _ | refine Qw.al ?_ _ | refine Qw.dr ?_ | refine Qw.dn ?_ _ | refine Qw.sc ?_ (by first | (simp; done) | omega | (have := q0.out.size; first | omega | (simp; omega))) _))) (KidsB.kept HK.out (by repeat (first | exact q0.out | exact Qw.refl _ | refine Qw.al ?_ _ | refine Qw.dr ?_ | refine Qw.dn ?_ _ | refine Qw.sc ?_ (by first | (simp; done) | omega | (have := q0.out.size; first | omega | (simp; omega))) _)))).mono ?_); rintro e w' ⟨rfl, q⟩; replace q0 : Hid (Qw w w') := Lib.hid (Qw.trans (by repeat (first | exact q0.out | exact Qw.refl _ | refine Qw.al ?_ _ | refine Qw.dr ?_ | refine Qw.dn ?_ _ | refine Qw.sc ?_ (by first | (simp; done) | omega | (have := q0.out.size; first | omega | (simp; omega))) _)) q); clear q)))
    go_ret2
    exact ⟨rfl, q0.out⟩

theorem bx_at8 (w : World) (cs : Array Value) (t : TypeId) (n : Nat) (h : w.heap.size = n) : Bx (w.alloc (.cells cs t)) n cs t := h ▸ Bx.new w cs t

/-- num. -/
theorem evNum (n : Int) (w : World) : Calls Tryd.prog 25 #[.int .i64 n] w fun e w' => e = .returned (.agg #[.int .i64 0, .int .i64 n, .slice none 0 0]) ∧ Qw w w' := by
  go_enter Tryd.func25, Tryd.ntmps25
  go_wp2_with fail
  exact bodyPost_ret (ret_ex Tryd.results25 rfl (Bx.new w _ _)) rfl ⟨rfl, Qw.al (Qw.refl w) _⟩

set_option maxRecDepth 100000 in
set_option maxHeartbeats 4000000 in
theorem evTwo (o : Int) (x y : Sy.Ex) (xa ya : Option Addr) (xc yc : Nat) (w : World) (hx : Kd w xa xc x.ks) (hy : Kd w ya yc y.ks) :
    Calls Tryd.prog 19 #[.int .i64 o, .agg #[.int .i64 x.op, .int .i64 x.n, .slice xa x.ks.length xc], .agg #[.int .i64 y.op, .int .i64 y.n, .slice ya y.ks.length yc]] w fun e w' =>
      ∃ b, e = .returned (.agg #[.int .i64 o, .int .i64 0, .slice (some ⟨b, 0, none⟩) 2 2]) ∧ Kd w' (some ⟨b, 0, none⟩) 2 [x, y] ∧ Qw w w' := by
  obtain ⟨l1, l2⟩ := hx.cap
  obtain ⟨l3, l4⟩ := hy.cap
  have HX := Lib.hid hx
  have HY := Lib.hid hy
  clear hx hy
  generalize hX : x.ks.length = lx at *
  generalize hY : y.ks.length = ly at *
  go_enter Tryd.func19, Tryd.ntmps19
  go_wp2_with fail
  subst hX hY
  have QF : Qw w ((((w.alloc (.cells #[.int .i64 x.op, .int .i64 x.n, .slice xa x.ks.length xc] 31)).alloc (.cells #[.int .i64 y.op, .int .i64 y.n, .slice ya y.ks.length yc] 31)).alloc (.cells #[.int .i64 o, .int .i64 0, .slice (some ⟨w.heap.size + 1 + 1 + 1, 0, none⟩) 2 2] 31)).alloc (.cells #[.int .i64 x.op, .int .i64 x.n, .slice xa x.ks.length xc, .int .i64 y.op, .int .i64 y.n, .slice ya y.ks.length yc] 31)) := Qw.al (Qw.al (Qw.al (Qw.al (Qw.refl w) _) _) _) _
  exact bodyPost_ret (ret_ex Tryd.results19 rfl (Bx.alloc (bx_at8 _ _ _ _ (by simp)) _)) rfl ⟨_, rfl, KidsB.two (bx_at8 _ _ _ _ (by simp)) trivial (KidsB.kept HX.out QF) (KidsB.kept HY.out QF), QF⟩

set_option maxRecDepth 100000 in
set_option maxHeartbeats 4000000 in
/-- value: Eval with new variables. -/
theorem evNew (x : Sy.Ex) (a : Option Addr) (c : Nat) (w : World) (ht : Tw w) (hk : Kd w a c x.ks) :
    Calls Tryd.prog 18 #[.agg #[.int .i64 x.op, .int .i64 x.n, .slice a x.ks.length c]] w fun e w' => e = .returned (.tuple #[.int .i64 (Ev.evl Vs.new x).1, .int .i64 (Ev.evl Vs.new x).2]) ∧ Qw w w' := by
  obtain ⟨l1, l2⟩ := hk.cap
  have HK := Lib.hid hk
  have HT := Lib.hid ht
  have CV := Lib.hid (fun (w1 : World) (B L cap : Nat) (h1 : Pst w1 B L cap Vs.new) h2 h3 => evEval Ev.good_new x a c w1 h1 h2 h3)
  have q0 : Hid (Qw w w) := Lib.hid (Qw.refl w)
  clear hk ht
  generalize (Ev.evl Vs.new x).1 = v at *
  generalize (Ev.evl Vs.new x).2 = ee at *
  go_enter Tryd.func18, Tryd.ntmps18
  go_wp2_with (first
    | (go_at_call 23; ((with_reducible refine (vaNew _).mono ?_); rintro e w' ⟨B, L, cap, rfl, hP, hB, hL, q⟩; have P1 := Lib.hid hP; have x0 := (Bx.kept (Bx.new w #[.int .i64 x.op, .int .i64 x.n, .slice a x.ks.length c] 31) q).cell' 0 _ rfl; have x1 := (Bx.kept (Bx.new w #[.int .i64 x.op, .int .i64 x.n, .slice a x.ks.length c] 31) q).cell' 1 _ rfl; have x2 := (Bx.kept (Bx.new w #[.int .i64 x.op, .int .i64 x.n, .slice a x.ks.length c] 31) q).cell' 2 _ rfl; clear hP hB hL; replace q0 : Hid (Qw w w') := Lib.hid (Qw.trans (by repeat (first | exact q0.out | exact Qw.refl _ | refine Qw.al ?_ _ | refine Qw.dr ?_ | refine Qw.dn ?_ _ | refine Qw.sc ?_ (by first | (simp; done) | omega | (have := q0.out.size; first | omega | (simp; omega))) _)) q); clear q))
    | (go_at_call 14; ((with_reducible refine (CV.out _ _ _ _ P1.out (HT.out.kept q0.out) (KidsB.kept HK.out q0.out)).mono ?_); rintro e w' ⟨rfl, q⟩; replace q0 : Hid (Qw w w') := Lib.hid (Qw.trans (by repeat (first | exact q0.out | exact Qw.refl _ | refine Qw.al ?_ _ | refine Qw.dr ?_ | refine Qw.dn ?_ _ | refine Qw.sc ?_ (by first | (simp; done) | omega | (have := q0.out.size; first | omega | (simp; omega))) _)) q); clear q)))
  go_ret2
  exact ⟨rfl, q0.out⟩
/-- The same for an expression of two, of one and of none. -/
theorem evNewTwo (o : Int) (x y : Sy.Ex) (b : Nat) (w : World) (ht : Tw w) (hk : Kd w (some ⟨b, 0, none⟩) 2 [x, y]) :
    Calls Tryd.prog 18 #[.agg #[.int .i64 o, .int .i64 0, .slice (some ⟨b, 0, none⟩) 2 2]] w fun e w' => e = .returned (.tuple #[.int .i64 (Ev.evl Vs.new (Sy.bin o x y)).1, .int .i64 (Ev.evl Vs.new (Sy.bin o x y)).2]) ∧ Qw w w' :=
  evNew (Sy.bin o x y) _ _ w ht hk
theorem evNewOne (o : Int) (x : Sy.Ex) (b : Nat) (w : World) (ht : Tw w) (hk : Kd w (some ⟨b, 0, none⟩) 1 [x]) :
    Calls Tryd.prog 18 #[.agg #[.int .i64 o, .int .i64 0, .slice (some ⟨b, 0, none⟩) 1 1]] w fun e w' => e = .returned (.tuple #[.int .i64 (Ev.evl Vs.new (Sy.un o x)).1, .int .i64 (Ev.evl Vs.new (Sy.un o x)).2]) ∧ Qw w w' :=
  evNew (Sy.un o x) _ _ w ht hk

set_option maxRecDepth 100000 in
set_option maxHeartbeats 4000000 in
/-- The sanity check. -/
theorem awake8 (w : World) (ht : Tw w) : Calls Tryd.prog 10 #[] w fun e w' => e = .returned (.bool true) ∧ Qw w w' := by
  have HT := Lib.hid ht
  have C6 := Lib.hid (fun (w1 : World) (B L cap b : Nat) (h1 : Pst w1 B L cap Vs.new) (h2 : Tw w1) (h3 : Kd w1 (some ⟨b, 0, none⟩) 2 [Sy.num 1000000, Sy.num 0]) => show Calls Tryd.prog 14 #[.agg #[.int .i64 6, .int .i64 0, .slice (some ⟨b, 0, none⟩) 2 2], .pointer (some ⟨B, 0, none⟩)] w1 fun e w' => e = .returned (.tuple #[.int .i64 0, .int .i64 4]) ∧ Qw w1 w' by
    have := evEval Ev.good_new (Sy.bin 6 (Sy.num 1000000) (Sy.num 0)) (some ⟨b, 0, none⟩) 2 w1 h1 h2 h3
    rw [Ev.aw_1] at this
    exact this)
  have C11 := Lib.hid (fun (w1 : World) (B L cap b : Nat) (h1 : Pst w1 B L cap Vs.new) (h2 : Tw w1) (h3 : Kd w1 (some ⟨b, 0, none⟩) 2 [Sy.num 1000000, Sy.num 0]) => show Calls Tryd.prog 14 #[.agg #[.int .i64 11, .int .i64 0, .slice (some ⟨b, 0, none⟩) 2 2], .pointer (some ⟨B, 0, none⟩)] w1 fun e w' => e = .returned (.tuple #[.int .i64 90000000, .int .i64 0]) ∧ Qw w1 w' by
    have := evEval Ev.good_new (Sy.bin 11 (Sy.num 1000000) (Sy.num 0)) (some ⟨b, 0, none⟩) 2 w1 h1 h2 h3
    rw [Ev.aw_2] at this
    exact this)
  have CT := Lib.hid (fun (o : Int) (w1 : World) => show Calls Tryd.prog 19 #[.int .i64 o, .agg #[.int .i64 0, .int .i64 1000000, .slice none 0 0], .agg #[.int .i64 0, .int .i64 0, .slice none 0 0]] w1 fun e w' => ∃ b, e = .returned (.agg #[.int .i64 o, .int .i64 0, .slice (some ⟨b, 0, none⟩) 2 2]) ∧ Kd w' (some ⟨b, 0, none⟩) 2 [Sy.num 1000000, Sy.num 0] ∧ Qw w1 w' from
    evTwo o (Sy.num 1000000) (Sy.num 0) none none 0 0 w1 (kd_nil w1) (kd_nil w1))
  have q0 : Hid (Qw w w) := Lib.hid (Qw.refl w)
  clear ht
  go_enter Tryd.func10, Tryd.ntmps10
  go_wp2_with (first
    | (go_at_call 23; ((with_reducible refine (vaNew _).mono ?_); rintro e w' ⟨B, L, cap, rfl, hP, hB, hL, q⟩; have P := Lib.hid hP; clear hP hB hL; replace q0 : Hid (Qw w w') := Lib.hid (Qw.trans (by repeat (first | exact q0.out | exact Qw.refl _ | refine Qw.al ?_ _ | refine Qw.dr ?_ | refine Qw.dn ?_ _ | refine Qw.sc ?_ (by first | (simp; done) | omega | (have := q0.out.size; first | omega | (simp; omega))) _)) q); clear q))
    | (go_at_call 25; ((with_reducible refine (evNum _ _).mono ?_); rintro e w' ⟨rfl, q⟩; replace P := Lib.hid (P.out.kept q); replace q0 : Hid (Qw w w') := Lib.hid (Qw.trans (by repeat (first | exact q0.out | exact Qw.refl _ | refine Qw.al ?_ _ | refine Qw.dr ?_ | refine Qw.dn ?_ _ | refine Qw.sc ?_ (by first | (simp; done) | omega | (have := q0.out.size; first | omega | (simp; omega))) _)) q); clear q))
    | (go_at_call 19; ((with_reducible refine (CT.out _ _).mono ?_); rintro e w' ⟨b, rfl, hk, q⟩; replace P := Lib.hid (P.out.kept q); have K := Lib.hid hk; clear hk; replace q0 : Hid (Qw w w') := Lib.hid (Qw.trans (by repeat (first | exact q0.out | exact Qw.refl _ | refine Qw.al ?_ _ | refine Qw.dr ?_ | refine Qw.dn ?_ _ | refine Qw.sc ?_ (by first | (simp; done) | omega | (have := q0.out.size; first | omega | (simp; omega))) _)) q); clear q))
    | (go_at_call 14; ((with_reducible refine (C6.out _ _ _ _ _ P.out (HT.out.kept q0.out) K.out).mono ?_); rintro e w' ⟨rfl, q⟩; replace P := Lib.hid (P.out.kept q); clear K; replace q0 : Hid (Qw w w') := Lib.hid (Qw.trans (by repeat (first | exact q0.out | exact Qw.refl _ | refine Qw.al ?_ _ | refine Qw.dr ?_ | refine Qw.dn ?_ _ | refine Qw.sc ?_ (by first | (simp; done) | omega | (have := q0.out.size; first | omega | (simp; omega))) _)) q); clear q))
    | (go_at_call 14; ((with_reducible refine (C11.out _ _ _ _ _ P.out (HT.out.kept q0.out) K.out).mono ?_); rintro e w' ⟨rfl, q⟩; replace P := Lib.hid (P.out.kept q); clear K; replace q0 : Hid (Qw w w') := Lib.hid (Qw.trans (by repeat (first | exact q0.out | exact Qw.refl _ | refine Qw.al ?_ _ | refine Qw.dr ?_ | refine Qw.dn ?_ _ | refine Qw.sc ?_ (by first | (simp; done) | omega | (have := q0.out.size; first | omega | (simp; omega))) _)) q); clear q))
    | (go_at_call 20; ((with_reducible refine (evTruth _ _).mono ?_); rintro e w' ⟨rfl, rfl⟩)))
  go_ret
  exact ⟨rfl, q0.out⟩
end Go.Proofs.YtkfipjlknfinpaaDoor
