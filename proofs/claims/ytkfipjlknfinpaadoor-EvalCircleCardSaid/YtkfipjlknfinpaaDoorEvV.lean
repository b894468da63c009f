
/- Package eval: the walk of value, and of Eval. -/
import Derived.Test.YtkfipjlknfinpaaDoorEvB
import Derived.Test.YtkfipjlknfinpaaDoorSvB
set_option linter.unusedVariables false
set_option linter.unusedSimpArgs false
namespace Go.Proofs.YtkfipjlknfinpaaDoor
open Go.RowKit

/-- The values of the Kids in memory. -/
def kcs (l : List Ev.V) : Array Value := #[.int .i64 (Ev.kv l 0), .int .i64 (Ev.kv l 1)]
theorem kcs_set {l : List Ev.V} {i : Nat} (hl : l.length = i) (hi : i < 2) (v : Ev.V) : (kcs l).setIfInBounds i (.int .i64 v.1) = kcs (l ++ [v]) := by
  match l, hl with
  | [], rfl => rfl
  | [u], rfl => rfl
  | _ :: _ :: _, rfl => simp at hi; omega
theorem sc_int (a : Int) : (-1073741900 ≤ (Cm.sc a).1 ∧ (Cm.sc a).1 ≤ 1073741900) ∧ -1073741900 ≤ (Cm.sc a).2 ∧ (Cm.sc a).2 ≤ 1073741900 := ⟨Cm.nm_re (Cm.sc_bd a), Cm.nm_im (Cm.sc_bd a)⟩
theorem kcs_at (l : List Ev.V) {i : Nat} (hi : i < 2) : ∃ v, (kcs l)[i]? = some v := by
  match i, hi with
  | 0, _ => exact ⟨_, rfl⟩
  | 1, _ => exact ⟨_, rfl⟩
theorem val_err {s : Vs.St} {ks : List Sy.Ex} {i : Nat} (h : i < ks.length) (h0 : Ev.fe ((ks.take i).map (Ev.val s)) = 0) (hv : (Ev.val s ks[i]).2 ≠ 0) (o n : Int) : Ev.val s (.mk o n ks) = (0, (Ev.val s ks[i]).2) := by
  have e : ks.map (Ev.val s) = (ks.take i).map (Ev.val s) ++ Ev.val s ks[i] :: (ks.drop (i + 1)).map (Ev.val s) := by
    conv => lhs; rw [← List.take_append_drop i ks, List.drop_eq_getElem_cons h]
    rw [List.map_append, List.map_cons]
  have f := Ev.fe_stop (r := (ks.drop (i + 1)).map (Ev.val s)) h0 hv
  rw [← e] at f
  rw [Ev.val_mk, Ev.opk, f, if_neg hv]
theorem val_more {s : Vs.St} {ks : List Sy.Ex} {i : Nat} (h : i < ks.length) : (ks.take (i + 1)).map (Ev.val s) = (ks.take i).map (Ev.val s) ++ [Ev.val s ks[i]] := by
  rw [List.take_succ_eq_append_getElem h, List.map_append]; rfl
theorem val_opv {s : Vs.St} {ks : List Sy.Ex} (h0 : Ev.fe (ks.map (Ev.val s)) = 0) (o : Nat) (n : Int) : Ev.val s (.mk (o : Int) n ks) = Ev.opv s n (Ev.kv (ks.map (Ev.val s)) 0) (Ev.kv (ks.map (Ev.val s)) 1) o := by
  rw [Ev.val_mk, Ev.opk, if_pos h0, Int.toNat_natCast]
theorem okx_node {o n : Int} {ks : List Sy.Ex} (h : Sy.okx (.mk o n ks) = true) : (∃ k : Nat, k < 26 ∧ o = (k : Int) ∧ ks.length = Sy.kds k) ∧ (∀ k ∈ ks, Sy.okx k = true) ∧ Ev.Bd n := by
  rw [Sy.okx_mk] at h
  simp only [Sy.nodeB, Bool.and_eq_true, Bool.or_eq_true, decide_eq_true_eq, List.all_eq_true] at h
  obtain ⟨⟨⟨⟨h0, h1⟩, h2⟩, hn⟩, ha⟩ := h
  refine ⟨⟨o.toNat, by omega, by omega, h2⟩, ha, ?_⟩
  rcases hn with rfl | ⟨⟨_, h1⟩, h2⟩
  · exact Ev.bd0
  · exact ⟨by omega, by omega⟩
theorem kds_two : ∀ o, o < 26 → Sy.kds o ≤ 2 := by decide

set_option maxRecDepth 100000 in
set_option maxHeartbeats 4000000 in
theorem evValue {B L cap : Nat} {s : Vs.St} (hg : Ev.Good s) : ∀ x : Sy.Ex, Sy.okx x = true → ∀ (a : Option Addr) (c : Nat) (S : Nat → Prop) (w : World), Pst w B L cap s → Tc w → KidsB w S a c x.ks →
    Calls Tryd.prog 33 #[.agg #[.int .i64 x.op, .int .i64 x.n, .slice a x.ks.length c], .pointer (some ⟨B, 0, none⟩)] w fun e w' => e = .returned (.tuple #[.int .i64 (Ev.val s x).1, .int .i64 (Ev.val s x).2]) ∧ Qw w w' := by
  refine Sy.Ex.ind fun op n ks ih hok a c S w hp ht hk => ?_
  obtain ⟨⟨o, ho, rfl, hl⟩, hka, hn⟩ := okx_node hok
  have hl2 := kds_two o ho
  rw [← hl] at hl2
  show Calls Tryd.prog 33 #[.agg #[.int .i64 (o : Int), .int .i64 n, .slice a ks.length c], .pointer (some ⟨B, 0, none⟩)] w _
  obtain ⟨l1, l2⟩ := KidsB.cap hk
  obtain ⟨rv, re, hR0⟩ : ∃ rv re, Ev.val s (.mk (o : Int) n ks) = (rv, re) := ⟨_, _, rfl⟩
  rw [hR0]
  have hR := Lib.hid hR0
  clear hR0
  have HP := Lib.hid hp
  have HT := Lib.hid ht
  have HK := Lib.hid hk
  have IH := Lib.hid ih
  have HA := Lib.hid hka
  have HN := Lib.hid hn
  have hlN := Lib.hid hl
  change KidsB w S a c ks at hk
  clear hp ht hk ih hka hok hn hl
  go_enter Tryd.func33, Tryd.ntmps33
  go_wp2_with fail
  have QS : Hid (Qw w ((w.alloc (.cells #[.int .i64 (o : Int), .int .i64 n, .slice a ks.length c] 31)).alloc (.cells #[.int .i64 0, .int .i64 0] 71))) := Lib.hid (by repeat (first | exact q0.out | exact Qw.refl _ | refine Qw.al ?_ _ | refine Qw.dr ?_ | refine Qw.dn ?_ _ | refine Qw.sc ?_ (by first | (simp; done) | omega | (have := q0.out.size; first | omega | (simp; omega))) _))
  have XS : Hid (Bx ((w.alloc (.cells #[.int .i64 (o : Int), .int .i64 n, .slice a ks.length c] 31)).alloc (.cells #[.int .i64 0, .int .i64 0] 71)) w.heap.size #[.int .i64 (o : Int), .int .i64 n, .slice a ks.length c] 31) := Lib.hid (Bx.alloc (Bx.new w _ _) _)
  have YS : Hid (Bx ((w.alloc (.cells #[.int .i64 (o : Int), .int .i64 n, .slice a ks.length c] 31)).alloc (.cells #[.int .i64 0, .int .i64 0] 71)) (w.heap.size + 1) (kcs ((ks.take 0).map (Ev.val s))) 71) := Lib.hid (by
    have := Bx.new (w.alloc (.cells #[.int .i64 (o : Int), .int .i64 n, .slice a ks.length c] 31)) #[.int .i64 0, .int .i64 0] 71
    rwa [show (w.alloc (.cells #[.int .i64 (o : Int), .int .i64 n, .slice a ks.length c] 31)).heap.size = w.heap.size + 1 by simp] at this)
  go_loopg [20] ks.length (fun g iv wr => ∃ i : Nat, i ≤ ks.length ∧ g = ks.length - i ∧ iv = .int .i64 (i : Int) ∧ Hid (Ev.fe ((ks.take i).map (Ev.val s)) = 0) ∧ Hid (Bx wr w.heap.size #[.int .i64 (o : Int), .int .i64 n, .slice a ks.length c] 31) ∧ Hid (Bx wr (w.heap.size + 1) (kcs ((ks.take i).map (Ev.val s))) 71) ∧ Qw w wr)
  case atStart => exact ⟨0, Nat.zero_le _, rfl, rfl, Lib.hid rfl, XS, YS, QS.out⟩
  case round =>
    clear XS YS QS
    obtain ⟨i, hi, rfl, rfl, hT, X, Y, hQ⟩ := hrel
    have q0 := Lib.hid hQ
    by_cases hlt : i < ks.length
    · have hKr := HK.out.kept hQ
      have HPr := Lib.hid (HP.out.kept hQ)
      have HTr := Lib.hid (HT.out.kept hQ)
      clear hQ HP HT
      change KidsB wr S a c ks at hKr
      cases hKr with
      | nl => simp at hlt
      | mk b off cap2 ks ad cc hS h1 h2 hc hkk =>
        obtain ⟨z0, z1, z2⟩ := hc i hlt
        have KK := Lib.hid (hkk i hlt)
        have hi2 : (i : Int) < (ks.length : Int) := by omega
        have hi3 : (i : Int) < 2 := by omega
        have cr := fun w1 (h : KidsB w1 S (ad i) (cc i) ks[i].ks) (hp : Pst w1 B L cap s) (ht : Tc w1) => IH.out ks[i] (List.getElem_mem hlt) (HA.out _ (List.getElem_mem hlt)) (ad i) (cc i) S w1 hp ht h
        have bl := cell_lt z0
        have hne : b ≠ wr.heap.size := by omega
        have szr := q0.out.size
        have eM := val_more (s := s) hlt
        have eK := fun v => kcs_set (l := (ks.take i).map (Ev.val s)) (i := i) (by rw [List.length_map, List.length_take]; omega) (by omega) v
        by_cases hv : (Ev.val s ks[i]).2 = 0
        · have eF0 := Ev.fe_more hT.out hv
          have eK0 := eK (Ev.val s ks[i])
          rw [← eM] at eF0 eK0
          rw [hv] at cr
          have eF := Lib.hid eF0
          have EK := Lib.hid eK0
          have CR := Lib.hid cr
          obtain ⟨uo, huo⟩ := kcs_at ((ks.take i).map (Ev.val s)) (show i < 2 by omega)
          replace huo := Lib.hid huo
          clear cr eM eK hc hkk hT eF0 eK0 hv
          generalize (Ev.val s ks[i]).1 = v1 at *
          go_wp2_with (go_at_call 33; ((with_reducible refine (CR.out _ (KidsB.kept KK.out (by repeat (first | exact Qw.refl _ | refine Qw.al ?_ _ | refine Qw.dr ?_ | refine Qw.dn ?_ _ | refine Qw.sc ?_ (by first | (simp; done) | omega | (simp; omega)) _))) (HPr.out.kept (by repeat (first | exact Qw.refl _ | refine Qw.al ?_ _ | refine Qw.dr ?_ | refine Qw.dn ?_ _ | refine Qw.sc ?_ (by first | (simp; done) | omega | (simp; omega)) _))) (Tc.kept HTr.out (by repeat (first | exact Qw.refl _ | refine Qw.al ?_ _ | refine Qw.dr ?_ | refine Qw.dn ?_ _ | refine Qw.sc ?_ (by first | (simp; done) | omega | (simp; omega)) _)))).mono ?_); rintro e w' ⟨rfl, q⟩; replace X := Lib.hid (X.out.kept (Qw.trans (by repeat (first | exact Qw.refl _ | refine Qw.al ?_ _ | refine Qw.dr ?_ | refine Qw.dn ?_ _ | refine Qw.sc ?_ (by first | (simp; done) | omega | (simp; omega)) _)) q)); replace Y := Lib.hid (Y.out.kept (Qw.trans (by repeat (first | exact Qw.refl _ | refine Qw.al ?_ _ | refine Qw.dr ?_ | refine Qw.dn ?_ _ | refine Qw.sc ?_ (by first | (simp; done) | omega | (simp; omega)) _)) q)); have yf := Y.out.free i; have yc := Y.out.cell' i _ huo.out; replace q0 : Hid (Qw w w') := Lib.hid (Qw.trans (by repeat (first | exact q0.out | exact Qw.refl _ | refine Qw.al ?_ _ | refine Qw.dr ?_ | refine Qw.dn ?_ _ | refine Qw.sc ?_ (by first | (simp; done) | omega | (have := q0.out.size; first | omega | (simp; omega))) _)) q); clear q))
          go_roundg (ks.length - (i + 1))
          case measure => omega
          case rel => exact ⟨i + 1, by omega, rfl, by go_num, eF, Lib.hid (X.out.other (by simp) _), Lib.hid (by have := Y.out.set i (.int .i64 v1); rwa [EK.out] at this), Qw.sc q0.out (by simp) _⟩
        · have eE := Lib.hid (val_err hlt hT.out hv (o : Int) n)
          have hvn : ((Ev.val s ks[i]).2 != 0) = true := by simpa using hv
          have CR := Lib.hid cr
          clear cr eM eK hc hkk hT hv
          have eR := Lib.hid (Prod.mk.inj (hR.out.symm.trans eE.out))
          clear eE
          generalize (Ev.val s ks[i]).1 = v1 at *
          generalize (Ev.val s ks[i]).2 = v2 at *
          go_wp2_with (go_at_call 33; ((with_reducible refine (CR.out _ (KidsB.kept KK.out (by repeat (first | exact Qw.refl _ | refine Qw.al ?_ _ | refine Qw.dr ?_ | refine Qw.dn ?_ _ | refine Qw.sc ?_ (by first | (simp; done) | omega | (simp; omega)) _))) (HPr.out.kept (by repeat (first | exact Qw.refl _ | refine Qw.al ?_ _ | refine Qw.dr ?_ | refine Qw.dn ?_ _ | refine Qw.sc ?_ (by first | (simp; done) | omega | (simp; omega)) _))) (Tc.kept HTr.out (by repeat (first | exact Qw.refl _ | refine Qw.al ?_ _ | refine Qw.dr ?_ | refine Qw.dn ?_ _ | refine Qw.sc ?_ (by first | (simp; done) | omega | (simp; omega)) _)))).mono ?_); rintro e w' ⟨rfl, q⟩; replace q0 : Hid (Qw w w') := Lib.hid (Qw.trans (by repeat (first | exact q0.out | exact Qw.refl _ | refine Qw.al ?_ _ | refine Qw.dr ?_ | refine Qw.dn ?_ _ | refine Qw.sc ?_ (by first | (simp; done) | omega | (have := q0.out.size; first | omega | (simp; omega))) _)) q); clear q))
          go_ret2
          exact ⟨ret_iib eR.out.1.symm eR.out.2.symm, q0.out⟩
    · obtain rfl : i = ks.length := by omega
      have HPr := Lib.hid (HP.out.kept hQ)
      have HTr := Lib.hid (HT.out.kept hQ)
      have HAh := HA
      clear hQ HP HT HK IH
      have hb : ¬ (ks.length : Int) < (ks.length : Int) := by omega
      have hF := hT.out
      replace Y := Y.out
      rw [List.take_length] at hF Y
      have eV := val_opv (n := n) hF o
      rw [hR.out] at eV
      have bl : ∀ v ∈ ks.map (Ev.val s), Ev.Bd v.1 := fun v hv => by
        obtain ⟨x, hx, rfl⟩ := List.mem_map.1 hv
        exact Ev.val_bd hg x (HAh.out x hx)
      obtain ⟨a1, a2⟩ := Ev.kv_bd bl 0
      obtain ⟨b1, b2⟩ := Ev.kv_bd bl 1
      have y0 : wr.cell? ⟨w.heap.size + 1, 0, none⟩ = some (.int .i64 (Ev.kv (ks.map (Ev.val s)) 0)) := Y.cell' 0 _ rfl
      have y1 : wr.cell? ⟨w.heap.size + 1, 1, none⟩ = some (.int .i64 (Ev.kv (ks.map (Ev.val s)) 1)) := Y.cell' 1 _ rfl
      clear bl hF hT Y hR hlN hl2 HAh HA
      generalize Ev.kv (ks.map (Ev.val s)) 0 = A at *
      generalize Ev.kv (ks.map (Ev.val s)) 1 = D at *
      have hcs : o = 0 ∨ o = 1 ∨ o = 2 ∨ o = 3 ∨ o = 4 ∨ o = 5 ∨ o = 6 ∨ o = 7 ∨ o = 8 ∨ o = 9 ∨ o = 10 ∨ o = 11 ∨ o = 12 ∨ o = 13 ∨ o = 14 ∨ o = 15 ∨ o = 16 ∨ o = 17 ∨ o = 18 ∨ o = 19 ∨ o = 20 ∨ o = 21 ∨ o = 22 ∨ o = 23 ∨ o = 24 ∨ o = 25 := by omega
      clear ho
      rcases hcs with rfl | rfl | rfl | rfl | rfl | rfl | rfl | rfl | rfl | rfl | rfl | rfl | rfl | rfl | rfl | rfl | rfl | rfl | rfl | rfl | rfl | rfl | rfl | rfl | rfl | rfl
      · have x0 : wr.cell? ⟨w.heap.size, 0, none⟩ = some (.int .i64 0) := X.out.cell' 0 _ rfl
        have x1 : wr.cell? ⟨w.heap.size, 1, none⟩ = some (.int .i64 n) := X.out.cell' 1 _ rfl
        have E : Hid (rv = n ∧ re = 0) := Lib.hid (Prod.mk.inj eV)
        clear eV
        go_wp2_with fail
        refine region_deep (by kernel_rfl) (by as_aux_lemma => kernel_rfl) ?_
        repeat (go_big_quiet_step (fail))
        refine wpQuiet_nil ?_
        intro _ hw'
        obtain ⟨nq, hw''⟩ := hw'
        subst hw''
        go_wp2_with fail
        go_ret2
        exact ⟨ret_iib E.out.1.symm E.out.2.symm, (by repeat (first | exact q0.out | exact Qw.refl _ | refine Qw.al ?_ _ | refine Qw.dr ?_ | refine Qw.dn ?_ _ | refine Qw.sc ?_ (by first | (simp; done) | omega | (have := q0.out.size; first | omega | (simp; omega))) _))⟩
      · have x0 : wr.cell? ⟨w.heap.size, 0, none⟩ = some (.int .i64 1) := X.out.cell' 0 _ rfl
        have E : Hid (rv = (Ev.varv s A).1 ∧ re = (Ev.varv s A).2) := Lib.hid (Prod.mk.inj eV)
        clear eV
        have C := Lib.hid (fun (w1 : World) (h : Pst w1 B L cap s) => evVariable h A)
        generalize (Ev.varv s A).1 = vv at *
        generalize (Ev.varv s A).2 = ee at *
        go_wp2_with fail
        refine region_deep (by kernel_rfl) (by as_aux_lemma => kernel_rfl) ?_
        repeat (go_big_quiet_step (fail))
        refine wpQuiet_nil ?_
        intro _ hw'
        obtain ⟨nq, hw''⟩ := hw'
        subst hw''
        go_wp2_with (go_at_call 43; ((with_reducible refine (C.out _ (HPr.out.kept (by repeat (first | exact Qw.refl _ | refine Qw.dn ?_ _)))).mono ?_); rintro e w' ⟨rfl, q⟩; replace q0 : Hid (Qw w w') := Lib.hid (Qw.trans (by repeat (first | exact q0.out | exact Qw.refl _ | refine Qw.al ?_ _ | refine Qw.dr ?_ | refine Qw.dn ?_ _ | refine Qw.sc ?_ (by first | (simp; done) | omega | (have := q0.out.size; first | omega | (simp; omega))) _)) q); clear q))
        go_ret2
        exact ⟨ret_iib E.out.1.symm E.out.2.symm, (by repeat (first | exact q0.out | exact Qw.refl _ | refine Qw.al ?_ _ | refine Qw.dr ?_ | refine Qw.dn ?_ _ | refine Qw.sc ?_ (by first | (simp; done) | omega | (have := q0.out.size; first | omega | (simp; omega))) _))⟩
      · have x0 : wr.cell? ⟨w.heap.size, 0, none⟩ = some (.int .i64 2) := X.out.cell' 0 _ rfl
        have E : Hid (rv = (-A) ∧ re = 0) := Lib.hid (Prod.mk.inj eV)
        clear eV
        have nA : IntKind.i64.wrap (-A) = -A := IntWalk.i64_in _ (by omega)
        go_wp2_with fail
        refine region_deep (by kernel_rfl) (by as_aux_lemma => kernel_rfl) ?_
        repeat (go_big_quiet_step (fail))
        refine wpQuiet_nil ?_
        intro _ hw'
        obtain ⟨nq, hw''⟩ := hw'
        subst hw''
        go_wp2_with fail
        go_ret2
        exact ⟨ret_iib E.out.1.symm E.out.2.symm, (by repeat (first | exact q0.out | exact Qw.refl _ | refine Qw.al ?_ _ | refine Qw.dr ?_ | refine Qw.dn ?_ _ | refine Qw.sc ?_ (by first | (simp; done) | omega | (have := q0.out.size; first | omega | (simp; omega))) _))⟩
      · have x0 : wr.cell? ⟨w.heap.size, 0, none⟩ = some (.int .i64 3) := X.out.cell' 0 _ rfl
        have E : Hid (rv = (addv A D) ∧ re = (adde A D)) := Lib.hid (Prod.mk.inj eV)
        clear eV
        have C := Lib.hid (fun (w1 : World) => fxAdd A D w1)
        generalize (addv A D) = vv at *
        generalize (adde A D) = ee at *
        go_wp2_with fail
        refine region_deep (by kernel_rfl) (by as_aux_lemma => kernel_rfl) ?_
        repeat (go_big_quiet_step (fail))
        refine wpQuiet_nil ?_
        intro _ hw'
        obtain ⟨nq, hw''⟩ := hw'
        subst hw''
        go_wp2_with fail
        refine code_of (fun z => Qw wr z) (by repeat (first | exact Qw.refl _ | refine Qw.dn ?_ _)) ?_
        intro w1 q1
        have k0 : ∀ p : Kept w1, p.v.cell? ⟨w.heap.size, 0, none⟩ = some (.int .i64 3) := fun p => ((X.out.kept q1).kept p.h).cell' 0 _ rfl
        have D0 : Hid (∀ p : Kept w1, Calls Tryd.prog 51 #[] p.v fun e w' => e = .returned (.agg #[.nilFunc, .nilFunc, .nilFunc, .func (Fn.func 59) #[] #[], .func (Fn.func 60) #[] #[], .func (Fn.func 61) #[] #[], .func (Fn.func 62) #[] #[], .func (Fn.func 63) #[] #[], .nilFunc, .nilFunc, .nilFunc, .func (Fn.func 64) #[] #[], .nilFunc, .nilFunc, .nilFunc, .nilFunc, .nilFunc, .func (Fn.func 65) #[] #[], .func (Fn.func 67) #[] #[], .func (Fn.func 68) #[] #[], .func (Fn.func 69) #[] #[], .func (Fn.func 70) #[] #[], .func (Fn.func 71) #[] #[], .func (Fn.func 72) #[] #[], .func (Fn.func 73) #[] #[], .func (Fn.func 74) #[] #[]]) ∧ Qw p.v w') := Lib.hid fun p => evBinary p.v
        have D1 : Hid (∀ p : Kept w1, Calls Tryd.prog 59 #[.int .i64 A, .int .i64 D] p.v fun e w' => e = .returned (.tuple #[.int .i64 vv, .int .i64 ee]) ∧ p.v = w') := Lib.hid fun p => C.out _
        have kx : ∀ w', (Instr.index 77 (.agg #[.nilFunc, .nilFunc, .nilFunc, .func (Fn.func 59) #[] #[], .func (Fn.func 60) #[] #[], .func (Fn.func 61) #[] #[], .func (Fn.func 62) #[] #[], .func (Fn.func 63) #[] #[], .nilFunc, .nilFunc, .nilFunc, .func (Fn.func 64) #[] #[], .nilFunc, .nilFunc, .nilFunc, .nilFunc, .nilFunc, .func (Fn.func 65) #[] #[], .func (Fn.func 67) #[] #[], .func (Fn.func 68) #[] #[], .func (Fn.func 69) #[] #[], .func (Fn.func 70) #[] #[], .func (Fn.func 71) #[] #[], .func (Fn.func 72) #[] #[], .func (Fn.func 73) #[] #[], .func (Fn.func 74) #[] #[]]) (.int .i64 3)).run Tryd.prog w' = .ok (.func (Fn.func 59) #[] #[]) w' := fun w' => by kernel_rfl
        replace q0 := Lib.hid (Qw.trans q0.out q1)
        refine region_kept (by kernel_rfl) (by kernel_rfl) ?_
        repeat (go_big_quiet_step (first | (go_at_call 51; with_reducible exact Kept.call (D0.out _)) | (go_at_call 59; with_reducible exact Kept.same (D1.out _))))
        refine wpQuiet_nil ?_
        intro w2 q
        go_wp2_with fail
        go_ret2
        exact ⟨ret_iib E.out.1.symm E.out.2.symm, q0.out.trans q⟩
      · have x0 : wr.cell? ⟨w.heap.size, 0, none⟩ = some (.int .i64 4) := X.out.cell' 0 _ rfl
        have E : Hid (rv = (subv A D) ∧ re = (sube A D)) := Lib.hid (Prod.mk.inj eV)
        clear eV
        have C := Lib.hid (fun (w1 : World) => fxSub A D w1)
        generalize (subv A D) = vv at *
        generalize (sube A D) = ee at *
        go_wp2_with fail
        refine region_deep (by kernel_rfl) (by as_aux_lemma => kernel_rfl) ?_
        repeat (go_big_quiet_step (fail))
        refine wpQuiet_nil ?_
        intro _ hw'
        obtain ⟨nq, hw''⟩ := hw'
        subst hw''
        go_wp2_with fail
        refine code_of (fun z => Qw wr z) (by repeat (first | exact Qw.refl _ | refine Qw.dn ?_ _)) ?_
        intro w1 q1
        have k0 : ∀ p : Kept w1, p.v.cell? ⟨w.heap.size, 0, none⟩ = some (.int .i64 4) := fun p => ((X.out.kept q1).kept p.h).cell' 0 _ rfl
        have D0 : Hid (∀ p : Kept w1, Calls Tryd.prog 51 #[] p.v fun e w' => e = .returned (.agg #[.nilFunc, .nilFunc, .nilFunc, .func (Fn.func 59) #[] #[], .func (Fn.func 60) #[] #[], .func (Fn.func 61) #[] #[], .func (Fn.func 62) #[] #[], .func (Fn.func 63) #[] #[], .nilFunc, .nilFunc, .nilFunc, .func (Fn.func 64) #[] #[], .nilFunc, .nilFunc, .nilFunc, .nilFunc, .nilFunc, .func (Fn.func 65) #[] #[], .func (Fn.func 67) #[] #[], .func (Fn.func 68) #[] #[], .func (Fn.func 69) #[] #[], .func (Fn.func 70) #[] #[], .func (Fn.func 71) #[] #[], .func (Fn.func 72) #[] #[], .func (Fn.func 73) #[] #[], .func (Fn.func 74) #[] #[]]) ∧ Qw p.v w') := Lib.hid fun p => evBinary p.v
        have D1 : Hid (∀ p : Kept w1, Calls Tryd.prog 60 #[.int .i64 A, .int .i64 D] p.v fun e w' => e = .returned (.tuple #[.int .i64 vv, .int .i64 ee]) ∧ p.v = w') := Lib.hid fun p => C.out _
        have kx : ∀ w', (Instr.index 77 (.agg #[.nilFunc, .nilFunc, .nilFunc, .func (Fn.func 59) #[] #[], .func (Fn.func 60) #[] #[], .func (Fn.func 61) #[] #[], .func (Fn.func 62) #[] #[], .func (Fn.func 63) #[] #[], .nilFunc, .nilFunc, .nilFunc, .func (Fn.func 64) #[] #[], .nilFunc, .nilFunc, .nilFunc, .nilFunc, .nilFunc, .func (Fn.func 65) #[] #[], .func (Fn.func 67) #[] #[], .func (Fn.func 68) #[] #[], .func (Fn.func 69) #[] #[], .func (Fn.func 70) #[] #[], .func (Fn.func 71) #[] #[], .func (Fn.func 72) #[] #[], .func (Fn.func 73) #[] #[], .func (Fn.func 74) #[] #[]]) (.int .i64 4)).run Tryd.prog w' = .ok (.func (Fn.func 60) #[] #[]) w' := fun w' => by kernel_rfl
        replace q0 := Lib.hid (Qw.trans q0.out q1)
        refine region_kept (by kernel_rfl) (by kernel_rfl) ?_
        repeat (go_big_quiet_step (first | (go_at_call 51; with_reducible exact Kept.call (D0.out _)) | (go_at_call 60; with_reducible exact Kept.same (D1.out _))))
        refine wpQuiet_nil ?_
        intro w2 q
        go_wp2_with fail
        go_ret2
        exact ⟨ret_iib E.out.1.symm E.out.2.symm, q0.out.trans q⟩
      · have x0 : wr.cell? ⟨w.heap.size, 0, none⟩ = some (.int .i64 5) := X.out.cell' 0 _ rfl
        have E : Hid (rv = (mulv A D) ∧ re = (mule A D)) := Lib.hid (Prod.mk.inj eV)
        clear eV
        have C := Lib.hid (fun (w1 : World) => fxMul A D w1)
        generalize (mulv A D) = vv at *
        generalize (mule A D) = ee at *
        go_wp2_with fail
        refine region_deep (by kernel_rfl) (by as_aux_lemma => kernel_rfl) ?_
        repeat (go_big_quiet_step (fail))
        refine wpQuiet_nil ?_
        intro _ hw'
        obtain ⟨nq, hw''⟩ := hw'
        subst hw''
        go_wp2_with fail
        refine code_of (fun z => Qw wr z) (by repeat (first | exact Qw.refl _ | refine Qw.dn ?_ _)) ?_
        intro w1 q1
        have k0 : ∀ p : Kept w1, p.v.cell? ⟨w.heap.size, 0, none⟩ = some (.int .i64 5) := fun p => ((X.out.kept q1).kept p.h).cell' 0 _ rfl
        have D0 : Hid (∀ p : Kept w1, Calls Tryd.prog 51 #[] p.v fun e w' => e = .returned (.agg #[.nilFunc, .nilFunc, .nilFunc, .func (Fn.func 59) #[] #[], .func (Fn.func 60) #[] #[], .func (Fn.func 61) #[] #[], .func (Fn.func 62) #[] #[], .func (Fn.func 63) #[] #[], .nilFunc, .nilFunc, .nilFunc, .func (Fn.func 64) #[] #[], .nilFunc, .nilFunc, .nilFunc, .nilFunc, .nilFunc, .func (Fn.func 65) #[] #[], .func (Fn.func 67) #[] #[], .func (Fn.func 68) #[] #[], .func (Fn.func 69) #[] #[], .func (Fn.func 70) #[] #[], .func (Fn.func 71) #[] #[], .func (Fn.func 72) #[] #[], .func (Fn.func 73) #[] #[], .func (Fn.func 74) #[] #[]]) ∧ Qw p.v w') := Lib.hid fun p => evBinary p.v
        have D1 : Hid (∀ p : Kept w1, Calls Tryd.prog 61 #[.int .i64 A, .int .i64 D] p.v fun e w' => e = .returned (.tuple #[.int .i64 vv, .int .i64 ee]) ∧ Qw p.v w') := Lib.hid fun p => C.out _
        have kx : ∀ w', (Instr.index 77 (.agg #[.nilFunc, .nilFunc, .nilFunc, .func (Fn.func 59) #[] #[], .func (Fn.func 60) #[] #[], .func (Fn.func 61) #[] #[], .func (Fn.func 62) #[] #[], .func (Fn.func 63) #[] #[], .nilFunc, .nilFunc, .nilFunc, .func (Fn.func 64) #[] #[], .nilFunc, .nilFunc, .nilFunc, .nilFunc, .nilFunc, .func (Fn.func 65) #[] #[], .func (Fn.func 67) #[] #[], .func (Fn.func 68) #[] #[], .func (Fn.func 69) #[] #[], .func (Fn.func 70) #[] #[], .func (Fn.func 71) #[] #[], .func (Fn.func 72) #[] #[], .func (Fn.func 73) #[] #[], .func (Fn.func 74) #[] #[]]) (.int .i64 5)).run Tryd.prog w' = .ok (.func (Fn.func 61) #[] #[]) w' := fun w' => by kernel_rfl
        replace q0 := Lib.hid (Qw.trans q0.out q1)
        refine region_kept (by kernel_rfl) (by kernel_rfl) ?_
        repeat (go_big_quiet_step (first | (go_at_call 51; with_reducible exact Kept.call (D0.out _)) | (go_at_call 61; with_reducible exact Kept.call (D1.out _))))
        refine wpQuiet_nil ?_
        intro w2 q
        go_wp2_with fail
        go_ret2
        exact ⟨ret_iib E.out.1.symm E.out.2.symm, q0.out.trans q⟩
      · have x0 : wr.cell? ⟨w.heap.size, 0, none⟩ = some (.int .i64 6) := X.out.cell' 0 _ rfl
        have E : Hid (rv = (divv A D) ∧ re = (dive A D)) := Lib.hid (Prod.mk.inj eV)
        clear eV
        have C := Lib.hid (fun (w1 : World) => fxDiv A D w1)
        generalize (divv A D) = vv at *
        generalize (dive A D) = ee at *
        go_wp2_with fail
        refine region_deep (by kernel_rfl) (by as_aux_lemma => kernel_rfl) ?_
        repeat (go_big_quiet_step (fail))
        refine wpQuiet_nil ?_
        intro _ hw'
        obtain ⟨nq, hw''⟩ := hw'
        subst hw''
        go_wp2_with fail
        refine code_of (fun z => Qw wr z) (by repeat (first | exact Qw.refl _ | refine Qw.dn ?_ _)) ?_
        intro w1 q1
        have k0 : ∀ p : Kept w1, p.v.cell? ⟨w.heap.size, 0, none⟩ = some (.int .i64 6) := fun p => ((X.out.kept q1).kept p.h).cell' 0 _ rfl
        have D0 : Hid (∀ p : Kept w1, Calls Tryd.prog 51 #[] p.v fun e w' => e = .returned (.agg #[.nilFunc, .nilFunc, .nilFunc, .func (Fn.func 59) #[] #[], .func (Fn.func 60) #[] #[], .func (Fn.func 61) #[] #[], .func (Fn.func 62) #[] #[], .func (Fn.func 63) #[] #[], .nilFunc, .nilFunc, .nilFunc, .func (Fn.func 64) #[] #[], .nilFunc, .nilFunc, .nilFunc, .nilFunc, .nilFunc, .func (Fn.func 65) #[] #[], .func (Fn.func 67) #[] #[], .func (Fn.func 68) #[] #[], .func (Fn.func 69) #[] #[], .func (Fn.func 70) #[] #[], .func (Fn.func 71) #[] #[], .func (Fn.func 72) #[] #[], .func (Fn.func 73) #[] #[], .func (Fn.func 74) #[] #[]]) ∧ Qw p.v w') := Lib.hid fun p => evBinary p.v
        have D1 : Hid (∀ p : Kept w1, Calls Tryd.prog 62 #[.int .i64 A, .int .i64 D] p.v fun e w' => e = .returned (.tuple #[.int .i64 vv, .int .i64 ee]) ∧ Qw p.v w') := Lib.hid fun p => C.out _
        have kx : ∀ w', (Instr.index 77 (.agg #[.nilFunc, .nilFunc, .nilFunc, .func (Fn.func 59) #[] #[], .func (Fn.func 60) #[] #[], .func (Fn.func 61) #[] #[], .func (Fn.func 62) #[] #[], .func (Fn.func 63) #[] #[], .nilFunc, .nilFunc, .nilFunc, .func (Fn.func 64) #[] #[], .nilFunc, .nilFunc, .nilFunc, .nilFunc, .nilFunc, .func (Fn.func 65) #[] #[], .func (Fn.func 67) #[] #[], .func (Fn.func 68) #[] #[], .func (Fn.func 69) #[] #[], .func (Fn.func 70) #[] #[], .func (Fn.func 71) #[] #[], .func (Fn.func 72) #[] #[], .func (Fn.func 73) #[] #[], .func (Fn.func 74) #[] #[]]) (.int .i64 6)).run Tryd.prog w' = .ok (.func (Fn.func 62) #[] #[]) w' := fun w' => by kernel_rfl
        replace q0 := Lib.hid (Qw.trans q0.out q1)
        refine region_kept (by kernel_rfl) (by kernel_rfl) ?_
        repeat (go_big_quiet_step (first | (go_at_call 51; with_reducible exact Kept.call (D0.out _)) | (go_at_call 62; with_reducible exact Kept.call (D1.out _))))
        refine wpQuiet_nil ?_
        intro w2 q
        go_wp2_with fail
        go_ret2
        exact ⟨ret_iib E.out.1.symm E.out.2.symm, q0.out.trans q⟩
      · have x0 : wr.cell? ⟨w.heap.size, 0, none⟩ = some (.int .i64 7) := X.out.cell' 0 _ rfl
        have E : Hid (rv = (modv A D) ∧ re = (dve A D)) := Lib.hid (Prod.mk.inj eV)
        clear eV
        have C := Lib.hid (fun (w1 : World) => fxMod A D w1)
        generalize (modv A D) = vv at *
        generalize (dve A D) = ee at *
        go_wp2_with fail
        refine region_deep (by kernel_rfl) (by as_aux_lemma => kernel_rfl) ?_
        repeat (go_big_quiet_step (fail))
        refine wpQuiet_nil ?_
        intro _ hw'
        obtain ⟨nq, hw''⟩ := hw'
        subst hw''
        go_wp2_with fail
        refine code_of (fun z => Qw wr z) (by repeat (first | exact Qw.refl _ | refine Qw.dn ?_ _)) ?_
        intro w1 q1
        have k0 : ∀ p : Kept w1, p.v.cell? ⟨w.heap.size, 0, none⟩ = some (.int .i64 7) := fun p => ((X.out.kept q1).kept p.h).cell' 0 _ rfl
        have D0 : Hid (∀ p : Kept w1, Calls Tryd.prog 51 #[] p.v fun e w' => e = .returned (.agg #[.nilFunc, .nilFunc, .nilFunc, .func (Fn.func 59) #[] #[], .func (Fn.func 60) #[] #[], .func (Fn.func 61) #[] #[], .func (Fn.func 62) #[] #[], .func (Fn.func 63) #[] #[], .nilFunc, .nilFunc, .nilFunc, .func (Fn.func 64) #[] #[], .nilFunc, .nilFunc, .nilFunc, .nilFunc, .nilFunc, .func (Fn.func 65) #[] #[], .func (Fn.func 67) #[] #[], .func (Fn.func 68) #[] #[], .func (Fn.func 69) #[] #[], .func (Fn.func 70) #[] #[], .func (Fn.func 71) #[] #[], .func (Fn.func 72) #[] #[], .func (Fn.func 73) #[] #[], .func (Fn.func 74) #[] #[]]) ∧ Qw p.v w') := Lib.hid fun p => evBinary p.v
        have D1 : Hid (∀ p : Kept w1, Calls Tryd.prog 63 #[.int .i64 A, .int .i64 D] p.v fun e w' => e = .returned (.tuple #[.int .i64 vv, .int .i64 ee]) ∧ p.v = w') := Lib.hid fun p => C.out _
        have kx : ∀ w', (Instr.index 77 (.agg #[.nilFunc, .nilFunc, .nilFunc, .func (Fn.func 59) #[] #[], .func (Fn.func 60) #[] #[], .func (Fn.func 61) #[] #[], .func (Fn.func 62) #[] #[], .func (Fn.func 63) #[] #[], .nilFunc, .nilFunc, .nilFunc, .func (Fn.func 64) #[] #[], .nilFunc, .nilFunc, .nilFunc, .nilFunc, .nilFunc, .func (Fn.func 65) #[] #[], .func (Fn.func 67) #[] #[], .func (Fn.func 68) #[] #[], .func (Fn.func 69) #[] #[], .func (Fn.func 70) #[] #[], .func (Fn.func 71) #[] #[], .func (Fn.func 72) #[] #[], .func (Fn.func 73) #[] #[], .func (Fn.func 74) #[] #[]]) (.int .i64 7)).run Tryd.prog w' = .ok (.func (Fn.func 63) #[] #[]) w' := fun w' => by kernel_rfl
        replace q0 := Lib.hid (Qw.trans q0.out q1)
        refine region_kept (by kernel_rfl) (by kernel_rfl) ?_
        repeat (go_big_quiet_step (first | (go_at_call 51; with_reducible exact Kept.call (D0.out _)) | (go_at_call 63; with_reducible exact Kept.same (D1.out _))))
        refine wpQuiet_nil ?_
        intro w2 q
        go_wp2_with fail
        go_ret2
        exact ⟨ret_iib E.out.1.symm E.out.2.symm, q0.out.trans q⟩
      · have x0 : wr.cell? ⟨w.heap.size, 0, none⟩ = some (.int .i64 8) := X.out.cell' 0 _ rfl
        have E : Hid (rv = (Ev.quo (Cm.sc A).2 1073741824).1 ∧ re = (Ev.quo (Cm.sc A).2 1073741824).2) := Lib.hid (Prod.mk.inj eV)
        clear eV
        have S1 := Lib.hid (fun (w1 : World) (h : Tc w1) => co_sincos A (by omega) (by omega) w1 h)
        obtain ⟨⟨s1, s2⟩, s3, s4⟩ := sc_int A
        have C := Lib.hid (fun (w1 : World) => evScaled (Cm.sc A).2 (by omega) (by omega) w1)
        generalize (Ev.quo (Cm.sc A).2 1073741824).1 = vv at *
        generalize (Ev.quo (Cm.sc A).2 1073741824).2 = ee at *
        generalize (Cm.sc A).1 = cc at *
        generalize (Cm.sc A).2 = ss at *
        go_wp2_with fail
        refine region_deep (by kernel_rfl) (by as_aux_lemma => kernel_rfl) ?_
        repeat (go_big_quiet_step (fail))
        refine wpQuiet_nil ?_
        intro _ hw'
        obtain ⟨nq, hw''⟩ := hw'
        subst hw''
        go_wp2_with (first
          | (go_at_call 44; ((with_reducible refine (S1.out _ (HTr.out.kept (by repeat (first | exact Qw.refl _ | refine Qw.dn ?_ _)))).mono ?_); rintro e w' ⟨rfl, q⟩; replace q0 : Hid (Qw w w') := Lib.hid (Qw.trans (by repeat (first | exact q0.out | exact Qw.refl _ | refine Qw.al ?_ _ | refine Qw.dr ?_ | refine Qw.dn ?_ _ | refine Qw.sc ?_ (by first | (simp; done) | omega | (have := q0.out.size; first | omega | (simp; omega))) _)) q); clear q))
          | (go_at_call 45; ((with_reducible refine (C.out _).mono ?_); rintro e w' ⟨rfl, q⟩; replace q0 : Hid (Qw w w') := Lib.hid (Qw.trans (by repeat (first | exact q0.out | exact Qw.refl _ | refine Qw.al ?_ _ | refine Qw.dr ?_ | refine Qw.dn ?_ _ | refine Qw.sc ?_ (by first | (simp; done) | omega | (have := q0.out.size; first | omega | (simp; omega))) _)) q); clear q)))
        go_ret2
        exact ⟨ret_iib E.out.1.symm E.out.2.symm, (by repeat (first | exact q0.out | exact Qw.refl _ | refine Qw.al ?_ _ | refine Qw.dr ?_ | refine Qw.dn ?_ _ | refine Qw.sc ?_ (by first | (simp; done) | omega | (have := q0.out.size; first | omega | (simp; omega))) _))⟩
      · have x0 : wr.cell? ⟨w.heap.size, 0, none⟩ = some (.int .i64 9) := X.out.cell' 0 _ rfl
        have E : Hid (rv = (Ev.quo (Cm.sc A).1 1073741824).1 ∧ re = (Ev.quo (Cm.sc A).1 1073741824).2) := Lib.hid (Prod.mk.inj eV)
        clear eV
        have S1 := Lib.hid (fun (w1 : World) (h : Tc w1) => co_sincos A (by omega) (by omega) w1 h)
        obtain ⟨⟨s1, s2⟩, s3, s4⟩ := sc_int A
        have C := Lib.hid (fun (w1 : World) => evScaled (Cm.sc A).1 (by omega) (by omega) w1)
        generalize (Ev.quo (Cm.sc A).1 1073741824).1 = vv at *
        generalize (Ev.quo (Cm.sc A).1 1073741824).2 = ee at *
        generalize (Cm.sc A).1 = cc at *
        generalize (Cm.sc A).2 = ss at *
        go_wp2_with fail
        refine region_deep (by kernel_rfl) (by as_aux_lemma => kernel_rfl) ?_
        repeat (go_big_quiet_step (fail))
        refine wpQuiet_nil ?_
        intro _ hw'
        obtain ⟨nq, hw''⟩ := hw'
        subst hw''
        go_wp2_with (first
          | (go_at_call 44; ((with_reducible refine (S1.out _ (HTr.out.kept (by repeat (first | exact Qw.refl _ | refine Qw.dn ?_ _)))).mono ?_); rintro e w' ⟨rfl, q⟩; replace q0 : Hid (Qw w w') := Lib.hid (Qw.trans (by repeat (first | exact q0.out | exact Qw.refl _ | refine Qw.al ?_ _ | refine Qw.dr ?_ | refine Qw.dn ?_ _ | refine Qw.sc ?_ (by first | (simp; done) | omega | (have := q0.out.size; first | omega | (simp; omega))) _)) q); clear q))
          | (go_at_call 45; ((with_reducible refine (C.out _).mono ?_); rintro e w' ⟨rfl, q⟩; replace q0 : Hid (Qw w w') := Lib.hid (Qw.trans (by repeat (first | exact q0.out | exact Qw.refl _ | refine Qw.al ?_ _ | refine Qw.dr ?_ | refine Qw.dn ?_ _ | refine Qw.sc ?_ (by first | (simp; done) | omega | (have := q0.out.size; first | omega | (simp; omega))) _)) q); clear q)))
        go_ret2
        exact ⟨ret_iib E.out.1.symm E.out.2.symm, (by repeat (first | exact q0.out | exact Qw.refl _ | refine Qw.al ?_ _ | refine Qw.dr ?_ | refine Qw.dn ?_ _ | refine Qw.sc ?_ (by first | (simp; done) | omega | (have := q0.out.size; first | omega | (simp; omega))) _))⟩
      · have x0 : wr.cell? ⟨w.heap.size, 0, none⟩ = some (.int .i64 10) := X.out.cell' 0 _ rfl
        have E : Hid (rv = (Ev.tanv A).1 ∧ re = (Ev.tanv A).2) := Lib.hid (Prod.mk.inj eV)
        clear eV
        have S1 := Lib.hid (fun (w1 : World) (h : Tc w1) => co_sincos A (by omega) (by omega) w1 h)
        obtain ⟨⟨s1, s2⟩, s3, s4⟩ := sc_int A
        have C := Lib.hid (fun (w1 : World) => evTangent (Cm.sc A).2 (Cm.sc A).1 (by omega) (by omega) (by omega) (by omega) w1)
        unfold Ev.tanv at E
        generalize (if (Cm.sc A).1 = 0 then (0, 4) else Ev.quo (Cm.sc A).2 (Cm.sc A).1).1 = vv at *
        generalize (if (Cm.sc A).1 = 0 then (0, 4) else Ev.quo (Cm.sc A).2 (Cm.sc A).1).2 = ee at *
        generalize (Cm.sc A).1 = cc at *
        generalize (Cm.sc A).2 = ss at *
        go_wp2_with fail
        refine region_deep (by kernel_rfl) (by as_aux_lemma => kernel_rfl) ?_
        repeat (go_big_quiet_step (fail))
        refine wpQuiet_nil ?_
        intro _ hw'
        obtain ⟨nq, hw''⟩ := hw'
        subst hw''
        go_wp2_with (first
          | (go_at_call 44; ((with_reducible refine (S1.out _ (HTr.out.kept (by repeat (first | exact Qw.refl _ | refine Qw.dn ?_ _)))).mono ?_); rintro e w' ⟨rfl, q⟩; replace q0 : Hid (Qw w w') := Lib.hid (Qw.trans (by repeat (first | exact q0.out | exact Qw.refl _ | refine Qw.al ?_ _ | refine Qw.dr ?_ | refine Qw.dn ?_ _ | refine Qw.sc ?_ (by first | (simp; done) | omega | (have := q0.out.size; first | omega | (simp; omega))) _)) q); clear q))
          | (go_at_call 46; ((with_reducible refine (C.out _).mono ?_); rintro e w' ⟨rfl, q⟩; replace q0 : Hid (Qw w w') := Lib.hid (Qw.trans (by repeat (first | exact q0.out | exact Qw.refl _ | refine Qw.al ?_ _ | refine Qw.dr ?_ | refine Qw.dn ?_ _ | refine Qw.sc ?_ (by first | (simp; done) | omega | (have := q0.out.size; first | omega | (simp; omega))) _)) q); clear q)))
        go_ret2
        exact ⟨ret_iib E.out.1.symm E.out.2.symm, (by repeat (first | exact q0.out | exact Qw.refl _ | refine Qw.al ?_ _ | refine Qw.dr ?_ | refine Qw.dn ?_ _ | refine Qw.sc ?_ (by first | (simp; done) | omega | (have := q0.out.size; first | omega | (simp; omega))) _))⟩
      · have x0 : wr.cell? ⟨w.heap.size, 0, none⟩ = some (.int .i64 11) := X.out.cell' 0 _ rfl
        have E : Hid (rv = (Ev.dirv A D).1 ∧ re = (Ev.dirv A D).2) := Lib.hid (Prod.mk.inj eV)
        clear eV
        have C := Lib.hid (fun (w1 : World) (h : Tc w1) => evDirection A D ⟨a1, a2⟩ ⟨b1, b2⟩ w1 h)
        generalize (Ev.dirv A D).1 = vv at *
        generalize (Ev.dirv A D).2 = ee at *
        go_wp2_with fail
        refine region_deep (by kernel_rfl) (by as_aux_lemma => kernel_rfl) ?_
        repeat (go_big_quiet_step (fail))
        refine wpQuiet_nil ?_
        intro _ hw'
        obtain ⟨nq, hw''⟩ := hw'
        subst hw''
        go_wp2_with fail
        refine code_of (fun z => Qw wr z) (by repeat (first | exact Qw.refl _ | refine Qw.dn ?_ _)) ?_
        intro w1 q1
        have k0 : ∀ p : Kept w1, p.v.cell? ⟨w.heap.size, 0, none⟩ = some (.int .i64 11) := fun p => ((X.out.kept q1).kept p.h).cell' 0 _ rfl
        have D0 : Hid (∀ p : Kept w1, Calls Tryd.prog 51 #[] p.v fun e w' => e = .returned (.agg #[.nilFunc, .nilFunc, .nilFunc, .func (Fn.func 59) #[] #[], .func (Fn.func 60) #[] #[], .func (Fn.func 61) #[] #[], .func (Fn.func 62) #[] #[], .func (Fn.func 63) #[] #[], .nilFunc, .nilFunc, .nilFunc, .func (Fn.func 64) #[] #[], .nilFunc, .nilFunc, .nilFunc, .nilFunc, .nilFunc, .func (Fn.func 65) #[] #[], .func (Fn.func 67) #[] #[], .func (Fn.func 68) #[] #[], .func (Fn.func 69) #[] #[], .func (Fn.func 70) #[] #[], .func (Fn.func 71) #[] #[], .func (Fn.func 72) #[] #[], .func (Fn.func 73) #[] #[], .func (Fn.func 74) #[] #[]]) ∧ Qw p.v w') := Lib.hid fun p => evBinary p.v
        have D1 : Hid (∀ p : Kept w1, Calls Tryd.prog 64 #[.int .i64 A, .int .i64 D] p.v fun e w' => e = .returned (.tuple #[.int .i64 vv, .int .i64 ee]) ∧ Qw p.v w') := Lib.hid fun p => C.out _ (HTr.out.kept (q1.trans p.h))
        have kx : ∀ w', (Instr.index 77 (.agg #[.nilFunc, .nilFunc, .nilFunc, .func (Fn.func 59) #[] #[], .func (Fn.func 60) #[] #[], .func (Fn.func 61) #[] #[], .func (Fn.func 62) #[] #[], .func (Fn.func 63) #[] #[], .nilFunc, .nilFunc, .nilFunc, .func (Fn.func 64) #[] #[], .nilFunc, .nilFunc, .nilFunc, .nilFunc, .nilFunc, .func (Fn.func 65) #[] #[], .func (Fn.func 67) #[] #[], .func (Fn.func 68) #[] #[], .func (Fn.func 69) #[] #[], .func (Fn.func 70) #[] #[], .func (Fn.func 71) #[] #[], .func (Fn.func 72) #[] #[], .func (Fn.func 73) #[] #[], .func (Fn.func 74) #[] #[]]) (.int .i64 11)).run Tryd.prog w' = .ok (.func (Fn.func 64) #[] #[]) w' := fun w' => by kernel_rfl
        replace q0 := Lib.hid (Qw.trans q0.out q1)
        refine region_kept (by kernel_rfl) (by kernel_rfl) ?_
        repeat (go_big_quiet_step (first | (go_at_call 51; with_reducible exact Kept.call (D0.out _)) | (go_at_call 64; with_reducible exact Kept.call (D1.out _))))
        refine wpQuiet_nil ?_
        intro w2 q
        go_wp2_with fail
        go_ret2
        exact ⟨ret_iib E.out.1.symm E.out.2.symm, q0.out.trans q⟩
      · have x0 : wr.cell? ⟨w.heap.size, 0, none⟩ = some (.int .i64 12) := X.out.cell' 0 _ rfl
        have E : Hid (rv = (sqv A) ∧ re = (sqe A)) := Lib.hid (Prod.mk.inj eV)
        clear eV
        have C := Lib.hid (fun (w1 : World) => fxSqrt A w1)
        generalize (sqv A) = vv at *
        generalize (sqe A) = ee at *
        go_wp2_with fail
        refine region_deep (by kernel_rfl) (by as_aux_lemma => kernel_rfl) ?_
        repeat (go_big_quiet_step (fail))
        refine wpQuiet_nil ?_
        intro _ hw'
        obtain ⟨nq, hw''⟩ := hw'
        subst hw''
        go_wp2_with (go_at_call 47; ((with_reducible refine (C.out _).mono ?_); rintro e w' ⟨rfl, q⟩; replace q0 : Hid (Qw w w') := Lib.hid (Qw.trans (by repeat (first | exact q0.out | exact Qw.refl _ | refine Qw.al ?_ _ | refine Qw.dr ?_ | refine Qw.dn ?_ _ | refine Qw.sc ?_ (by first | (simp; done) | omega | (have := q0.out.size; first | omega | (simp; omega))) _)) q); clear q))
        go_ret2
        exact ⟨ret_iib E.out.1.symm E.out.2.symm, (by repeat (first | exact q0.out | exact Qw.refl _ | refine Qw.al ?_ _ | refine Qw.dr ?_ | refine Qw.dn ?_ _ | refine Qw.sc ?_ (by first | (simp; done) | omega | (have := q0.out.size; first | omega | (simp; omega))) _))⟩
      · have x0 : wr.cell? ⟨w.heap.size, 0, none⟩ = some (.int .i64 13) := X.out.cell' 0 _ rfl
        have E : Hid (rv = (max A (-A)) ∧ re = 0) := Lib.hid (Prod.mk.inj eV)
        clear eV
        have nA : IntKind.i64.wrap (-A) = -A := IntWalk.i64_in _ (by omega)
        go_wp2_with fail
        refine region_deep (by kernel_rfl) (by as_aux_lemma => kernel_rfl) ?_
        repeat (go_big_quiet_step (fail))
        refine wpQuiet_nil ?_
        intro _ hw'
        obtain ⟨nq, hw''⟩ := hw'
        subst hw''
        go_wp2_with fail
        go_ret2
        exact ⟨ret_iib E.out.1.symm E.out.2.symm, (by repeat (first | exact q0.out | exact Qw.refl _ | refine Qw.al ?_ _ | refine Qw.dr ?_ | refine Qw.dn ?_ _ | refine Qw.sc ?_ (by first | (simp; done) | omega | (have := q0.out.size; first | omega | (simp; omega))) _))⟩
      · have x0 : wr.cell? ⟨w.heap.size, 0, none⟩ = some (.int .i64 14) := X.out.cell' 0 _ rfl
        have E : Hid (rv = (roundv A) ∧ re = (arge A)) := Lib.hid (Prod.mk.inj eV)
        clear eV
        have C := Lib.hid (fun (w1 : World) => fxRound A w1)
        generalize (roundv A) = vv at *
        generalize (arge A) = ee at *
        go_wp2_with fail
        refine region_deep (by kernel_rfl) (by as_aux_lemma => kernel_rfl) ?_
        repeat (go_big_quiet_step (fail))
        refine wpQuiet_nil ?_
        intro _ hw'
        obtain ⟨nq, hw''⟩ := hw'
        subst hw''
        go_wp2_with (go_at_call 48; ((with_reducible refine (C.out _).mono ?_); rintro e w' ⟨rfl, q⟩; replace q0 : Hid (Qw w w') := Lib.hid (Qw.trans (by repeat (first | exact q0.out | exact Qw.refl _ | refine Qw.al ?_ _ | refine Qw.dr ?_ | refine Qw.dn ?_ _ | refine Qw.sc ?_ (by first | (simp; done) | omega | (have := q0.out.size; first | omega | (simp; omega))) _)) q); clear q))
        go_ret2
        exact ⟨ret_iib E.out.1.symm E.out.2.symm, (by repeat (first | exact q0.out | exact Qw.refl _ | refine Qw.al ?_ _ | refine Qw.dr ?_ | refine Qw.dn ?_ _ | refine Qw.sc ?_ (by first | (simp; done) | omega | (have := q0.out.size; first | omega | (simp; omega))) _))⟩
      · have x0 : wr.cell? ⟨w.heap.size, 0, none⟩ = some (.int .i64 15) := X.out.cell' 0 _ rfl
        have E : Hid (rv = (fixv A) ∧ re = (arge A)) := Lib.hid (Prod.mk.inj eV)
        clear eV
        have C := Lib.hid (fun (w1 : World) => fxFix A w1)
        generalize (fixv A) = vv at *
        generalize (arge A) = ee at *
        go_wp2_with fail
        refine region_deep (by kernel_rfl) (by as_aux_lemma => kernel_rfl) ?_
        repeat (go_big_quiet_step (fail))
        refine wpQuiet_nil ?_
        intro _ hw'
        obtain ⟨nq, hw''⟩ := hw'
        subst hw''
        go_wp2_with (go_at_call 49; ((with_reducible refine (C.out _).mono ?_); rintro e w' ⟨rfl, q⟩; replace q0 : Hid (Qw w w') := Lib.hid (Qw.trans (by repeat (first | exact q0.out | exact Qw.refl _ | refine Qw.al ?_ _ | refine Qw.dr ?_ | refine Qw.dn ?_ _ | refine Qw.sc ?_ (by first | (simp; done) | omega | (have := q0.out.size; first | omega | (simp; omega))) _)) q); clear q))
        go_ret2
        exact ⟨ret_iib E.out.1.symm E.out.2.symm, (by repeat (first | exact q0.out | exact Qw.refl _ | refine Qw.al ?_ _ | refine Qw.dr ?_ | refine Qw.dn ?_ _ | refine Qw.sc ?_ (by first | (simp; done) | omega | (have := q0.out.size; first | omega | (simp; omega))) _))⟩
      · have x0 : wr.cell? ⟨w.heap.size, 0, none⟩ = some (.int .i64 16) := X.out.cell' 0 _ rfl
        have E : Hid (rv = (fupv A) ∧ re = (arge A)) := Lib.hid (Prod.mk.inj eV)
        clear eV
        have C := Lib.hid (fun (w1 : World) => fxFup A w1)
        generalize (fupv A) = vv at *
        generalize (arge A) = ee at *
        go_wp2_with fail
        refine region_deep (by kernel_rfl) (by as_aux_lemma => kernel_rfl) ?_
        repeat (go_big_quiet_step (fail))
        refine wpQuiet_nil ?_
        intro _ hw'
        obtain ⟨nq, hw''⟩ := hw'
        subst hw''
        go_wp2_with (go_at_call 50; ((with_reducible refine (C.out _).mono ?_); rintro e w' ⟨rfl, q⟩; replace q0 : Hid (Qw w w') := Lib.hid (Qw.trans (by repeat (first | exact q0.out | exact Qw.refl _ | refine Qw.al ?_ _ | refine Qw.dr ?_ | refine Qw.dn ?_ _ | refine Qw.sc ?_ (by first | (simp; done) | omega | (have := q0.out.size; first | omega | (simp; omega))) _)) q); clear q))
        go_ret2
        exact ⟨ret_iib E.out.1.symm E.out.2.symm, (by repeat (first | exact q0.out | exact Qw.refl _ | refine Qw.al ?_ _ | refine Qw.dr ?_ | refine Qw.dn ?_ _ | refine Qw.sc ?_ (by first | (simp; done) | omega | (have := q0.out.size; first | omega | (simp; omega))) _))⟩
      · have x0 : wr.cell? ⟨w.heap.size, 0, none⟩ = some (.int .i64 17) := X.out.cell' 0 _ rfl
        have E : Hid (rv = (Ev.flg (A == D)).1 ∧ re = (Ev.flg (A == D)).2) := Lib.hid (Prod.mk.inj eV)
        clear eV
        have C := Lib.hid (fun (w1 : World) => evC1 A D w1)
        generalize (Ev.flg (A == D)).1 = vv at *
        generalize (Ev.flg (A == D)).2 = ee at *
        go_wp2_with fail
        refine region_deep (by kernel_rfl) (by as_aux_lemma => kernel_rfl) ?_
        repeat (go_big_quiet_step (fail))
        refine wpQuiet_nil ?_
        intro _ hw'
        obtain ⟨nq, hw''⟩ := hw'
        subst hw''
        go_wp2_with fail
        refine code_of (fun z => Qw wr z) (by repeat (first | exact Qw.refl _ | refine Qw.dn ?_ _)) ?_
        intro w1 q1
        have k0 : ∀ p : Kept w1, p.v.cell? ⟨w.heap.size, 0, none⟩ = some (.int .i64 17) := fun p => ((X.out.kept q1).kept p.h).cell' 0 _ rfl
        have D0 : Hid (∀ p : Kept w1, Calls Tryd.prog 51 #[] p.v fun e w' => e = .returned (.agg #[.nilFunc, .nilFunc, .nilFunc, .func (Fn.func 59) #[] #[], .func (Fn.func 60) #[] #[], .func (Fn.func 61) #[] #[], .func (Fn.func 62) #[] #[], .func (Fn.func 63) #[] #[], .nilFunc, .nilFunc, .nilFunc, .func (Fn.func 64) #[] #[], .nilFunc, .nilFunc, .nilFunc, .nilFunc, .nilFunc, .func (Fn.func 65) #[] #[], .func (Fn.func 67) #[] #[], .func (Fn.func 68) #[] #[], .func (Fn.func 69) #[] #[], .func (Fn.func 70) #[] #[], .func (Fn.func 71) #[] #[], .func (Fn.func 72) #[] #[], .func (Fn.func 73) #[] #[], .func (Fn.func 74) #[] #[]]) ∧ Qw p.v w') := Lib.hid fun p => evBinary p.v
        have D1 : Hid (∀ p : Kept w1, Calls Tryd.prog 65 #[.int .i64 A, .int .i64 D] p.v fun e w' => e = .returned (.tuple #[.int .i64 vv, .int .i64 ee]) ∧ p.v = w') := Lib.hid fun p => C.out _
        have kx : ∀ w', (Instr.index 77 (.agg #[.nilFunc, .nilFunc, .nilFunc, .func (Fn.func 59) #[] #[], .func (Fn.func 60) #[] #[], .func (Fn.func 61) #[] #[], .func (Fn.func 62) #[] #[], .func (Fn.func 63) #[] #[], .nilFunc, .nilFunc, .nilFunc, .func (Fn.func 64) #[] #[], .nilFunc, .nilFunc, .nilFunc, .nilFunc, .nilFunc, .func (Fn.func 65) #[] #[], .func (Fn.func 67) #[] #[], .func (Fn.func 68) #[] #[], .func (Fn.func 69) #[] #[], .func (Fn.func 70) #[] #[], .func (Fn.func 71) #[] #[], .func (Fn.func 72) #[] #[], .func (Fn.func 73) #[] #[], .func (Fn.func 74) #[] #[]]) (.int .i64 17)).run Tryd.prog w' = .ok (.func (Fn.func 65) #[] #[]) w' := fun w' => by kernel_rfl
        replace q0 := Lib.hid (Qw.trans q0.out q1)
        refine region_kept (by kernel_rfl) (by kernel_rfl) ?_
        repeat (go_big_quiet_step (first | (go_at_call 51; with_reducible exact Kept.call (D0.out _)) | (go_at_call 65; with_reducible exact Kept.same (D1.out _))))
        refine wpQuiet_nil ?_
        intro w2 q
        go_wp2_with fail
        go_ret2
        exact ⟨ret_iib E.out.1.symm E.out.2.symm, q0.out.trans q⟩
      · have x0 : wr.cell? ⟨w.heap.size, 0, none⟩ = some (.int .i64 18) := X.out.cell' 0 _ rfl
        have E : Hid (rv = (Ev.flg (A != D)).1 ∧ re = (Ev.flg (A != D)).2) := Lib.hid (Prod.mk.inj eV)
        clear eV
        have C := Lib.hid (fun (w1 : World) => evC2 A D w1)
        generalize (Ev.flg (A != D)).1 = vv at *
        generalize (Ev.flg (A != D)).2 = ee at *
        go_wp2_with fail
        refine region_deep (by kernel_rfl) (by as_aux_lemma => kernel_rfl) ?_
        repeat (go_big_quiet_step (fail))
        refine wpQuiet_nil ?_
        intro _ hw'
        obtain ⟨nq, hw''⟩ := hw'
        subst hw''
        go_wp2_with fail
        refine code_of (fun z => Qw wr z) (by repeat (first | exact Qw.refl _ | refine Qw.dn ?_ _)) ?_
        intro w1 q1
        have k0 : ∀ p : Kept w1, p.v.cell? ⟨w.heap.size, 0, none⟩ = some (.int .i64 18) := fun p => ((X.out.kept q1).kept p.h).cell' 0 _ rfl
        have D0 : Hid (∀ p : Kept w1, Calls Tryd.prog 51 #[] p.v fun e w' => e = .returned (.agg #[.nilFunc, .nilFunc, .nilFunc, .func (Fn.func 59) #[] #[], .func (Fn.func 60) #[] #[], .func (Fn.func 61) #[] #[], .func (Fn.func 62) #[] #[], .func (Fn.func 63) #[] #[], .nilFunc, .nilFunc, .nilFunc, .func (Fn.func 64) #[] #[], .nilFunc, .nilFunc, .nilFunc, .nilFunc, .nilFunc, .func (Fn.func 65) #[] #[], .func (Fn.func 67) #[] #[], .func (Fn.func 68) #[] #[], .func (Fn.func 69) #[] #[], .func (Fn.func 70) #[] #[], .func (Fn.func 71) #[] #[], .func (Fn.func 72) #[] #[], .func (Fn.func 73) #[] #[], .func (Fn.func 74) #[] #[]]) ∧ Qw p.v w') := Lib.hid fun p => evBinary p.v
        have D1 : Hid (∀ p : Kept w1, Calls Tryd.prog 67 #[.int .i64 A, .int .i64 D] p.v fun e w' => e = .returned (.tuple #[.int .i64 vv, .int .i64 ee]) ∧ p.v = w') := Lib.hid fun p => C.out _
        have kx : ∀ w', (Instr.index 77 (.agg #[.nilFunc, .nilFunc, .nilFunc, .func (Fn.func 59) #[] #[], .func (Fn.func 60) #[] #[], .func (Fn.func 61) #[] #[], .func (Fn.func 62) #[] #[], .func (Fn.func 63) #[] #[], .nilFunc, .nilFunc, .nilFunc, .func (Fn.func 64) #[] #[], .nilFunc, .nilFunc, .nilFunc, .nilFunc, .nilFunc, .func (Fn.func 65) #[] #[], .func (Fn.func 67) #[] #[], .func (Fn.func 68) #[] #[], .func (Fn.func 69) #[] #[], .func (Fn.func 70) #[] #[], .func (Fn.func 71) #[] #[], .func (Fn.func 72) #[] #[], .func (Fn.func 73) #[] #[], .func (Fn.func 74) #[] #[]]) (.int .i64 18)).run Tryd.prog w' = .ok (.func (Fn.func 67) #[] #[]) w' := fun w' => by kernel_rfl
        replace q0 := Lib.hid (Qw.trans q0.out q1)
        refine region_kept (by kernel_rfl) (by kernel_rfl) ?_
        repeat (go_big_quiet_step (first | (go_at_call 51; with_reducible exact Kept.call (D0.out _)) | (go_at_call 67; with_reducible exact Kept.same (D1.out _))))
        refine wpQuiet_nil ?_
        intro w2 q
        go_wp2_with fail
        go_ret2
        exact ⟨ret_iib E.out.1.symm E.out.2.symm, q0.out.trans q⟩
      · have x0 : wr.cell? ⟨w.heap.size, 0, none⟩ = some (.int .i64 19) := X.out.cell' 0 _ rfl
        have E : Hid (rv = (Ev.flg (decide (D < A))).1 ∧ re = (Ev.flg (decide (D < A))).2) := Lib.hid (Prod.mk.inj eV)
        clear eV
        have C := Lib.hid (fun (w1 : World) => evC3 A D w1)
        generalize (Ev.flg (decide (D < A))).1 = vv at *
        generalize (Ev.flg (decide (D < A))).2 = ee at *
        go_wp2_with fail
        refine region_deep (by kernel_rfl) (by as_aux_lemma => kernel_rfl) ?_
        repeat (go_big_quiet_step (fail))
        refine wpQuiet_nil ?_
        intro _ hw'
        obtain ⟨nq, hw''⟩ := hw'
        subst hw''
        go_wp2_with fail
        refine code_of (fun z => Qw wr z) (by repeat (first | exact Qw.refl _ | refine Qw.dn ?_ _)) ?_
        intro w1 q1
        have k0 : ∀ p : Kept w1, p.v.cell? ⟨w.heap.size, 0, none⟩ = some (.int .i64 19) := fun p => ((X.out.kept q1).kept p.h).cell' 0 _ rfl
        have D0 : Hid (∀ p : Kept w1, Calls Tryd.prog 51 #[] p.v fun e w' => e = .returned (.agg #[.nilFunc, .nilFunc, .nilFunc, .func (Fn.func 59) #[] #[], .func (Fn.func 60) #[] #[], .func (Fn.func 61) #[] #[], .func (Fn.func 62) #[] #[], .func (Fn.func 63) #[] #[], .nilFunc, .nilFunc, .nilFunc, .func (Fn.func 64) #[] #[], .nilFunc, .nilFunc, .nilFunc, .nilFunc, .nilFunc, .func (Fn.func 65) #[] #[], .func (Fn.func 67) #[] #[], .func (Fn.func 68) #[] #[], .func (Fn.func 69) #[] #[], .func (Fn.func 70) #[] #[], .func (Fn.func 71) #[] #[], .func (Fn.func 72) #[] #[], .func (Fn.func 73) #[] #[], .func (Fn.func 74) #[] #[]]) ∧ Qw p.v w') := Lib.hid fun p => evBinary p.v
        have D1 : Hid (∀ p : Kept w1, Calls Tryd.prog 68 #[.int .i64 A, .int .i64 D] p.v fun e w' => e = .returned (.tuple #[.int .i64 vv, .int .i64 ee]) ∧ p.v = w') := Lib.hid fun p => C.out _
        have kx : ∀ w', (Instr.index 77 (.agg #[.nilFunc, .nilFunc, .nilFunc, .func (Fn.func 59) #[] #[], .func (Fn.func 60) #[] #[], .func (Fn.func 61) #[] #[], .func (Fn.func 62) #[] #[], .func (Fn.func 63) #[] #[], .nilFunc, .nilFunc, .nilFunc, .func (Fn.func 64) #[] #[], .nilFunc, .nilFunc, .nilFunc, .nilFunc, .nilFunc, .func (Fn.func 65) #[] #[], .func (Fn.func 67) #[] #[], .func (Fn.func 68) #[] #[], .func (Fn.func 69) #[] #[], .func (Fn.func 70) #[] #[], .func (Fn.func 71) #[] #[], .func (Fn.func 72) #[] #[], .func (Fn.func 73) #[] #[], .func (Fn.func 74) #[] #[]]) (.int .i64 19)).run Tryd.prog w' = .ok (.func (Fn.func 68) #[] #[]) w' := fun w' => by kernel_rfl
        replace q0 := Lib.hid (Qw.trans q0.out q1)
        refine region_kept (by kernel_rfl) (by kernel_rfl) ?_
        repeat (go_big_quiet_step (first | (go_at_call 51; with_reducible exact Kept.call (D0.out _)) | (go_at_call 68; with_reducible exact Kept.same (D1.out _))))
        refine wpQuiet_nil ?_
        intro w2 q
        go_wp2_with fail
        go_ret2
        exact ⟨ret_iib E.out.1.symm E.out.2.symm, q0.out.trans q⟩
      · have x0 : wr.cell? ⟨w.heap.size, 0, none⟩ = some (.int .i64 20) := X.out.cell' 0 _ rfl
        have E : Hid (rv = (Ev.flg (decide (D ≤ A))).1 ∧ re = (Ev.flg (decide (D ≤ A))).2) := Lib.hid (Prod.mk.inj eV)
        clear eV
        have C := Lib.hid (fun (w1 : World) => evC4 A D w1)
        generalize (Ev.flg (decide (D ≤ A))).1 = vv at *
        generalize (Ev.flg (decide (D ≤ A))).2 = ee at *
        go_wp2_with fail
        refine region_deep (by kernel_rfl) (by as_aux_lemma => kernel_rfl) ?_
        repeat (go_big_quiet_step (fail))
        refine wpQuiet_nil ?_
        intro _ hw'
        obtain ⟨nq, hw''⟩ := hw'
        subst hw''
        go_wp2_with fail
        refine code_of (fun z => Qw wr z) (by repeat (first | exact Qw.refl _ | refine Qw.dn ?_ _)) ?_
        intro w1 q1
        have k0 : ∀ p : Kept w1, p.v.cell? ⟨w.heap.size, 0, none⟩ = some (.int .i64 20) := fun p => ((X.out.kept q1).kept p.h).cell' 0 _ rfl
        have D0 : Hid (∀ p : Kept w1, Calls Tryd.prog 51 #[] p.v fun e w' => e = .returned (.agg #[.nilFunc, .nilFunc, .nilFunc, .func (Fn.func 59) #[] #[], .func (Fn.func 60) #[] #[], .func (Fn.func 61) #[] #[], .func (Fn.func 62) #[] #[], .func (Fn.func 63) #[] #[], .nilFunc, .nilFunc, .nilFunc, .func (Fn.func 64) #[] #[], .nilFunc, .nilFunc, .nilFunc, .nilFunc, .nilFunc, .func (Fn.func 65) #[] #[], .func (Fn.func 67) #[] #[], .func (Fn.func 68) #[] #[], .func (Fn.func 69) #[] #[], .func (Fn.func 70) #[] #[], .func (Fn.func 71) #[] #[], .func (Fn.func 72) #[] #[], .func (Fn.func 73) #[] #[], .func (Fn.func 74) #[] #[]]) ∧ Qw p.v w') := Lib.hid fun p => evBinary p.v
        have D1 : Hid (∀ p : Kept w1, Calls Tryd.prog 69 #[.int .i64 A, .int .i64 D] p.v fun e w' => e = .returned (.tuple #[.int .i64 vv, .int .i64 ee]) ∧ p.v = w') := Lib.hid fun p => C.out _
        have kx : ∀ w', (Instr.index 77 (.agg #[.nilFunc, .nilFunc, .nilFunc, .func (Fn.func 59) #[] #[], .func (Fn.func 60) #[] #[], .func (Fn.func 61) #[] #[], .func (Fn.func 62) #[] #[], .func (Fn.func 63) #[] #[], .nilFunc, .nilFunc, .nilFunc, .func (Fn.func 64) #[] #[], .nilFunc, .nilFunc, .nilFunc, .nilFunc, .nilFunc, .func (Fn.func 65) #[] #[], .func (Fn.func 67) #[] #[], .func (Fn.func 68) #[] #[], .func (Fn.func 69) #[] #[], .func (Fn.func 70) #[] #[], .func (Fn.func 71) #[] #[], .func (Fn.func 72) #[] #[], .func (Fn.func 73) #[] #[], .func (Fn.func 74) #[] #[]]) (.int .i64 20)).run Tryd.prog w' = .ok (.func (Fn.func 69) #[] #[]) w' := fun w' => by kernel_rfl
        replace q0 := Lib.hid (Qw.trans q0.out q1)
        refine region_kept (by kernel_rfl) (by kernel_rfl) ?_
        repeat (go_big_quiet_step (first | (go_at_call 51; with_reducible exact Kept.call (D0.out _)) | (go_at_call 69; with_reducible exact Kept.same (D1.out _))))
        refine wpQuiet_nil ?_
        intro w2 q
        go_wp2_with fail
        go_ret2
        exact ⟨ret_iib E.out.1.symm E.out.2.symm, q0.out.trans q⟩
      · have x0 : wr.cell? ⟨w.heap.size, 0, none⟩ = some (.int .i64 21) := X.out.cell' 0 _ rfl
        have E : Hid (rv = (Ev.flg (decide (A < D))).1 ∧ re = (Ev.flg (decide (A < D))).2) := Lib.hid (Prod.mk.inj eV)
        clear eV
        have C := Lib.hid (fun (w1 : World) => evC5 A D w1)
        generalize (Ev.flg (decide (A < D))).1 = vv at *
        generalize (Ev.flg (decide (A < D))).2 = ee at *
        go_wp2_with fail
        refine region_deep (by kernel_rfl) (by as_aux_lemma => kernel_rfl) ?_
        repeat (go_big_quiet_step (fail))
        refine wpQuiet_nil ?_
        intro _ hw'
        obtain ⟨nq, hw''⟩ := hw'
        subst hw''
        go_wp2_with fail
        refine code_of (fun z => Qw wr z) (by repeat (first | exact Qw.refl _ | refine Qw.dn ?_ _)) ?_
        intro w1 q1
        have k0 : ∀ p : Kept w1, p.v.cell? ⟨w.heap.size, 0, none⟩ = some (.int .i64 21) := fun p => ((X.out.kept q1).kept p.h).cell' 0 _ rfl
        have D0 : Hid (∀ p : Kept w1, Calls Tryd.prog 51 #[] p.v fun e w' => e = .returned (.agg #[.nilFunc, .nilFunc, .nilFunc, .func (Fn.func 59) #[] #[], .func (Fn.func 60) #[] #[], .func (Fn.func 61) #[] #[], .func (Fn.func 62) #[] #[], .func (Fn.func 63) #[] #[], .nilFunc, .nilFunc, .nilFunc, .func (Fn.func 64) #[] #[], .nilFunc, .nilFunc, .nilFunc, .nilFunc, .nilFunc, .func (Fn.func 65) #[] #[], .func (Fn.func 67) #[] #[], .func (Fn.func 68) #[] #[], .func (Fn.func 69) #[] #[], .func (Fn.func 70) #[] #[], .func (Fn.func 71) #[] #[], .func (Fn.func 72) #[] #[], .func (Fn.func 73) #[] #[], .func (Fn.func 74) #[] #[]]) ∧ Qw p.v w') := Lib.hid fun p => evBinary p.v
        have D1 : Hid (∀ p : Kept w1, Calls Tryd.prog 70 #[.int .i64 A, .int .i64 D] p.v fun e w' => e = .returned (.tuple #[.int .i64 vv, .int .i64 ee]) ∧ p.v = w') := Lib.hid fun p => C.out _
        have kx : ∀ w', (Instr.index 77 (.agg #[.nilFunc, .nilFunc, .nilFunc, .func (Fn.func 59) #[] #[], .func (Fn.func 60) #[] #[], .func (Fn.func 61) #[] #[], .func (Fn.func 62) #[] #[], .func (Fn.func 63) #[] #[], .nilFunc, .nilFunc, .nilFunc, .func (Fn.func 64) #[] #[], .nilFunc, .nilFunc, .nilFunc, .nilFunc, .nilFunc, .func (Fn.func 65) #[] #[], .func (Fn.func 67) #[] #[], .func (Fn.func 68) #[] #[], .func (Fn.func 69) #[] #[], .func (Fn.func 70) #[] #[], .func (Fn.func 71) #[] #[], .func (Fn.func 72) #[] #[], .func (Fn.func 73) #[] #[], .func (Fn.func 74) #[] #[]]) (.int .i64 21)).run Tryd.prog w' = .ok (.func (Fn.func 70) #[] #[]) w' := fun w' => by kernel_rfl
        replace q0 := Lib.hid (Qw.trans q0.out q1)
        refine region_kept (by kernel_rfl) (by kernel_rfl) ?_
        repeat (go_big_quiet_step (first | (go_at_call 51; with_reducible exact Kept.call (D0.out _)) | (go_at_call 70; with_reducible exact Kept.same (D1.out _))))
        refine wpQuiet_nil ?_
        intro w2 q
        go_wp2_with fail
        go_ret2
        exact ⟨ret_iib E.out.1.symm E.out.2.symm, q0.out.trans q⟩
      · have x0 : wr.cell? ⟨w.heap.size, 0, none⟩ = some (.int .i64 22) := X.out.cell' 0 _ rfl
        have E : Hid (rv = (Ev.flg (decide (A ≤ D))).1 ∧ re = (Ev.flg (decide (A ≤ D))).2) := Lib.hid (Prod.mk.inj eV)
        clear eV
        have C := Lib.hid (fun (w1 : World) => evC6 A D w1)
        generalize (Ev.flg (decide (A ≤ D))).1 = vv at *
        generalize (Ev.flg (decide (A ≤ D))).2 = ee at *
        go_wp2_with fail
        refine region_deep (by kernel_rfl) (by as_aux_lemma => kernel_rfl) ?_
        repeat (go_big_quiet_step (fail))
        refine wpQuiet_nil ?_
        intro _ hw'
        obtain ⟨nq, hw''⟩ := hw'
        subst hw''
        go_wp2_with fail
        refine code_of (fun z => Qw wr z) (by repeat (first | exact Qw.refl _ | refine Qw.dn ?_ _)) ?_
        intro w1 q1
        have k0 : ∀ p : Kept w1, p.v.cell? ⟨w.heap.size, 0, none⟩ = some (.int .i64 22) := fun p => ((X.out.kept q1).kept p.h).cell' 0 _ rfl
        have D0 : Hid (∀ p : Kept w1, Calls Tryd.prog 51 #[] p.v fun e w' => e = .returned (.agg #[.nilFunc, .nilFunc, .nilFunc, .func (Fn.func 59) #[] #[], .func (Fn.func 60) #[] #[], .func (Fn.func 61) #[] #[], .func (Fn.func 62) #[] #[], .func (Fn.func 63) #[] #[], .nilFunc, .nilFunc, .nilFunc, .func (Fn.func 64) #[] #[], .nilFunc, .nilFunc, .nilFunc, .nilFunc, .nilFunc, .func (Fn.func 65) #[] #[], .func (Fn.func 67) #[] #[], .func (Fn.func 68) #[] #[], .func (Fn.func 69) #[] #[], .func (Fn.func 70) #[] #[], .func (Fn.func 71) #[] #[], .func (Fn.func 72) #[] #[], .func (Fn.func 73) #[] #[], .func (Fn.func 74) #[] #[]]) ∧ Qw p.v w') := Lib.hid fun p => evBinary p.v
        have D1 : Hid (∀ p : Kept w1, Calls Tryd.prog 71 #[.int .i64 A, .int .i64 D] p.v fun e w' => e = .returned (.tuple #[.int .i64 vv, .int .i64 ee]) ∧ p.v = w') := Lib.hid fun p => C.out _
        have kx : ∀ w', (Instr.index 77 (.agg #[.nilFunc, .nilFunc, .nilFunc, .func (Fn.func 59) #[] #[], .func (Fn.func 60) #[] #[], .func (Fn.func 61) #[] #[], .func (Fn.func 62) #[] #[], .func (Fn.func 63) #[] #[], .nilFunc, .nilFunc, .nilFunc, .func (Fn.func 64) #[] #[], .nilFunc, .nilFunc, .nilFunc, .nilFunc, .nilFunc, .func (Fn.func 65) #[] #[], .func (Fn.func 67) #[] #[], .func (Fn.func 68) #[] #[], .func (Fn.func 69) #[] #[], .func (Fn.func 70) #[] #[], .func (Fn.func 71) #[] #[], .func (Fn.func 72) #[] #[], .func (Fn.func 73) #[] #[], .func (Fn.func 74) #[] #[]]) (.int .i64 22)).run Tryd.prog w' = .ok (.func (Fn.func 71) #[] #[]) w' := fun w' => by kernel_rfl
        replace q0 := Lib.hid (Qw.trans q0.out q1)
        refine region_kept (by kernel_rfl) (by kernel_rfl) ?_
        repeat (go_big_quiet_step (first | (go_at_call 51; with_reducible exact Kept.call (D0.out _)) | (go_at_call 71; with_reducible exact Kept.same (D1.out _))))
        refine wpQuiet_nil ?_
        intro w2 q
        go_wp2_with fail
        go_ret2
        exact ⟨ret_iib E.out.1.symm E.out.2.symm, q0.out.trans q⟩
      · have x0 : wr.cell? ⟨w.heap.size, 0, none⟩ = some (.int .i64 23) := X.out.cell' 0 _ rfl
        have E : Hid (rv = (Ev.flg ((A != 0) && (D != 0))).1 ∧ re = (Ev.flg ((A != 0) && (D != 0))).2) := Lib.hid (Prod.mk.inj eV)
        clear eV
        have C := Lib.hid (fun (w1 : World) => evC7 A D w1)
        generalize (Ev.flg ((A != 0) && (D != 0))).1 = vv at *
        generalize (Ev.flg ((A != 0) && (D != 0))).2 = ee at *
        go_wp2_with fail
        refine region_deep (by kernel_rfl) (by as_aux_lemma => kernel_rfl) ?_
        repeat (go_big_quiet_step (fail))
        refine wpQuiet_nil ?_
        intro _ hw'
        obtain ⟨nq, hw''⟩ := hw'
        subst hw''
        go_wp2_with fail
        refine code_of (fun z => Qw wr z) (by repeat (first | exact Qw.refl _ | refine Qw.dn ?_ _)) ?_
        intro w1 q1
        have k0 : ∀ p : Kept w1, p.v.cell? ⟨w.heap.size, 0, none⟩ = some (.int .i64 23) := fun p => ((X.out.kept q1).kept p.h).cell' 0 _ rfl
        have D0 : Hid (∀ p : Kept w1, Calls Tryd.prog 51 #[] p.v fun e w' => e = .returned (.agg #[.nilFunc, .nilFunc, .nilFunc, .func (Fn.func 59) #[] #[], .func (Fn.func 60) #[] #[], .func (Fn.func 61) #[] #[], .func (Fn.func 62) #[] #[], .func (Fn.func 63) #[] #[], .nilFunc, .nilFunc, .nilFunc, .func (Fn.func 64) #[] #[], .nilFunc, .nilFunc, .nilFunc, .nilFunc, .nilFunc, .func (Fn.func 65) #[] #[], .func (Fn.func 67) #[] #[], .func (Fn.func 68) #[] #[], .func (Fn.func 69) #[] #[], .func (Fn.func 70) #[] #[], .func (Fn.func 71) #[] #[], .func (Fn.func 72) #[] #[], .func (Fn.func 73) #[] #[], .func (Fn.func 74) #[] #[]]) ∧ Qw p.v w') := Lib.hid fun p => evBinary p.v
        have D1 : Hid (∀ p : Kept w1, Calls Tryd.prog 72 #[.int .i64 A, .int .i64 D] p.v fun e w' => e = .returned (.tuple #[.int .i64 vv, .int .i64 ee]) ∧ p.v = w') := Lib.hid fun p => C.out _
        have kx : ∀ w', (Instr.index 77 (.agg #[.nilFunc, .nilFunc, .nilFunc, .func (Fn.func 59) #[] #[], .func (Fn.func 60) #[] #[], .func (Fn.func 61) #[] #[], .func (Fn.func 62) #[] #[], .func (Fn.func 63) #[] #[], .nilFunc, .nilFunc, .nilFunc, .func (Fn.func 64) #[] #[], .nilFunc, .nilFunc, .nilFunc, .nilFunc, .nilFunc, .func (Fn.func 65) #[] #[], .func (Fn.func 67) #[] #[], .func (Fn.func 68) #[] #[], .func (Fn.func 69) #[] #[], .func (Fn.func 70) #[] #[], .func (Fn.func 71) #[] #[], .func (Fn.func 72) #[] #[], .func (Fn.func 73) #[] #[], .func (Fn.func 74) #[] #[]]) (.int .i64 23)).run Tryd.prog w' = .ok (.func (Fn.func 72) #[] #[]) w' := fun w' => by kernel_rfl
        replace q0 := Lib.hid (Qw.trans q0.out q1)
        refine region_kept (by kernel_rfl) (by kernel_rfl) ?_
        repeat (go_big_quiet_step (first | (go_at_call 51; with_reducible exact Kept.call (D0.out _)) | (go_at_call 72; with_reducible exact Kept.same (D1.out _))))
        refine wpQuiet_nil ?_
        intro w2 q
        go_wp2_with fail
        go_ret2
        exact ⟨ret_iib E.out.1.symm E.out.2.symm, q0.out.trans q⟩
      · have x0 : wr.cell? ⟨w.heap.size, 0, none⟩ = some (.int .i64 24) := X.out.cell' 0 _ rfl
        have E : Hid (rv = (Ev.flg ((A != 0) || (D != 0))).1 ∧ re = (Ev.flg ((A != 0) || (D != 0))).2) := Lib.hid (Prod.mk.inj eV)
        clear eV
        have C := Lib.hid (fun (w1 : World) => evC8 A D w1)
        generalize (Ev.flg ((A != 0) || (D != 0))).1 = vv at *
        generalize (Ev.flg ((A != 0) || (D != 0))).2 = ee at *
        go_wp2_with fail
        refine region_deep (by kernel_rfl) (by as_aux_lemma => kernel_rfl) ?_
        repeat (go_big_quiet_step (fail))
        refine wpQuiet_nil ?_
        intro _ hw'
        obtain ⟨nq, hw''⟩ := hw'
        subst hw''
        go_wp2_with fail
        refine code_of (fun z => Qw wr z) (by repeat (first | exact Qw.refl _ | refine Qw.dn ?_ _)) ?_
        intro w1 q1
        have k0 : ∀ p : Kept w1, p.v.cell? ⟨w.heap.size, 0, none⟩ = some (.int .i64 24) := fun p => ((X.out.kept q1).kept p.h).cell' 0 _ rfl
        have D0 : Hid (∀ p : Kept w1, Calls Tryd.prog 51 #[] p.v fun e w' => e = .returned (.agg #[.nilFunc, .nilFunc, .nilFunc, .func (Fn.func 59) #[] #[], .func (Fn.func 60) #[] #[], .func (Fn.func 61) #[] #[], .func (Fn.func 62) #[] #[], .func (Fn.func 63) #[] #[], .nilFunc, .nilFunc, .nilFunc, .func (Fn.func 64) #[] #[], .nilFunc, .nilFunc, .nilFunc, .nilFunc, .nilFunc, .func (Fn.func 65) #[] #[], .func (Fn.func 67) #[] #[], .func (Fn.func 68) #[] #[], .func (Fn.func 69) #[] #[], .func (Fn.func 70) #[] #[], .func (Fn.func 71) #[] #[], .func (Fn.func 72) #[] #[], .func (Fn.func 73) #[] #[], .func (Fn.func 74) #[] #[]]) ∧ Qw p.v w') := Lib.hid fun p => evBinary p.v
        have D1 : Hid (∀ p : Kept w1, Calls Tryd.prog 73 #[.int .i64 A, .int .i64 D] p.v fun e w' => e = .returned (.tuple #[.int .i64 vv, .int .i64 ee]) ∧ p.v = w') := Lib.hid fun p => C.out _
        have kx : ∀ w', (Instr.index 77 (.agg #[.nilFunc, .nilFunc, .nilFunc, .func (Fn.func 59) #[] #[], .func (Fn.func 60) #[] #[], .func (Fn.func 61) #[] #[], .func (Fn.func 62) #[] #[], .func (Fn.func 63) #[] #[], .nilFunc, .nilFunc, .nilFunc, .func (Fn.func 64) #[] #[], .nilFunc, .nilFunc, .nilFunc, .nilFunc, .nilFunc, .func (Fn.func 65) #[] #[], .func (Fn.func 67) #[] #[], .func (Fn.func 68) #[] #[], .func (Fn.func 69) #[] #[], .func (Fn.func 70) #[] #[], .func (Fn.func 71) #[] #[], .func (Fn.func 72) #[] #[], .func (Fn.func 73) #[] #[], .func (Fn.func 74) #[] #[]]) (.int .i64 24)).run Tryd.prog w' = .ok (.func (Fn.func 73) #[] #[]) w' := fun w' => by kernel_rfl
        replace q0 := Lib.hid (Qw.trans q0.out q1)
        refine region_kept (by kernel_rfl) (by kernel_rfl) ?_
        repeat (go_big_quiet_step (first | (go_at_call 51; with_reducible exact Kept.call (D0.out _)) | (go_at_call 73; with_reducible exact Kept.same (D1.out _))))
        refine wpQuiet_nil ?_
        intro w2 q
        go_wp2_with fail
        go_ret2
        exact ⟨ret_iib E.out.1.symm E.out.2.symm, q0.out.trans q⟩
      · have x0 : wr.cell? ⟨w.heap.size, 0, none⟩ = some (.int .i64 25) := X.out.cell' 0 _ rfl
        have E : Hid (rv = (Ev.flg ((A != 0) != (D != 0))).1 ∧ re = (Ev.flg ((A != 0) != (D != 0))).2) := Lib.hid (Prod.mk.inj eV)
        clear eV
        have C := Lib.hid (fun (w1 : World) => evC9 A D w1)
        generalize (Ev.flg ((A != 0) != (D != 0))).1 = vv at *
        generalize (Ev.flg ((A != 0) != (D != 0))).2 = ee at *
        go_wp2_with fail
        refine region_deep (by kernel_rfl) (by as_aux_lemma => kernel_rfl) ?_
        repeat (go_big_quiet_step (fail))
        refine wpQuiet_nil ?_
        intro _ hw'
        obtain ⟨nq, hw''⟩ := hw'
        subst hw''
        go_wp2_with fail
        refine code_of (fun z => Qw wr z) (by repeat (first | exact Qw.refl _ | refine Qw.dn ?_ _)) ?_
        intro w1 q1
        have k0 : ∀ p : Kept w1, p.v.cell? ⟨w.heap.size, 0, none⟩ = some (.int .i64 25) := fun p => ((X.out.kept q1).kept p.h).cell' 0 _ rfl
        have D0 : Hid (∀ p : Kept w1, Calls Tryd.prog 51 #[] p.v fun e w' => e = .returned (.agg #[.nilFunc, .nilFunc, .nilFunc, .func (Fn.func 59) #[] #[], .func (Fn.func 60) #[] #[], .func (Fn.func 61) #[] #[], .func (Fn.func 62) #[] #[], .func (Fn.func 63) #[] #[], .nilFunc, .nilFunc, .nilFunc, .func (Fn.func 64) #[] #[], .nilFunc, .nilFunc, .nilFunc, .nilFunc, .nilFunc, .func (Fn.func 65) #[] #[], .func (Fn.func 67) #[] #[], .func (Fn.func 68) #[] #[], .func (Fn.func 69) #[] #[], .func (Fn.func 70) #[] #[], .func (Fn.func 71) #[] #[], .func (Fn.func 72) #[] #[], .func (Fn.func 73) #[] #[], .func (Fn.func 74) #[] #[]]) ∧ Qw p.v w') := Lib.hid fun p => evBinary p.v
        have D1 : Hid (∀ p : Kept w1, Calls Tryd.prog 74 #[.int .i64 A, .int .i64 D] p.v fun e w' => e = .returned (.tuple #[.int .i64 vv, .int .i64 ee]) ∧ p.v = w') := Lib.hid fun p => C.out _
        have kx : ∀ w', (Instr.index 77 (.agg #[.nilFunc, .nilFunc, .nilFunc, .func (Fn.func 59) #[] #[], .func (Fn.func 60) #[] #[], .func (Fn.func 61) #[] #[], .func (Fn.func 62) #[] #[], .func (Fn.func 63) #[] #[], .nilFunc, .nilFunc, .nilFunc, .func (Fn.func 64) #[] #[], .nilFunc, .nilFunc, .nilFunc, .nilFunc, .nilFunc, .func (Fn.func 65) #[] #[], .func (Fn.func 67) #[] #[], .func (Fn.func 68) #[] #[], .func (Fn.func 69) #[] #[], .func (Fn.func 70) #[] #[], .func (Fn.func 71) #[] #[], .func (Fn.func 72) #[] #[], .func (Fn.func 73) #[] #[], .func (Fn.func 74) #[] #[]]) (.int .i64 25)).run Tryd.prog w' = .ok (.func (Fn.func 74) #[] #[]) w' := fun w' => by kernel_rfl
        replace q0 := Lib.hid (Qw.trans q0.out q1)
        refine region_kept (by kernel_rfl) (by kernel_rfl) ?_
        repeat (go_big_quiet_step (first | (go_at_call 51; with_reducible exact Kept.call (D0.out _)) | (go_at_call 74; with_reducible exact Kept.same (D1.out _))))
        refine wpQuiet_nil ?_
        intro w2 q
        go_wp2_with fail
        go_ret2
        exact ⟨ret_iib E.out.1.symm E.out.2.symm, q0.out.trans q⟩
end Go.Proofs.YtkfipjlknfinpaaDoor
