
/- The specification of package eval: the walk of eval, and of Eval. -/
import Derived.Test.YtkfipjlknfinpaaGreatDoorErA
import Derived.Test.YtkfipjlknfinpaaGreatDoorEvV
import Derived.Test.YtkfipjlknfinpaaGreatDoorVrB
import Derived.Test.YtkfipjlknfinpaaGreatDoorRwB
set_option linter.unusedVariables false
set_option linter.unusedSimpArgs false
namespace Go.Proofs.YtkfipjlknfinpaaGreatDoor
open Go.RowKit

set_option maxRecDepth 100000 in
set_option maxHeartbeats 4000000 in
theorem erValue {B L cap : Nat} {s : Vs.St} (hg : Ev.Good s) : ∀ x : Sy.Ex, Sy.okx x = true → ∀ (a : Option Addr) (c : Nat) (S : Nat → Prop) (w : World), Rst w B L cap s → KidsB w S a c x.ks →
    Calls Tryz.prog 29 #[.agg #[.int .i64 x.op, .int .i64 x.n, .slice a x.ks.length c], .pointer (some ⟨B, 0, none⟩)] w fun e w' => e = .returned (.tuple #[.int .i64 (Ev.val s x).1, .int .i64 (Ev.val s x).2]) ∧ Qw w w' := by
  refine Sy.Ex.ind fun op n ks ih hok a c S w hp hk => ?_
  obtain ⟨⟨o, ho, rfl, hl⟩, hka, hn⟩ := okx_node hok
  have hl2 := kds_two o ho
  rw [← hl] at hl2
  show Calls Tryz.prog 29 #[.agg #[.int .i64 (o : Int), .int .i64 n, .slice a ks.length c], .pointer (some ⟨B, 0, none⟩)] w _
  obtain ⟨l1, l2⟩ := KidsB.cap hk
  obtain ⟨rv, re, hR0⟩ : ∃ rv re, Ev.val s (.mk (o : Int) n ks) = (rv, re) := ⟨_, _, rfl⟩
  rw [hR0]
  have hR := Lib.hid hR0
  clear hR0
  have HP := Lib.hid hp
  have HK := Lib.hid hk
  have IH := Lib.hid ih
  have HA := Lib.hid hka
  have HN := Lib.hid hn
  have hlN := Lib.hid hl
  change KidsB w S a c ks at hk
  clear hp hk ih hka hok hn hl
  go_enter Tryz.func29, Tryz.ntmps29
  go_wp2_with fail
  have QS : Hid (Qw w ((w.alloc (.cells #[.int .i64 (o : Int), .int .i64 n, .slice a ks.length c] 24)).alloc (.cells #[.int .i64 0, .int .i64 0] 69))) := Lib.hid (by repeat (first | exact q0.out | exact Qw.refl _ | refine Qw.al ?_ _ | refine Qw.dr ?_ | refine Qw.dn ?_ _ | refine Qw.sc ?_ (by first | (simp; done) | omega | (have := q0.out.size; first | omega | (simp; omega))) _))
  have XS : Hid (Bx ((w.alloc (.cells #[.int .i64 (o : Int), .int .i64 n, .slice a ks.length c] 24)).alloc (.cells #[.int .i64 0, .int .i64 0] 69)) w.heap.size #[.int .i64 (o : Int), .int .i64 n, .slice a ks.length c] 24) := Lib.hid (Bx.alloc (Bx.new w _ _) _)
  have YS : Hid (Bx ((w.alloc (.cells #[.int .i64 (o : Int), .int .i64 n, .slice a ks.length c] 24)).alloc (.cells #[.int .i64 0, .int .i64 0] 69)) (w.heap.size + 1) (kcs ((ks.take 0).map (Ev.val s))) 69) := Lib.hid (by
    have := Bx.new (w.alloc (.cells #[.int .i64 (o : Int), .int .i64 n, .slice a ks.length c] 24)) #[.int .i64 0, .int .i64 0] 69
    rwa [show (w.alloc (.cells #[.int .i64 (o : Int), .int .i64 n, .slice a ks.length c] 24)).heap.size = w.heap.size + 1 by simp] at this)
  go_loopg [7] ks.length (fun g iv wr => ∃ i : Nat, i ≤ ks.length ∧ g = ks.length - i ∧ iv = .int .i64 (i : Int) ∧ Hid (Ev.fe ((ks.take i).map (Ev.val s)) = 0) ∧ Hid (Bx wr w.heap.size #[.int .i64 (o : Int), .int .i64 n, .slice a ks.length c] 24) ∧ Hid (Bx wr (w.heap.size + 1) (kcs ((ks.take i).map (Ev.val s))) 69) ∧ Qw w wr)
  case atStart => exact ⟨0, Nat.zero_le _, rfl, rfl, Lib.hid rfl, XS, YS, QS.out⟩
  case round =>
    clear XS YS QS
    obtain ⟨i, hi, rfl, rfl, hT, X, Y, hQ⟩ := hrel
    have q0 := Lib.hid hQ
    have x2 : wr.cell? ⟨w.heap.size, 2, none⟩ = some (.slice a ks.length c) := X.out.cell' 2 _ rfl
    by_cases hlt : i < ks.length
    · have hKr := HK.out.kept hQ
      have HPr := Lib.hid (HP.out.kept hQ)
      clear hQ HP
      change KidsB wr S a c ks at hKr
      cases hKr with
      | nl => simp at hlt
      | mk b off cap2 ks ad cc hS h1 h2 hc hkk =>
        obtain ⟨z0, z1, z2⟩ := hc i hlt
        have KK := Lib.hid (hkk i hlt)
        have hi2 : (i : Int) < (ks.length : Int) := by omega
        have hi3 : (i : Int) < 2 := by omega
        have cr := fun w1 (h : KidsB w1 S (ad i) (cc i) ks[i].ks) (hp : Rst w1 B L cap s) => IH.out ks[i] (List.getElem_mem hlt) (HA.out _ (List.getElem_mem hlt)) (ad i) (cc i) S w1 hp h
        have bl := cell_lt z0
        have hne : b ≠ wr.heap.size := by omega
        have szr := q0.out.size
        have eM := val_more (s := s) hlt
        have eK := fun v => kcs_set (l := (ks.take i).map (Ev.val s)) (i := i) (by rw [List.length_map, List.length_take]; omega) (by omega) v
        by_cases hv : (Ev.val s ks[i]).2 = 0
        · have eF0 := Ev.fe_more hT.out hv
          have eK0 := eK (Ev.val s ks[i])
          rw [← eM] at eF0 eK0
          rw [hv] at cr
          have eF := Lib.hid eF0
          have EK := Lib.hid eK0
          have CR := Lib.hid cr
          obtain ⟨uo, huo⟩ := kcs_at ((ks.take i).map (Ev.val s)) (show i < 2 by omega)
          replace huo := Lib.hid huo
          clear cr eM eK hc hkk hT eF0 eK0 hv
          generalize (Ev.val s ks[i]).1 = v1 at *
          go_wp2_with (go_at_call 29; ((with_reducible refine (CR.out _ (KidsB.kept KK.out (by repeat (first | exact Qw.refl _ | refine Qw.al ?_ _ | refine Qw.dr ?_ | refine Qw.dn ?_ _ | refine Qw.sc ?_ (by first | (simp; done) | omega | (simp; omega)) _))) (HPr.out.kept (by repeat (first | exact Qw.refl _ | refine Qw.al ?_ _ | refine Qw.dr ?_ | refine Qw.dn ?_ _ | refine Qw.sc ?_ (by first | (simp; done) | omega | (simp; omega)) _)))).mono ?_); rintro e w' ⟨rfl, q⟩; replace X := Lib.hid (X.out.kept (Qw.trans (by repeat (first | exact Qw.refl _ | refine Qw.al ?_ _ | refine Qw.dr ?_ | refine Qw.dn ?_ _ | refine Qw.sc ?_ (by first | (simp; done) | omega | (simp; omega)) _)) q)); replace Y := Lib.hid (Y.out.kept (Qw.trans (by repeat (first | exact Qw.refl _ | refine Qw.al ?_ _ | refine Qw.dr ?_ | refine Qw.dn ?_ _ | refine Qw.sc ?_ (by first | (simp; done) | omega | (simp; omega)) _)) q)); have yf := Y.out.free i; have yc := Y.out.cell' i _ huo.out; replace q0 : Hid (Qw w w') := Lib.hid (Qw.trans (by repeat (first | exact q0.out | exact Qw.refl _ | refine Qw.al ?_ _ | refine Qw.dr ?_ | refine Qw.dn ?_ _ | refine Qw.sc ?_ (by first | (simp; done) | omega | (have := q0.out.size; first | omega | (simp; omega))) _)) q); clear q))
          go_roundg (ks.length - (i + 1))
          case measure => omega
          case rel => exact ⟨i + 1, by omega, rfl, by go_num, eF, Lib.hid (X.out.other (by simp) _), Lib.hid (by have := Y.out.set i (.int .i64 v1); rwa [EK.out] at this), Qw.sc q0.out (by simp) _⟩
        · have eE := Lib.hid (val_err hlt hT.out hv (o : Int) n)
          have hvn : ((Ev.val s ks[i]).2 != 0) = true := by simpa using hv
          have CR := Lib.hid cr
          clear cr eM eK hc hkk hT hv
          have eR := Lib.hid (Prod.mk.inj (hR.out.symm.trans eE.out))
          clear eE
          generalize (Ev.val s ks[i]).1 = v1 at *
          generalize (Ev.val s ks[i]).2 = v2 at *
          go_wp2_with (go_at_call 29; ((with_reducible refine (CR.out _ (KidsB.kept KK.out (by repeat (first | exact Qw.refl _ | refine Qw.al ?_ _ | refine Qw.dr ?_ | refine Qw.dn ?_ _ | refine Qw.sc ?_ (by first | (simp; done) | omega | (simp; omega)) _))) (HPr.out.kept (by repeat (first | exact Qw.refl _ | refine Qw.al ?_ _ | refine Qw.dr ?_ | refine Qw.dn ?_ _ | refine Qw.sc ?_ (by first | (simp; done) | omega | (simp; omega)) _)))).mono ?_); rintro e w' ⟨rfl, q⟩; replace q0 : Hid (Qw w w') := Lib.hid (Qw.trans (by repeat (first | exact q0.out | exact Qw.refl _ | refine Qw.al ?_ _ | refine Qw.dr ?_ | refine Qw.dn ?_ _ | refine Qw.sc ?_ (by first | (simp; done) | omega | (have := q0.out.size; first | omega | (simp; omega))) _)) q); clear q))
          go_ret2
          exact ⟨ret_iib eR.out.1.symm eR.out.2.symm, q0.out⟩
    · obtain rfl : i = ks.length := by omega
      have HPr := Lib.hid (HP.out.kept hQ)
      clear hQ HP HK IH
      have hb : ¬ (ks.length : Int) < (ks.length : Int) := by omega
      have hF := hT.out
      replace Y := Y.out
      rw [List.take_length] at hF Y
      have eV := val_opv (n := n) hF o
      rw [hR.out] at eV
      have bl : ∀ v ∈ ks.map (Ev.val s), Ev.Bd v.1 := fun v hv => by
        obtain ⟨x, hx, rfl⟩ := List.mem_map.1 hv
        exact Ev.val_bd hg x (HA.out x hx)
      have bda := Ev.kv_bd bl 0
      have bdd := Ev.kv_bd bl 1
      have y0 : wr.cell? ⟨w.heap.size + 1, 0, none⟩ = some (.int .i64 (Ev.kv (ks.map (Ev.val s)) 0)) := Y.cell' 0 _ rfl
      have y1 : wr.cell? ⟨w.heap.size + 1, 1, none⟩ = some (.int .i64 (Ev.kv (ks.map (Ev.val s)) 1)) := Y.cell' 1 _ rfl
      clear bl hF hT Y hR hlN hl2 HA
      generalize Ev.kv (ks.map (Ev.val s)) 0 = A at *
      generalize Ev.kv (ks.map (Ev.val s)) 1 = D at *
      have hcs : o = 0 ∨ o = 1 ∨ o = 2 ∨ o = 3 ∨ o = 4 ∨ o = 5 ∨ o = 6 ∨ o = 7 ∨ o = 8 ∨ o = 9 ∨ o = 10 ∨ o = 11 ∨ o = 12 ∨ o = 13 ∨ o = 14 ∨ o = 15 ∨ o = 16 ∨ o = 17 ∨ o = 18 ∨ o = 19 ∨ o = 20 ∨ o = 21 ∨ o = 22 ∨ o = 23 ∨ o = 24 ∨ o = 25 := by omega
      clear ho
      rcases hcs with rfl | rfl | rfl | rfl | rfl | rfl | rfl | rfl | rfl | rfl | rfl | rfl | rfl | rfl | rfl | rfl | rfl | rfl | rfl | rfl | rfl | rfl | rfl | rfl | rfl | rfl
      · have x0 : wr.cell? ⟨w.heap.size, 0, none⟩ = some (.int .i64 0) := X.out.cell' 0 _ rfl
        have x1 : wr.cell? ⟨w.heap.size, 1, none⟩ = some (.int .i64 n) := X.out.cell' 1 _ rfl
        have E : Hid (rv = n ∧ re = 0) := Lib.hid (Prod.mk.inj eV)
        clear eV
        go_wp2_with fail
        refine region_deep (by kernel_rfl) (by as_aux_lemma => kernel_rfl) ?_
        repeat (go_big_quiet_step (fail))
        refine wpQuiet_nil ?_
        intro _ hw'
        obtain ⟨nq, hw''⟩ := hw'
        subst hw''
        go_wp2_with fail
        go_ret2
        exact ⟨ret_iib E.out.1.symm E.out.2.symm, (by repeat (first | exact q0.out | exact Qw.refl _ | refine Qw.al ?_ _ | refine Qw.dr ?_ | refine Qw.dn ?_ _ | refine Qw.sc ?_ (by first | (simp; done) | omega | (have := q0.out.size; first | omega | (simp; omega))) _))⟩
      · have x0 : wr.cell? ⟨w.heap.size, 0, none⟩ = some (.int .i64 1) := X.out.cell' 0 _ rfl
        have C := Lib.hid (fun (w1 : World) (h : Rst w1 B L cap s) => vrGet h (wholev A))
        cases hw : whole A with
        | false =>
          have E : Hid (rv = 0 ∧ re = 6) := Lib.hid (by have e := eV; rw [show Ev.opv s n A D 1 = (0, 6) from if_neg (by rw [hw]; decide)] at e; exact Prod.mk.inj e)
          clear eV
          go_wp2_with fail
          refine region_deep (by kernel_rfl) (by as_aux_lemma => kernel_rfl) ?_
          repeat (go_big_quiet_step (fail))
          refine wpQuiet_nil ?_
          intro _ hw'
          obtain ⟨nq, hw''⟩ := hw'
          subst hw''
          go_wp2_with (go_at_call 50; refine (rxWhole _ _).mono ?_; rintro e w' ⟨rfl, rfl⟩)
          go_ret2
          exact ⟨ret_iib E.out.1.symm E.out.2.symm, (by repeat (first | exact q0.out | exact Qw.refl _ | refine Qw.al ?_ _ | refine Qw.dr ?_ | refine Qw.dn ?_ _ | refine Qw.sc ?_ (by first | (simp; done) | omega | (have := q0.out.size; first | omega | (simp; omega))) _))⟩
        | true =>
          have E : Hid (rv = s.get (wholev A) ∧ re = Vs.gerr (wholev A)) := Lib.hid (by have e := eV; rw [show Ev.opv s n A D 1 = (s.get (wholev A), Vs.gerr (wholev A)) from if_pos hw] at e; exact Prod.mk.inj e)
          clear eV
          go_wp2_with fail
          refine region_deep (by kernel_rfl) (by as_aux_lemma => kernel_rfl) ?_
          repeat (go_big_quiet_step (fail))
          refine wpQuiet_nil ?_
          intro _ hw'
          obtain ⟨nq, hw''⟩ := hw'
          subst hw''
          go_wp2_with (first | (go_at_call 50; refine (rxWhole _ _).mono ?_; rintro e w' ⟨rfl, rfl⟩) | (go_at_call 51; ((with_reducible refine (C.out _ (HPr.out.kept (by repeat (first | exact Qw.refl _ | refine Qw.dn ?_ _)))).mono ?_); rintro e w' ⟨rfl, q⟩; replace q0 : Hid (Qw w w') := Lib.hid (Qw.trans (by repeat (first | exact q0.out | exact Qw.refl _ | refine Qw.al ?_ _ | refine Qw.dr ?_ | refine Qw.dn ?_ _ | refine Qw.sc ?_ (by first | (simp; done) | omega | (have := q0.out.size; first | omega | (simp; omega))) _)) q); clear q)))
          go_ret2
          exact ⟨ret_iib E.out.1.symm E.out.2.symm, q0.out⟩
      · have x0 : wr.cell? ⟨w.heap.size, 0, none⟩ = some (.int .i64 2) := X.out.cell' 0 _ rfl
        have E : Hid (rv = (-A) ∧ re = 0) := Lib.hid (Prod.mk.inj eV)
        clear eV
        have C := Lib.hid (fun (w1 : World) => erS2 A bda w1)
        generalize (-A) = vv at *
        go_wp2_with fail
        refine region_deep (by kernel_rfl) (by as_aux_lemma => kernel_rfl) ?_
        repeat (go_big_quiet_step (fail))
        refine wpQuiet_nil ?_
        intro _ hw'
        obtain ⟨nq, hw''⟩ := hw'
        subst hw''
        go_wp2_with (go_at_call 59; ((with_reducible refine (C.out _).mono ?_); rintro e w' ⟨rfl, q⟩; replace q0 : Hid (Qw w w') := Lib.hid (Qw.trans (by repeat (first | exact q0.out | exact Qw.refl _ | refine Qw.al ?_ _ | refine Qw.dr ?_ | refine Qw.dn ?_ _ | refine Qw.sc ?_ (by first | (simp; done) | omega | (have := q0.out.size; first | omega | (simp; omega))) _)) q); clear q))
        go_ret2
        exact ⟨ret_iib E.out.1.symm E.out.2.symm, (by repeat (first | exact q0.out | exact Qw.refl _ | refine Qw.al ?_ _ | refine Qw.dr ?_ | refine Qw.dn ?_ _ | refine Qw.sc ?_ (by first | (simp; done) | omega | (have := q0.out.size; first | omega | (simp; omega))) _))⟩
      · have x0 : wr.cell? ⟨w.heap.size, 0, none⟩ = some (.int .i64 3) := X.out.cell' 0 _ rfl
        have E : Hid (rv = (addv A D) ∧ re = (adde A D)) := Lib.hid (Prod.mk.inj eV)
        clear eV
        have C := Lib.hid (fun (w1 : World) => rxAdd A D w1)
        generalize (addv A D) = vv at *
        generalize (adde A D) = ee at *
        go_wp2_with fail
        refine region_deep (by kernel_rfl) (by as_aux_lemma => kernel_rfl) ?_
        repeat (go_big_quiet_step (fail))
        refine wpQuiet_nil ?_
        intro _ hw'
        obtain ⟨nq, hw''⟩ := hw'
        subst hw''
        go_wp2_with (go_at_call 52; ((with_reducible refine (C.out _).mono ?_); rintro e w' ⟨rfl, rfl⟩))
        go_ret2
        exact ⟨ret_iib E.out.1.symm E.out.2.symm, (by repeat (first | exact q0.out | exact Qw.refl _ | refine Qw.al ?_ _ | refine Qw.dr ?_ | refine Qw.dn ?_ _ | refine Qw.sc ?_ (by first | (simp; done) | omega | (have := q0.out.size; first | omega | (simp; omega))) _))⟩
      · have x0 : wr.cell? ⟨w.heap.size, 0, none⟩ = some (.int .i64 4) := X.out.cell' 0 _ rfl
        have E : Hid (rv = (subv A D) ∧ re = (sube A D)) := Lib.hid (Prod.mk.inj eV)
        clear eV
        have C := Lib.hid (fun (w1 : World) => rxSub A D w1)
        generalize (subv A D) = vv at *
        generalize (sube A D) = ee at *
        go_wp2_with fail
        refine region_deep (by kernel_rfl) (by as_aux_lemma => kernel_rfl) ?_
        repeat (go_big_quiet_step (fail))
        refine wpQuiet_nil ?_
        intro _ hw'
        obtain ⟨nq, hw''⟩ := hw'
        subst hw''
        go_wp2_with (go_at_call 53; ((with_reducible refine (C.out _).mono ?_); rintro e w' ⟨rfl, rfl⟩))
        go_ret2
        exact ⟨ret_iib E.out.1.symm E.out.2.symm, (by repeat (first | exact q0.out | exact Qw.refl _ | refine Qw.al ?_ _ | refine Qw.dr ?_ | refine Qw.dn ?_ _ | refine Qw.sc ?_ (by first | (simp; done) | omega | (have := q0.out.size; first | omega | (simp; omega))) _))⟩
      · have x0 : wr.cell? ⟨w.heap.size, 0, none⟩ = some (.int .i64 5) := X.out.cell' 0 _ rfl
        have E : Hid (rv = (mulv A D) ∧ re = (mule A D)) := Lib.hid (Prod.mk.inj eV)
        clear eV
        have C := Lib.hid (fun (w1 : World) => rxMul A D w1)
        generalize (mulv A D) = vv at *
        generalize (mule A D) = ee at *
        go_wp2_with fail
        refine region_deep (by kernel_rfl) (by as_aux_lemma => kernel_rfl) ?_
        repeat (go_big_quiet_step (fail))
        refine wpQuiet_nil ?_
        intro _ hw'
        obtain ⟨nq, hw''⟩ := hw'
        subst hw''
        go_wp2_with (go_at_call 54; ((with_reducible refine (C.out _).mono ?_); rintro e w' ⟨rfl, q⟩; replace q0 : Hid (Qw w w') := Lib.hid (Qw.trans (by repeat (first | exact q0.out | exact Qw.refl _ | refine Qw.al ?_ _ | refine Qw.dr ?_ | refine Qw.dn ?_ _ | refine Qw.sc ?_ (by first | (simp; done) | omega | (have := q0.out.size; first | omega | (simp; omega))) _)) q); clear q))
        go_ret2
        exact ⟨ret_iib E.out.1.symm E.out.2.symm, (by repeat (first | exact q0.out | exact Qw.refl _ | refine Qw.al ?_ _ | refine Qw.dr ?_ | refine Qw.dn ?_ _ | refine Qw.sc ?_ (by first | (simp; done) | omega | (have := q0.out.size; first | omega | (simp; omega))) _))⟩
      · have x0 : wr.cell? ⟨w.heap.size, 0, none⟩ = some (.int .i64 6) := X.out.cell' 0 _ rfl
        have E : Hid (rv = (divv A D) ∧ re = (dive A D)) := Lib.hid (Prod.mk.inj eV)
        clear eV
        have C := Lib.hid (fun (w1 : World) => rxDiv A D w1)
        generalize (divv A D) = vv at *
        generalize (dive A D) = ee at *
        go_wp2_with fail
        refine region_deep (by kernel_rfl) (by as_aux_lemma => kernel_rfl) ?_
        repeat (go_big_quiet_step (fail))
        refine wpQuiet_nil ?_
        intro _ hw'
        obtain ⟨nq, hw''⟩ := hw'
        subst hw''
        go_wp2_with (go_at_call 55; ((with_reducible refine (C.out _).mono ?_); rintro e w' ⟨rfl, q⟩; replace q0 : Hid (Qw w w') := Lib.hid (Qw.trans (by repeat (first | exact q0.out | exact Qw.refl _ | refine Qw.al ?_ _ | refine Qw.dr ?_ | refine Qw.dn ?_ _ | refine Qw.sc ?_ (by first | (simp; done) | omega | (have := q0.out.size; first | omega | (simp; omega))) _)) q); clear q))
        go_ret2
        exact ⟨ret_iib E.out.1.symm E.out.2.symm, (by repeat (first | exact q0.out | exact Qw.refl _ | refine Qw.al ?_ _ | refine Qw.dr ?_ | refine Qw.dn ?_ _ | refine Qw.sc ?_ (by first | (simp; done) | omega | (have := q0.out.size; first | omega | (simp; omega))) _))⟩
      · have x0 : wr.cell? ⟨w.heap.size, 0, none⟩ = some (.int .i64 7) := X.out.cell' 0 _ rfl
        have E : Hid (rv = (modv A D) ∧ re = (dve A D)) := Lib.hid (Prod.mk.inj eV)
        clear eV
        have C := Lib.hid (fun (w1 : World) => rxMod A D w1)
        generalize (modv A D) = vv at *
        generalize (dve A D) = ee at *
        go_wp2_with fail
        refine region_deep (by kernel_rfl) (by as_aux_lemma => kernel_rfl) ?_
        repeat (go_big_quiet_step (fail))
        refine wpQuiet_nil ?_
        intro _ hw'
        obtain ⟨nq, hw''⟩ := hw'
        subst hw''
        go_wp2_with (go_at_call 56; ((with_reducible refine (C.out _).mono ?_); rintro e w' ⟨rfl, rfl⟩))
        go_ret2
        exact ⟨ret_iib E.out.1.symm E.out.2.symm, (by repeat (first | exact q0.out | exact Qw.refl _ | refine Qw.al ?_ _ | refine Qw.dr ?_ | refine Qw.dn ?_ _ | refine Qw.sc ?_ (by first | (simp; done) | omega | (have := q0.out.size; first | omega | (simp; omega))) _))⟩
      · have x0 : wr.cell? ⟨w.heap.size, 0, none⟩ = some (.int .i64 8) := X.out.cell' 0 _ rfl
        have E : Hid (rv = (Ev.quo (Cm.sc A).2 1073741824).1 ∧ re = (Ev.quo (Cm.sc A).2 1073741824).2) := Lib.hid (Prod.mk.inj eV)
        clear eV
        have C := Lib.hid (fun (w1 : World) => erS8 A bda w1)
        generalize (Ev.quo (Cm.sc A).2 1073741824).1 = vv at *
        generalize (Ev.quo (Cm.sc A).2 1073741824).2 = ee at *
        go_wp2_with fail
        refine region_deep (by kernel_rfl) (by as_aux_lemma => kernel_rfl) ?_
        repeat (go_big_quiet_step (fail))
        refine wpQuiet_nil ?_
        intro _ hw'
        obtain ⟨nq, hw''⟩ := hw'
        subst hw''
        go_wp2_with (go_at_call 59; ((with_reducible refine (C.out _).mono ?_); rintro e w' ⟨rfl, q⟩; replace q0 : Hid (Qw w w') := Lib.hid (Qw.trans (by repeat (first | exact q0.out | exact Qw.refl _ | refine Qw.al ?_ _ | refine Qw.dr ?_ | refine Qw.dn ?_ _ | refine Qw.sc ?_ (by first | (simp; done) | omega | (have := q0.out.size; first | omega | (simp; omega))) _)) q); clear q))
        go_ret2
        exact ⟨ret_iib E.out.1.symm E.out.2.symm, (by repeat (first | exact q0.out | exact Qw.refl _ | refine Qw.al ?_ _ | refine Qw.dr ?_ | refine Qw.dn ?_ _ | refine Qw.sc ?_ (by first | (simp; done) | omega | (have := q0.out.size; first | omega | (simp; omega))) _))⟩
      · have x0 : wr.cell? ⟨w.heap.size, 0, none⟩ = some (.int .i64 9) := X.out.cell' 0 _ rfl
        have E : Hid (rv = (Ev.quo (Cm.sc A).1 1073741824).1 ∧ re = (Ev.quo (Cm.sc A).1 1073741824).2) := Lib.hid (Prod.mk.inj eV)
        clear eV
        have C := Lib.hid (fun (w1 : World) => erS9 A bda w1)
        generalize (Ev.quo (Cm.sc A).1 1073741824).1 = vv at *
        generalize (Ev.quo (Cm.sc A).1 1073741824).2 = ee at *
        go_wp2_with fail
        refine region_deep (by kernel_rfl) (by as_aux_lemma => kernel_rfl) ?_
        repeat (go_big_quiet_step (fail))
        refine wpQuiet_nil ?_
        intro _ hw'
        obtain ⟨nq, hw''⟩ := hw'
        subst hw''
        go_wp2_with (go_at_call 59; ((with_reducible refine (C.out _).mono ?_); rintro e w' ⟨rfl, q⟩; replace q0 : Hid (Qw w w') := Lib.hid (Qw.trans (by repeat (first | exact q0.out | exact Qw.refl _ | refine Qw.al ?_ _ | refine Qw.dr ?_ | refine Qw.dn ?_ _ | refine Qw.sc ?_ (by first | (simp; done) | omega | (have := q0.out.size; first | omega | (simp; omega))) _)) q); clear q))
        go_ret2
        exact ⟨ret_iib E.out.1.symm E.out.2.symm, (by repeat (first | exact q0.out | exact Qw.refl _ | refine Qw.al ?_ _ | refine Qw.dr ?_ | refine Qw.dn ?_ _ | refine Qw.sc ?_ (by first | (simp; done) | omega | (have := q0.out.size; first | omega | (simp; omega))) _))⟩
      · have x0 : wr.cell? ⟨w.heap.size, 0, none⟩ = some (.int .i64 10) := X.out.cell' 0 _ rfl
        have E : Hid (rv = (Ev.tanv A).1 ∧ re = (Ev.tanv A).2) := Lib.hid (Prod.mk.inj eV)
        clear eV
        have C := Lib.hid (fun (w1 : World) => erS10 A bda w1)
        generalize (Ev.tanv A).1 = vv at *
        generalize (Ev.tanv A).2 = ee at *
        go_wp2_with fail
        refine region_deep (by kernel_rfl) (by as_aux_lemma => kernel_rfl) ?_
        repeat (go_big_quiet_step (fail))
        refine wpQuiet_nil ?_
        intro _ hw'
        obtain ⟨nq, hw''⟩ := hw'
        subst hw''
        go_wp2_with (go_at_call 59; ((with_reducible refine (C.out _).mono ?_); rintro e w' ⟨rfl, q⟩; replace q0 : Hid (Qw w w') := Lib.hid (Qw.trans (by repeat (first | exact q0.out | exact Qw.refl _ | refine Qw.al ?_ _ | refine Qw.dr ?_ | refine Qw.dn ?_ _ | refine Qw.sc ?_ (by first | (simp; done) | omega | (have := q0.out.size; first | omega | (simp; omega))) _)) q); clear q))
        go_ret2
        exact ⟨ret_iib E.out.1.symm E.out.2.symm, (by repeat (first | exact q0.out | exact Qw.refl _ | refine Qw.al ?_ _ | refine Qw.dr ?_ | refine Qw.dn ?_ _ | refine Qw.sc ?_ (by first | (simp; done) | omega | (have := q0.out.size; first | omega | (simp; omega))) _))⟩
      · have x0 : wr.cell? ⟨w.heap.size, 0, none⟩ = some (.int .i64 11) := X.out.cell' 0 _ rfl
        have E : Hid (rv = (Ev.dirv A D).1 ∧ re = (Ev.dirv A D).2) := Lib.hid (Prod.mk.inj eV)
        clear eV
        have C := Lib.hid (fun (w1 : World) => erAtan A D bda bdd w1)
        generalize (Ev.dirv A D).1 = vv at *
        generalize (Ev.dirv A D).2 = ee at *
        go_wp2_with fail
        refine region_deep (by kernel_rfl) (by as_aux_lemma => kernel_rfl) ?_
        repeat (go_big_quiet_step (fail))
        refine wpQuiet_nil ?_
        intro _ hw'
        obtain ⟨nq, hw''⟩ := hw'
        subst hw''
        go_wp2_with (go_at_call 57; ((with_reducible refine (C.out _).mono ?_); rintro e w' ⟨rfl, q⟩; replace q0 : Hid (Qw w w') := Lib.hid (Qw.trans (by repeat (first | exact q0.out | exact Qw.refl _ | refine Qw.al ?_ _ | refine Qw.dr ?_ | refine Qw.dn ?_ _ | refine Qw.sc ?_ (by first | (simp; done) | omega | (have := q0.out.size; first | omega | (simp; omega))) _)) q); clear q))
        go_ret2
        exact ⟨ret_iib E.out.1.symm E.out.2.symm, (by repeat (first | exact q0.out | exact Qw.refl _ | refine Qw.al ?_ _ | refine Qw.dr ?_ | refine Qw.dn ?_ _ | refine Qw.sc ?_ (by first | (simp; done) | omega | (have := q0.out.size; first | omega | (simp; omega))) _))⟩
      · have x0 : wr.cell? ⟨w.heap.size, 0, none⟩ = some (.int .i64 12) := X.out.cell' 0 _ rfl
        have E : Hid (rv = (sqv A) ∧ re = (sqe A)) := Lib.hid (Prod.mk.inj eV)
        clear eV
        have C := Lib.hid (fun (w1 : World) => erS12 A bda w1)
        generalize (sqv A) = vv at *
        generalize (sqe A) = ee at *
        go_wp2_with fail
        refine region_deep (by kernel_rfl) (by as_aux_lemma => kernel_rfl) ?_
        repeat (go_big_quiet_step (fail))
        refine wpQuiet_nil ?_
        intro _ hw'
        obtain ⟨nq, hw''⟩ := hw'
        subst hw''
        go_wp2_with (go_at_call 59; ((with_reducible refine (C.out _).mono ?_); rintro e w' ⟨rfl, q⟩; replace q0 : Hid (Qw w w') := Lib.hid (Qw.trans (by repeat (first | exact q0.out | exact Qw.refl _ | refine Qw.al ?_ _ | refine Qw.dr ?_ | refine Qw.dn ?_ _ | refine Qw.sc ?_ (by first | (simp; done) | omega | (have := q0.out.size; first | omega | (simp; omega))) _)) q); clear q))
        go_ret2
        exact ⟨ret_iib E.out.1.symm E.out.2.symm, (by repeat (first | exact q0.out | exact Qw.refl _ | refine Qw.al ?_ _ | refine Qw.dr ?_ | refine Qw.dn ?_ _ | refine Qw.sc ?_ (by first | (simp; done) | omega | (have := q0.out.size; first | omega | (simp; omega))) _))⟩
      · have x0 : wr.cell? ⟨w.heap.size, 0, none⟩ = some (.int .i64 13) := X.out.cell' 0 _ rfl
        have E : Hid (rv = (max A (-A)) ∧ re = 0) := Lib.hid (Prod.mk.inj eV)
        clear eV
        have C := Lib.hid (fun (w1 : World) => erS13 A bda w1)
        generalize (max A (-A)) = vv at *
        go_wp2_with fail
        refine region_deep (by kernel_rfl) (by as_aux_lemma => kernel_rfl) ?_
        repeat (go_big_quiet_step (fail))
        refine wpQuiet_nil ?_
        intro _ hw'
        obtain ⟨nq, hw''⟩ := hw'
        subst hw''
        go_wp2_with (go_at_call 59; ((with_reducible refine (C.out _).mono ?_); rintro e w' ⟨rfl, q⟩; replace q0 : Hid (Qw w w') := Lib.hid (Qw.trans (by repeat (first | exact q0.out | exact Qw.refl _ | refine Qw.al ?_ _ | refine Qw.dr ?_ | refine Qw.dn ?_ _ | refine Qw.sc ?_ (by first | (simp; done) | omega | (have := q0.out.size; first | omega | (simp; omega))) _)) q); clear q))
        go_ret2
        exact ⟨ret_iib E.out.1.symm E.out.2.symm, (by repeat (first | exact q0.out | exact Qw.refl _ | refine Qw.al ?_ _ | refine Qw.dr ?_ | refine Qw.dn ?_ _ | refine Qw.sc ?_ (by first | (simp; done) | omega | (have := q0.out.size; first | omega | (simp; omega))) _))⟩
      · have x0 : wr.cell? ⟨w.heap.size, 0, none⟩ = some (.int .i64 14) := X.out.cell' 0 _ rfl
        have E : Hid (rv = (roundv A) ∧ re = (arge A)) := Lib.hid (Prod.mk.inj eV)
        clear eV
        have C := Lib.hid (fun (w1 : World) => erS14 A bda w1)
        generalize (roundv A) = vv at *
        generalize (arge A) = ee at *
        go_wp2_with fail
        refine region_deep (by kernel_rfl) (by as_aux_lemma => kernel_rfl) ?_
        repeat (go_big_quiet_step (fail))
        refine wpQuiet_nil ?_
        intro _ hw'
        obtain ⟨nq, hw''⟩ := hw'
        subst hw''
        go_wp2_with (go_at_call 59; ((with_reducible refine (C.out _).mono ?_); rintro e w' ⟨rfl, q⟩; replace q0 : Hid (Qw w w') := Lib.hid (Qw.trans (by repeat (first | exact q0.out | exact Qw.refl _ | refine Qw.al ?_ _ | refine Qw.dr ?_ | refine Qw.dn ?_ _ | refine Qw.sc ?_ (by first | (simp; done) | omega | (have := q0.out.size; first | omega | (simp; omega))) _)) q); clear q))
        go_ret2
        exact ⟨ret_iib E.out.1.symm E.out.2.symm, (by repeat (first | exact q0.out | exact Qw.refl _ | refine Qw.al ?_ _ | refine Qw.dr ?_ | refine Qw.dn ?_ _ | refine Qw.sc ?_ (by first | (simp; done) | omega | (have := q0.out.size; first | omega | (simp; omega))) _))⟩
      · have x0 : wr.cell? ⟨w.heap.size, 0, none⟩ = some (.int .i64 15) := X.out.cell' 0 _ rfl
        have E : Hid (rv = (fixv A) ∧ re = (arge A)) := Lib.hid (Prod.mk.inj eV)
        clear eV
        have C := Lib.hid (fun (w1 : World) => erS15 A bda w1)
        generalize (fixv A) = vv at *
        generalize (arge A) = ee at *
        go_wp2_with fail
        refine region_deep (by kernel_rfl) (by as_aux_lemma => kernel_rfl) ?_
        repeat (go_big_quiet_step (fail))
        refine wpQuiet_nil ?_
        intro _ hw'
        obtain ⟨nq, hw''⟩ := hw'
        subst hw''
        go_wp2_with (go_at_call 59; ((with_reducible refine (C.out _).mono ?_); rintro e w' ⟨rfl, q⟩; replace q0 : Hid (Qw w w') := Lib.hid (Qw.trans (by repeat (first | exact q0.out | exact Qw.refl _ | refine Qw.al ?_ _ | refine Qw.dr ?_ | refine Qw.dn ?_ _ | refine Qw.sc ?_ (by first | (simp; done) | omega | (have := q0.out.size; first | omega | (simp; omega))) _)) q); clear q))
        go_ret2
        exact ⟨ret_iib E.out.1.symm E.out.2.symm, (by repeat (first | exact q0.out | exact Qw.refl _ | refine Qw.al ?_ _ | refine Qw.dr ?_ | refine Qw.dn ?_ _ | refine Qw.sc ?_ (by first | (simp; done) | omega | (have := q0.out.size; first | omega | (simp; omega))) _))⟩
      · have x0 : wr.cell? ⟨w.heap.size, 0, none⟩ = some (.int .i64 16) := X.out.cell' 0 _ rfl
        have E : Hid (rv = (fupv A) ∧ re = (arge A)) := Lib.hid (Prod.mk.inj eV)
        clear eV
        have C := Lib.hid (fun (w1 : World) => erS16 A bda w1)
        generalize (fupv A) = vv at *
        generalize (arge A) = ee at *
        go_wp2_with fail
        refine region_deep (by kernel_rfl) (by as_aux_lemma => kernel_rfl) ?_
        repeat (go_big_quiet_step (fail))
        refine wpQuiet_nil ?_
        intro _ hw'
        obtain ⟨nq, hw''⟩ := hw'
        subst hw''
        go_wp2_with (go_at_call 59; ((with_reducible refine (C.out _).mono ?_); rintro e w' ⟨rfl, q⟩; replace q0 : Hid (Qw w w') := Lib.hid (Qw.trans (by repeat (first | exact q0.out | exact Qw.refl _ | refine Qw.al ?_ _ | refine Qw.dr ?_ | refine Qw.dn ?_ _ | refine Qw.sc ?_ (by first | (simp; done) | omega | (have := q0.out.size; first | omega | (simp; omega))) _)) q); clear q))
        go_ret2
        exact ⟨ret_iib E.out.1.symm E.out.2.symm, (by repeat (first | exact q0.out | exact Qw.refl _ | refine Qw.al ?_ _ | refine Qw.dr ?_ | refine Qw.dn ?_ _ | refine Qw.sc ?_ (by first | (simp; done) | omega | (have := q0.out.size; first | omega | (simp; omega))) _))⟩
      · have x0 : wr.cell? ⟨w.heap.size, 0, none⟩ = some (.int .i64 17) := X.out.cell' 0 _ rfl
        have E : Hid (rv = (Ev.flg (A == D)).1 ∧ re = (Ev.flg (A == D)).2) := Lib.hid (Prod.mk.inj eV)
        clear eV
        have C := Lib.hid (fun (w1 : World) => erC17 A D w1)
        generalize (Ev.flg (A == D)).1 = vv at *
        generalize (Ev.flg (A == D)).2 = ee at *
        go_wp2_with fail
        refine region_deep (by kernel_rfl) (by as_aux_lemma => kernel_rfl) ?_
        repeat (go_big_quiet_step (fail))
        refine wpQuiet_nil ?_
        intro _ hw'
        obtain ⟨nq, hw''⟩ := hw'
        subst hw''
        go_wp2_with (go_at_call 58; ((with_reducible refine (C.out _).mono ?_); rintro e w' ⟨rfl, rfl⟩))
        go_ret2
        exact ⟨ret_iib E.out.1.symm E.out.2.symm, (by repeat (first | exact q0.out | exact Qw.refl _ | refine Qw.al ?_ _ | refine Qw.dr ?_ | refine Qw.dn ?_ _ | refine Qw.sc ?_ (by first | (simp; done) | omega | (have := q0.out.size; first | omega | (simp; omega))) _))⟩
      · have x0 : wr.cell? ⟨w.heap.size, 0, none⟩ = some (.int .i64 18) := X.out.cell' 0 _ rfl
        have E : Hid (rv = (Ev.flg (A != D)).1 ∧ re = (Ev.flg (A != D)).2) := Lib.hid (Prod.mk.inj eV)
        clear eV
        have C := Lib.hid (fun (w1 : World) => erC18 A D w1)
        generalize (Ev.flg (A != D)).1 = vv at *
        generalize (Ev.flg (A != D)).2 = ee at *
        go_wp2_with fail
        refine region_deep (by kernel_rfl) (by as_aux_lemma => kernel_rfl) ?_
        repeat (go_big_quiet_step (fail))
        refine wpQuiet_nil ?_
        intro _ hw'
        obtain ⟨nq, hw''⟩ := hw'
        subst hw''
        go_wp2_with (go_at_call 58; ((with_reducible refine (C.out _).mono ?_); rintro e w' ⟨rfl, rfl⟩))
        go_ret2
        exact ⟨ret_iib E.out.1.symm E.out.2.symm, (by repeat (first | exact q0.out | exact Qw.refl _ | refine Qw.al ?_ _ | refine Qw.dr ?_ | refine Qw.dn ?_ _ | refine Qw.sc ?_ (by first | (simp; done) | omega | (have := q0.out.size; first | omega | (simp; omega))) _))⟩
      · have x0 : wr.cell? ⟨w.heap.size, 0, none⟩ = some (.int .i64 19) := X.out.cell' 0 _ rfl
        have E : Hid (rv = (Ev.flg (decide (D < A))).1 ∧ re = (Ev.flg (decide (D < A))).2) := Lib.hid (Prod.mk.inj eV)
        clear eV
        have C := Lib.hid (fun (w1 : World) => erC19 A D w1)
        generalize (Ev.flg (decide (D < A))).1 = vv at *
        generalize (Ev.flg (decide (D < A))).2 = ee at *
        go_wp2_with fail
        refine region_deep (by kernel_rfl) (by as_aux_lemma => kernel_rfl) ?_
        repeat (go_big_quiet_step (fail))
        refine wpQuiet_nil ?_
        intro _ hw'
        obtain ⟨nq, hw''⟩ := hw'
        subst hw''
        go_wp2_with (go_at_call 58; ((with_reducible refine (C.out _).mono ?_); rintro e w' ⟨rfl, rfl⟩))
        go_ret2
        exact ⟨ret_iib E.out.1.symm E.out.2.symm, (by repeat (first | exact q0.out | exact Qw.refl _ | refine Qw.al ?_ _ | refine Qw.dr ?_ | refine Qw.dn ?_ _ | refine Qw.sc ?_ (by first | (simp; done) | omega | (have := q0.out.size; first | omega | (simp; omega))) _))⟩
      · have x0 : wr.cell? ⟨w.heap.size, 0, none⟩ = some (.int .i64 20) := X.out.cell' 0 _ rfl
        have E : Hid (rv = (Ev.flg (decide (D ≤ A))).1 ∧ re = (Ev.flg (decide (D ≤ A))).2) := Lib.hid (Prod.mk.inj eV)
        clear eV
        have C := Lib.hid (fun (w1 : World) => erC20 A D w1)
        generalize (Ev.flg (decide (D ≤ A))).1 = vv at *
        generalize (Ev.flg (decide (D ≤ A))).2 = ee at *
        go_wp2_with fail
        refine region_deep (by kernel_rfl) (by as_aux_lemma => kernel_rfl) ?_
        repeat (go_big_quiet_step (fail))
        refine wpQuiet_nil ?_
        intro _ hw'
        obtain ⟨nq, hw''⟩ := hw'
        subst hw''
        go_wp2_with (go_at_call 58; ((with_reducible refine (C.out _).mono ?_); rintro e w' ⟨rfl, rfl⟩))
        go_ret2
        exact ⟨ret_iib E.out.1.symm E.out.2.symm, (by repeat (first | exact q0.out | exact Qw.refl _ | refine Qw.al ?_ _ | refine Qw.dr ?_ | refine Qw.dn ?_ _ | refine Qw.sc ?_ (by first | (simp; done) | omega | (have := q0.out.size; first | omega | (simp; omega))) _))⟩
      · have x0 : wr.cell? ⟨w.heap.size, 0, none⟩ = some (.int .i64 21) := X.out.cell' 0 _ rfl
        have E : Hid (rv = (Ev.flg (decide (A < D))).1 ∧ re = (Ev.flg (decide (A < D))).2) := Lib.hid (Prod.mk.inj eV)
        clear eV
        have C := Lib.hid (fun (w1 : World) => erC21 A D w1)
        generalize (Ev.flg (decide (A < D))).1 = vv at *
        generalize (Ev.flg (decide (A < D))).2 = ee at *
        go_wp2_with fail
        refine region_deep (by kernel_rfl) (by as_aux_lemma => kernel_rfl) ?_
        repeat (go_big_quiet_step (fail))
        refine wpQuiet_nil ?_
        intro _ hw'
        obtain ⟨nq, hw''⟩ := hw'
        subst hw''
        go_wp2_with (go_at_call 58; ((with_reducible refine (C.out _).mono ?_); rintro e w' ⟨rfl, rfl⟩))
        go_ret2
        exact ⟨ret_iib E.out.1.symm E.out.2.symm, (by repeat (first | exact q0.out | exact Qw.refl _ | refine Qw.al ?_ _ | refine Qw.dr ?_ | refine Qw.dn ?_ _ | refine Qw.sc ?_ (by first | (simp; done) | omega | (have := q0.out.size; first | omega | (simp; omega))) _))⟩
      · have x0 : wr.cell? ⟨w.heap.size, 0, none⟩ = some (.int .i64 22) := X.out.cell' 0 _ rfl
        have E : Hid (rv = (Ev.flg (decide (A ≤ D))).1 ∧ re = (Ev.flg (decide (A ≤ D))).2) := Lib.hid (Prod.mk.inj eV)
        clear eV
        have C := Lib.hid (fun (w1 : World) => erC22 A D w1)
        generalize (Ev.flg (decide (A ≤ D))).1 = vv at *
        generalize (Ev.flg (decide (A ≤ D))).2 = ee at *
        go_wp2_with fail
        refine region_deep (by kernel_rfl) (by as_aux_lemma => kernel_rfl) ?_
        repeat (go_big_quiet_step (fail))
        refine wpQuiet_nil ?_
        intro _ hw'
        obtain ⟨nq, hw''⟩ := hw'
        subst hw''
        go_wp2_with (go_at_call 58; ((with_reducible refine (C.out _).mono ?_); rintro e w' ⟨rfl, rfl⟩))
        go_ret2
        exact ⟨ret_iib E.out.1.symm E.out.2.symm, (by repeat (first | exact q0.out | exact Qw.refl _ | refine Qw.al ?_ _ | refine Qw.dr ?_ | refine Qw.dn ?_ _ | refine Qw.sc ?_ (by first | (simp; done) | omega | (have := q0.out.size; first | omega | (simp; omega))) _))⟩
      · have x0 : wr.cell? ⟨w.heap.size, 0, none⟩ = some (.int .i64 23) := X.out.cell' 0 _ rfl
        have E : Hid (rv = (Ev.flg ((A != 0) && (D != 0))).1 ∧ re = (Ev.flg ((A != 0) && (D != 0))).2) := Lib.hid (Prod.mk.inj eV)
        clear eV
        have C := Lib.hid (fun (w1 : World) => erC23 A D w1)
        generalize (Ev.flg ((A != 0) && (D != 0))).1 = vv at *
        generalize (Ev.flg ((A != 0) && (D != 0))).2 = ee at *
        go_wp2_with fail
        refine region_deep (by kernel_rfl) (by as_aux_lemma => kernel_rfl) ?_
        repeat (go_big_quiet_step (fail))
        refine wpQuiet_nil ?_
        intro _ hw'
        obtain ⟨nq, hw''⟩ := hw'
        subst hw''
        go_wp2_with (go_at_call 58; ((with_reducible refine (C.out _).mono ?_); rintro e w' ⟨rfl, rfl⟩))
        go_ret2
        exact ⟨ret_iib E.out.1.symm E.out.2.symm, (by repeat (first | exact q0.out | exact Qw.refl _ | refine Qw.al ?_ _ | refine Qw.dr ?_ | refine Qw.dn ?_ _ | refine Qw.sc ?_ (by first | (simp; done) | omega | (have := q0.out.size; first | omega | (simp; omega))) _))⟩
      · have x0 : wr.cell? ⟨w.heap.size, 0, none⟩ = some (.int .i64 24) := X.out.cell' 0 _ rfl
        have E : Hid (rv = (Ev.flg ((A != 0) || (D != 0))).1 ∧ re = (Ev.flg ((A != 0) || (D != 0))).2) := Lib.hid (Prod.mk.inj eV)
        clear eV
        have C := Lib.hid (fun (w1 : World) => erC24 A D w1)
        generalize (Ev.flg ((A != 0) || (D != 0))).1 = vv at *
        generalize (Ev.flg ((A != 0) || (D != 0))).2 = ee at *
        go_wp2_with fail
        refine region_deep (by kernel_rfl) (by as_aux_lemma => kernel_rfl) ?_
        repeat (go_big_quiet_step (fail))
        refine wpQuiet_nil ?_
        intro _ hw'
        obtain ⟨nq, hw''⟩ := hw'
        subst hw''
        go_wp2_with (go_at_call 58; ((with_reducible refine (C.out _).mono ?_); rintro e w' ⟨rfl, rfl⟩))
        go_ret2
        exact ⟨ret_iib E.out.1.symm E.out.2.symm, (by repeat (first | exact q0.out | exact Qw.refl _ | refine Qw.al ?_ _ | refine Qw.dr ?_ | refine Qw.dn ?_ _ | refine Qw.sc ?_ (by first | (simp; done) | omega | (have := q0.out.size; first | omega | (simp; omega))) _))⟩
      · have x0 : wr.cell? ⟨w.heap.size, 0, none⟩ = some (.int .i64 25) := X.out.cell' 0 _ rfl
        have E : Hid (rv = (Ev.flg ((A != 0) != (D != 0))).1 ∧ re = (Ev.flg ((A != 0) != (D != 0))).2) := Lib.hid (Prod.mk.inj eV)
        clear eV
        have C := Lib.hid (fun (w1 : World) => erC25 A D w1)
        generalize (Ev.flg ((A != 0) != (D != 0))).1 = vv at *
        generalize (Ev.flg ((A != 0) != (D != 0))).2 = ee at *
        go_wp2_with fail
        refine region_deep (by kernel_rfl) (by as_aux_lemma => kernel_rfl) ?_
        repeat (go_big_quiet_step (fail))
        refine wpQuiet_nil ?_
        intro _ hw'
        obtain ⟨nq, hw''⟩ := hw'
        subst hw''
        go_wp2_with (go_at_call 58; ((with_reducible refine (C.out _).mono ?_); rintro e w' ⟨rfl, rfl⟩))
        go_ret2
        exact ⟨ret_iib E.out.1.symm E.out.2.symm, (by repeat (first | exact q0.out | exact Qw.refl _ | refine Qw.al ?_ _ | refine Qw.dr ?_ | refine Qw.dn ?_ _ | refine Qw.sc ?_ (by first | (simp; done) | omega | (have := q0.out.size; first | omega | (simp; omega))) _))⟩

set_option maxRecDepth 100000 in
set_option maxHeartbeats 4000000 in
/-- Eval of the specification. -/
theorem erEval {B L cap : Nat} {s : Vs.St} (hg : Ev.Good s) (x : Sy.Ex) (a : Option Addr) (c : Nat) (w : World) (hp : Rst w B L cap s) (hk : KidsB w (fun _ => True) a c x.ks) :
    Calls Tryz.prog 12 #[.agg #[.int .i64 x.op, .int .i64 x.n, .slice a x.ks.length c], .pointer (some ⟨B, 0, none⟩)] w fun e w' => e = .returned (.tuple #[.int .i64 (Ev.evl s x).1, .int .i64 (Ev.evl s x).2]) ∧ Qw w w' := by
  have cr := fun w1 (h2 : KidsB w1 (fun _ => True) a c x.ks) => rw_right x.op x.n x.ks a c _ w1 h2
  rw [show Sy.Ex.mk x.op x.n x.ks = x by cases x; rfl] at cr
  obtain ⟨l1, l2⟩ := hk.cap
  have HK := Lib.hid hk
  have HP := Lib.hid hp
  have q0 : Hid (Qw w w) := Lib.hid (Qw.refl w)
  clear hk hp
  cases hr : Sy.rgt x with
  | false =>
    rw [hr] at cr
    have CR := Lib.hid cr
    clear cr
    rw [show Ev.evl s x = (0, 1) from if_neg (by rw [hr]; decide)]
    clear hr
    go_enter Tryz.func12, Tryz.ntmps12
    go_wp2_with (go_at_call 15; ((with_reducible refine (CR.out _ (KidsB.kept HK.out (by repeat (first | exact q0.out | exact Qw.refl _ | refine Qw.al ?_ _ | refine Qw.dr ?_ | refine Qw.dn ?_ _ | refine Qw.sc ?_ (by first | (simp; done) | omega | (have := q0.out.size; first | omega | (simp; omega))) _)))).mono ?_); rintro e w' ⟨rfl, q⟩; replace q0 : Hid (Qw w w') := Lib.hid (Qw.trans (by repeat (first | exact q0.out | exact Qw.refl _ | refine Qw.al ?_ _ | refine Qw.dr ?_ | refine Qw.dn ?_ _ | refine Qw.sc ?_ (by first | (simp; done) | omega | (have := q0.out.size; first | omega | (simp; omega))) _)) q); clear q))
    go_ret2
    exact ⟨rfl, q0.out⟩
  | true =>
    rw [hr] at cr
    have CR := Lib.hid cr
    rw [show Ev.evl s x = Ev.val s x from if_pos hr]
    have hok : Sy.okx x = true := by unfold Sy.rgt at hr; simp only [Bool.and_eq_true] at hr; exact hr.1
    have CV := Lib.hid (fun (w1 : World) (h1 : Rst w1 B L cap s) h3 => erValue hg x hok a c (fun _ => True) w1 h1 h3)
    clear cr hr hok
    generalize (Ev.val s x).1 = v at *
    generalize (Ev.val s x).2 = ee at *
    go_enter Tryz.func12, Tryz.ntmps12
    go_wp2_with (first
      | (go_at_call 15; ((with_reducible refine (CR.out _ (KidsB.kept HK.out (by repeat (first | exact q0.out | exact Qw.refl _ | refine Qw.al ?_ _ | refine Qw.dr ?_ | refine Qw.dn ?_ _ | refine Qw.sc ?_ (by first | (simp; done) | omega | (have := q0.out.size; first | omega | (simp; omega))) _)))).mono ?_); rintro e w' ⟨rfl, q⟩; have x0 := (Bx.kept (Bx.new w #[.int .i64 x.op, .int .i64 x.n, .slice a x.ks.length c] 24) q).cell' 0 _ rfl; have x1 := (Bx.kept (Bx.new w #[.int .i64 x.op, .int .i64 x.n, .slice a x.ks.length c] 24) q).cell' 1 _ rfl; have x2 := (Bx.kept (Bx.new w #[.int .i64 x.op, .int .i64 x.n, .slice a x.ks.length c] 24) q).cell' 2 _ rfl; replace q0 : Hid (Qw w w') := Lib.hid (Qw.trans (by repeat (first | exact q0.out | exact Qw.refl _ | refine Qw.al ?_ _ | refine Qw.dr ?_ | refine Qw.dn ?_ _ | refine Qw.sc ?_ (by first | (simp; done) | omega | (have := q0.out.size; first | omega | (simp; omega))) _)) q); clear q))
      | (go_at_call 29; ((with_reducible refine (CV.out _ (HP.out.kept (by repeat (first | exact q0.out | exact Qw.refl _ | refine Qw.al ?_ _ | refine Qw.dr ?_ | refine Qw.dn ?_ _ | refine Qw.sc ?_ (by first | (simp; done) | omega | (have := q0.out.size; first | omega | (simp; omega))) _))) (KidsB.kept HK.out (by repeat (first | exact q0.out | exact Qw.refl _ | refine Qw.al ?_ _ | refine Qw.dr ?_ | refine Qw.dn ?_ _ | refine Qw.sc ?_ (by first | (simp; done) | omega | (have := q0.out.size; first | omega | (simp; omega))) _)))).mono ?_); rintro e w' ⟨rfl, q⟩; replace q0 : Hid (Qw w w') := Lib.hid (Qw.trans (by repeat (first | exact q0.out | exact Qw.refl _ | refine Qw.al ?_ _ | refine Qw.dr ?_ | refine Qw.dn ?_ _ | refine Qw.sc ?_ (by first | (simp; done) | omega | (have := q0.out.size; first | omega | (simp; omega))) _)) q); clear q)))
    go_ret2
    exact ⟨rfl, q0.out⟩
end Go.Proofs.YtkfipjlknfinpaaGreatDoor
