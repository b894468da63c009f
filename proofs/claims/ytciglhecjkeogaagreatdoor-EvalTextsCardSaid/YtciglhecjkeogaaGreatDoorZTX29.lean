import Derived.Test.YtciglhecjkeogaaGreatDoorZTX11
import Derived.Test.YtciglhecjkeogaaGreatDoorZTX15
import Derived.Test.YtciglhecjkeogaaGreatDoorZTX28
set_option linter.unusedVariables false
set_option linter.unusedSimpArgs false
namespace Go.Proofs.YtciglhecjkeogaaGreatDoor
open Go.RowKit
set_option maxRecDepth 100000 in
set_option maxHeartbeats 4000000 in
theorem vrSet {w : World} {B L cap : Nat} {s : Vs.St} (h : Rst w B L cap s) (n v : Int) : Calls Tryz.prog 21 #[.pointer (some ⟨B, 0, none⟩), .int .i64 n, .int .i64 v] w fun e w' => e = .returned (.int .i64 (Vs.serr n v)) ∧ Rst w' B L cap (s.set n v) ∧ Ty B L w w' := by
  have hl := vrLocal n
  have hc := vrCommon n
  have hs := vrSystem n
  have hv := vrValid v
  have H := Lib.hid h
  by_cases hS : Vs.isS n
  · have e2 : Vs.serr n v = 13 := by unfold Vs.serr; rw [if_pos hS]
    have e1 : s.set n v = s := by unfold Vs.St.set; rw [if_pos (by rw [e2]; decide)]
    rw [e1, e2]
    rw [decide_eq_true hS] at hs
    have HS := Lib.hid hs
    clear e1 e2 h hl hc hs hv hS
    go_enter Tryz.func21, Tryz.ntmps21
    go_wp2_with (go_at_call 34; ((with_reducible refine (HS.out _).mono ?_); rintro e w' ⟨rfl, rfl⟩))
    go_ret
    exact ⟨rfl, H.out, Ty.refl _ _ _⟩
  · rw [decide_eq_false hS] at hs
    have HS := Lib.hid hs
    by_cases hN : ¬ Vs.isL n ∧ ¬ Vs.isC n
    · have e2 : Vs.serr n v = 6 := by unfold Vs.serr; rw [if_neg hS, if_pos hN]
      have e1 : s.set n v = s := by unfold Vs.St.set; rw [if_pos (by rw [e2]; decide)]
      rw [e1, e2]
      rw [decide_eq_false hN.1] at hl
      rw [decide_eq_false hN.2] at hc
      have HL := Lib.hid hl
      have HC := Lib.hid hc
      clear e1 e2 h hl hc hs hv hS hN
      go_enter Tryz.func21, Tryz.ntmps21
      go_wp2_with (first | (go_at_call 35; ((with_reducible refine (HL.out _).mono ?_); rintro e w' ⟨rfl, rfl⟩)) | (go_at_call 36; ((with_reducible refine (HC.out _).mono ?_); rintro e w' ⟨rfl, rfl⟩)) | (go_at_call 34; ((with_reducible refine (HS.out _).mono ?_); rintro e w' ⟨rfl, rfl⟩)))
      go_ret
      exact ⟨rfl, H.out, Ty.refl _ _ _⟩
    · have HL := Lib.hid hl
      have HC := Lib.hid hc
      by_cases hV : Vs.vld v
      · rw [decide_eq_true hV] at hv
        have HV := Lib.hid hv
        have e2 : Vs.serr n v = 0 := by unfold Vs.serr; rw [if_neg hS, if_neg hN, if_pos hV]
        rw [e2]
        by_cases hL : Vs.isL n
        · rw [decide_eq_true hL] at hl
          replace HL := Lib.hid hl
          have lt := at_lt h.ok hL
          have e1 : s.set n v = { s with ls := s.ls.set (s.at n) v } := by unfold Vs.St.set; rw [if_neg (fun k => k e2), if_pos hL]
          rw [e1]
          have HP : Hid (∀ k, s.at n = k → ∀ w', Qw w w' → Rst (w'.setCell ⟨L, k, none⟩ (.int .i64 v)) B L cap { s with ls := s.ls.set k v }) := Lib.hid fun k ek w' q => by
            subst ek
            exact (h.kept q).setL lt v
          have cl := h.cellL lt
          have cz := h.freeL (s.at n)
          have c0 := h.cell0
          have h1 := h.ok.n1
          have h2 := h.ok.n2
          have h3 := h.c1
          have hcap := h.c2
          unfold maxLen at hcap
          obtain ⟨k1, k2⟩ := hL
          obtain ⟨m, hm⟩ : ∃ m : Nat, s.n = m + 1 := ⟨s.n - 1, by omega⟩
          obtain ⟨j, rfl⟩ : ∃ j : Nat, n = 1 + (j : Int) := ⟨(n - 1).toNat, by omega⟩
          have eat : s.at (1 + (j : Int)) = m * 33 + j := by unfold Vs.St.at; omega
          rw [eat] at cl cz ⊢
          replace eat := Lib.hid eat
          generalize s.ls.getD (m * 33 + j) 0 = x at *
          have f1 : IntKind.i64.wrap (1 + (j : Int) - 1) = j := (IntWalk.i64_in _ (by omega)).trans (by omega)
          rw [hm] at c0 h1 h2 h3
          have f2 : IntKind.i64.wrap (((m + 1 : Nat) : Int) - 1) = m := (IntWalk.i64_in _ (by omega)).trans (by omega)
          have f4 : IntKind.i64.wrap (m : Int) = m := IntWalk.i64_in _ (by omega)
          have b4 : m < m + 1 := by omega
          have b5 : (m : Int) < (m : Int) + 1 := by omega
          have b1 : (m : Int) < ((m + 1 : Nat) : Int) := by omega
          have b2 : 0 ≤ (m : Int) := by omega
          have b3 : (j : Int) < 33 := by omega
          replace hm := Lib.hid hm
          clear hl hc hs e1 e2 h lt hv hN hV hS
          go_enter Tryz.func21, Tryz.ntmps21
          go_wp2_with (first | (go_at_call 35; ((with_reducible refine (HL.out _).mono ?_); rintro e w' ⟨rfl, rfl⟩)) | (go_at_call 34; ((with_reducible refine (HS.out _).mono ?_); rintro e w' ⟨rfl, rfl⟩)) | (go_at_call 37; ((with_reducible refine (HV.out _).mono ?_); rintro e w' ⟨rfl, rfl⟩)))
          refine wp_region_still_tail 16 (by kernel_rfl) (by kernel_rfl) ?_
          change wpStill _ _ (World.drew _) _ _ _
          simp only [List.take_succ_cons, List.take_zero, List.drop_succ_cons, List.drop_zero]
          repeat still_step
          refine wpStill_nil ?_
          change wpList _ _ _ _ _ (World.drew _)
          go_wp2
          go_ret
          exact ⟨rfl, HP.out _ eat.out _ (Qw.dr (Qw.refl _)), Ty.one (Qw.dr (Qw.refl _)) (.inr rfl) _ _⟩
        · rw [decide_eq_false hL] at hl
          replace HL := Lib.hid hl
          have hC : Vs.isC n := by
            by_cases k : Vs.isC n
            · exact k
            · exact absurd ⟨hL, k⟩ hN
          rw [decide_eq_true hC] at hc
          replace HC := Lib.hid hc
          have e1 : s.set n v = { s with cm := s.cm.set (n - 100).toNat v } := by unfold Vs.St.set; rw [if_neg (fun k => k e2), if_neg hL]
          rw [e1]
          obtain ⟨k1, k2⟩ := hC
          have cl := h.cellC (k := (n - 100).toNat) (by omega)
          have cz := h.freeB (1 + (n - 100).toNat)
          have st := h.setC (k := (n - 100).toNat) (by omega) v
          obtain ⟨j, rfl⟩ : ∃ j : Nat, n = 100 + (j : Int) := ⟨(n - 100).toNat, by omega⟩
          have e3 : (100 + (j : Int) - 100).toNat = j := by omega
          rw [e3] at cl cz st ⊢
          generalize s.cm.getD j 0 = x at *
          have ST := Lib.hid st
          have f1 : IntKind.i64.wrap (100 + (j : Int) - 100) = j := (IntWalk.i64_in _ (by omega)).trans (by omega)
          have b3 : (j : Int) < 100 := by omega
          clear hl hc hs e1 e2 e3 h hL st hv hN hV hS
          go_enter Tryz.func21, Tryz.ntmps21
          go_wp2_with (first | (go_at_call 35; ((with_reducible refine (HL.out _).mono ?_); rintro e w' ⟨rfl, rfl⟩)) | (go_at_call 36; ((with_reducible refine (HC.out _).mono ?_); rintro e w' ⟨rfl, rfl⟩)) | (go_at_call 34; ((with_reducible refine (HS.out _).mono ?_); rintro e w' ⟨rfl, rfl⟩)) | (go_at_call 37; ((with_reducible refine (HV.out _).mono ?_); rintro e w' ⟨rfl, rfl⟩)))
          go_ret
          exact ⟨rfl, ST.out, Ty.setB _ _ _ _ _⟩
      · rw [decide_eq_false hV] at hv
        have HV := Lib.hid hv
        have e2 : Vs.serr n v = 3 := by unfold Vs.serr; rw [if_neg hS, if_neg hN, if_neg hV]
        have e1 : s.set n v = s := by unfold Vs.St.set; rw [if_pos (by rw [e2]; decide)]
        rw [e1, e2]
        by_cases hL : Vs.isL n
        · rw [decide_eq_true hL] at hl
          replace HL := Lib.hid hl
          clear e1 e2 h hl hc hs hv hS hN hL hV
          go_enter Tryz.func21, Tryz.ntmps21
          go_wp2_with (first | (go_at_call 35; ((with_reducible refine (HL.out _).mono ?_); rintro e w' ⟨rfl, rfl⟩)) | (go_at_call 36; ((with_reducible refine (HC.out _).mono ?_); rintro e w' ⟨rfl, rfl⟩)) | (go_at_call 34; ((with_reducible refine (HS.out _).mono ?_); rintro e w' ⟨rfl, rfl⟩)) | (go_at_call 37; ((with_reducible refine (HV.out _).mono ?_); rintro e w' ⟨rfl, rfl⟩)))
          go_ret
          exact ⟨rfl, H.out, Ty.refl _ _ _⟩
        · have hC : Vs.isC n := by
            by_cases k : Vs.isC n
            · exact k
            · exact absurd ⟨hL, k⟩ hN
          rw [decide_eq_false hL] at hl
          rw [decide_eq_true hC] at hc
          replace HL := Lib.hid hl
          replace HC := Lib.hid hc
          clear e1 e2 h hl hc hs hv hS hN hL hV hC
          go_enter Tryz.func21, Tryz.ntmps21
          go_wp2_with (first | (go_at_call 35; ((with_reducible refine (HL.out _).mono ?_); rintro e w' ⟨rfl, rfl⟩)) | (go_at_call 36; ((with_reducible refine (HC.out _).mono ?_); rintro e w' ⟨rfl, rfl⟩)) | (go_at_call 34; ((with_reducible refine (HS.out _).mono ?_); rintro e w' ⟨rfl, rfl⟩)) | (go_at_call 37; ((with_reducible refine (HV.out _).mono ?_); rintro e w' ⟨rfl, rfl⟩)))
          go_ret
          exact ⟨rfl, H.out, Ty.refl _ _ _⟩
end Go.Proofs.YtciglhecjkeogaaGreatDoor
set_option linter.unusedVariables false
set_option linter.unusedSimpArgs false
namespace Go.Proofs.YtciglhecjkeogaaGreatDoor
open Go.RowKit
theorem IntsB.then {w w' : World} {v : Value} {zs : List Int} (h : IntsB w.heap.size w v zs) (q : Qw w w') : IntsB w'.heap.size w' v zs := (h.kept q (Nat.le_refl _)).mono q.size
theorem Qw.px {P : Nat} {w0 w w' : World} (q : Qw w0 w) (h : Px P w w') (hP : w0.heap.size ≤ P) : Qw w0 w' :=
  ⟨h.os.trans q.os, h.tape.trans q.tape, h.output.trans q.output, Nat.le_trans q.size h.size, fun k hk => (h.block k (Nat.lt_of_lt_of_le hk q.size) (by omega)).trans (q.block k hk)⟩
theorem Stb.px {T E : TypeId} {w w' : World} {P B L cap : Nat} {s : Vs.St} (h : Stb T E w B L cap s) (q : Px P w w') (h1 : B ≠ P) (h2 : L ≠ P) : Stb T E w' B L cap s :=
  ⟨(q.block B h.ltB h1).trans h.bx, h.lv.same (q.block L h.ltL h2), h.ne, h.c1, h.c2, h.ok⟩
theorem TpB.ty {B L : Nat} {w0 w w' : World} {P : Nat} {v : Value} {zs : List Int} (h : TpB w P v zs) (hv : IntsB w0.heap.size w0 v zs) (q0 : Qw w0 w') (hP : w0.heap.size ≤ P) (q : Ty B L w w') (h1 : P ≠ B) (h2 : P ≠ L) : TpB w' P v zs := by
  obtain ⟨k, t1, t2, t3⟩ := h
  exact ⟨k, (q.block P (lt_of_block t1) h1 h2).trans t1, (hv.kept q0 (Nat.le_refl _)).mono hP, t3⟩
theorem exprN (d : Nat) (d1 : 1 ≤ d) (d6 : d ≤ 6) (P : Nat) (v : Value) (zs : List Int) {w0 w : World} (hT : TapeAt w P v zs 0) (q : Qw w0 w) (hP : w0.heap.size ≤ P) : Calls Tryz.prog 7 #[.pointer (some ⟨P, 0, none⟩), .int .i64 (d : Int)] w fun e w' => ∃ (x : Sy.Ex) (ka : Option Addr) (kc : Nat),
    e = .returned (.agg #[.int .i64 x.op, .int .i64 x.n, .slice ka x.ks.length kc]) ∧ Sy.okx x = true ∧ Sy.dpt x ≤ d ∧ Kd w' ka kc x.ks ∧ Qw w0 w' := by
  refine (exprA d w d1 d6 ⟨0, hT⟩).mono ?_
  rintro e w' ⟨x, ka, kc, rfl, ok, dp, K, _, h⟩
  exact ⟨x, ka, kc, rfl, ok, dp, K.mono (fun _ _ => trivial), q.px h hP⟩
def StR (w : World) (e : Ending) (w' : World) : Prop := ∃ (s : Vs.St) (B L cap B' L' cap' : Nat),
  e = .returned (.tuple #[.pointer (some ⟨B, 0, none⟩), .pointer (some ⟨B', 0, none⟩)]) ∧ Pst w' B L cap s ∧ Rst w' B' L' cap' s ∧ s.n = 1 ∧ Ev.All s ∧ Qw w w'
structure Ds (n B L B' L' P : Nat) : Prop where
  b : n ≤ B
  l : n ≤ L
  b' : n ≤ B'
  l' : n ≤ L'
  p : n ≤ P
  bp : B ≠ P
  lp : L ≠ P
  bp' : B' ≠ P
  lp' : L' ≠ P
  x1 : B ≠ B'
  x2 : B ≠ L'
  x3 : L ≠ B'
  x4 : L ≠ L'
set_option maxRecDepth 100000 in
set_option maxHeartbeats 4000000 in
theorem evStores (v : Value) (zs : List Int) (w : World) (hv : IntsB w.heap.size w v zs) : Calls Tryz.prog 6 #[v] w (StR w) := by
  have HV := Lib.hid hv
  obtain ⟨sa, sc, rfl, _⟩ := hv.len
  clear hv
  have q0 : Hid (Qw w w) := Lib.hid (Qw.refl w)
  go_enter Tryz.func6, Tryz.ntmps6
  go_upto_region 3 with (first
    | (go_at_call 12; ((with_reducible refine (vaNew _).mono ?_); rintro e w1 ⟨B, L, cap, rfl, hP, hB, hL, q⟩; have Q1 := Lib.hid (Qw.trans q0.out q); have P := Lib.hid hP; have D1 := Lib.hid (And.intro hB (And.intro hL (And.intro hP.ltB hP.ltL))); clear hP hB hL q))
    | (go_at_call 16; ((with_reducible refine (vrNew _).mono ?_); rintro e w2 ⟨B', L', cap', rfl, hP, hB, hL, q⟩; have D2 := Lib.hid (And.intro hB (And.intro hL (And.intro hP.ltB hP.ltL))); have R := Lib.hid hP; replace P := Lib.hid (P.out.kept q); have Q2 := Lib.hid (Qw.trans Q1.out q); have QL := Lib.hid q.le; clear hP hB hL q))
    | (go_at_call 8; ((with_reducible refine (newF _ _ _ (HV.out.then Q2.out)).mono ?_); rintro e w3 ⟨rfl, tp, q⟩; have TP : Hid (TpB w3 w2.heap.size _ zs) := Lib.hid ⟨0, tp⟩; replace P := Lib.hid (P.out.kept q); replace R := Lib.hid (R.out.kept q); have Q3 := Lib.hid (Qw.trans Q2.out q); clear tp q)))
  have DS : Hid (Ds w.heap.size B L B' L' w2.heap.size) := Lib.hid (by
    obtain ⟨a1, a2, a3, a4⟩ := D1.out
    obtain ⟨b1, b2, b3, b4⟩ := D2.out
    have := Q1.out.size
    have := Q2.out.size
    have := QL.out
    have := q0.out.size
    exact ⟨by omega, by omega, by omega, by omega, by omega, by omega, by omega, by omega, by omega, by omega, by omega, by omega, by omega⟩)
  generalize w2.heap.size = T at *
  have hn : (some (⟨B, 0, none⟩ : Addr)) ≠ none := by simp
  clear D1 D2 Q1 Q2 QL q0
  go_wp2_with fail
  go_loopg [7] 8 (fun g iv wr => ∃ (i : Nat) (s : Vs.St), i ≤ 8 ∧ g = 8 - i ∧ iv = .int .i64 (i : Int) ∧ Hid (Pst wr B L cap s) ∧ Hid (Rst wr B' L' cap' s) ∧ Hid (TpB wr T (.slice sa zs.length sc) zs) ∧ Hid (s.n = 1 ∧ Ev.All s) ∧ Hid (Qw w wr))
  case atStart => exact ⟨0, Vs.new, by decide, rfl, rfl, P, R, TP, Lib.hid ⟨rfl, Ev.all_new⟩, Q3⟩
  case round =>
    clear P R TP Q3
    obtain ⟨i, s, hi, hg, rfl, P, R, TP, AL, QQ⟩ := hrel
    by_cases hlt : i < 8
    · have hi2 : (i : Int) < 8 := by omega
      go_wp2_with (first
        | (go_at_call 17; ((with_reducible refine (variableA _ TP.out).mono ?_); rintro e w' ⟨r, rfl, r0, r1, tp, q⟩; replace P := Lib.hid (P.out.px q DS.out.bp DS.out.lp); replace R := Lib.hid (R.out.px q DS.out.bp' DS.out.lp'); replace TP := Lib.hid tp; replace QQ := Lib.hid (QQ.out.px q DS.out.p); clear tp q))
        | (go_at_call 18; ((with_reducible refine (numberA _ TP.out).mono ?_); rintro e w' ⟨u, rfl, u0, u1, tp, q⟩; replace P := Lib.hid (P.out.px q DS.out.bp DS.out.lp); replace R := Lib.hid (R.out.px q DS.out.bp' DS.out.lp'); replace TP := Lib.hid tp; replace QQ := Lib.hid (QQ.out.px q DS.out.p); clear tp q))
        | (go_at_call 19; ((with_reducible refine (nextA _ (by decide) (by decide) _ TP.out).mono ?_); rintro e w' ⟨k, rfl, k0, k1, tp, q⟩; replace P := Lib.hid (P.out.px q DS.out.bp DS.out.lp); replace R := Lib.hid (R.out.px q DS.out.bp' DS.out.lp'); replace TP := Lib.hid tp; replace QQ := Lib.hid (QQ.out.px q DS.out.p); clear tp q))
        | (go_at_call 20; ((with_reducible refine (vaSet P.out _ _).mono ?_); rintro e w' ⟨rfl, hp, q⟩; replace P := Lib.hid hp; replace R := Lib.hid (R.out.ty q DS.out.x1.symm DS.out.x3.symm DS.out.x2.symm DS.out.x4.symm); replace QQ := Lib.hid (QQ.out.tyn q DS.out.b DS.out.l); replace TP := Lib.hid (TP.out.ty HV.out QQ.out DS.out.p q DS.out.bp.symm DS.out.lp.symm); clear hp q))
        | (go_at_call 21; ((with_reducible refine (vrSet R.out _ _).mono ?_); rintro e w' ⟨rfl, hp, q⟩; replace R := Lib.hid hp; replace P := Lib.hid (P.out.ty q DS.out.x1 DS.out.x2 DS.out.x3 DS.out.x4); replace QQ := Lib.hid (QQ.out.tyn q DS.out.b' DS.out.l'); replace TP := Lib.hid (TP.out.ty HV.out QQ.out DS.out.p q DS.out.bp'.symm DS.out.lp'.symm); clear hp q)))
      all_goals
        go_roundg (8 - (i + 1))
        case measure => omega
        case rel => exact ⟨i + 1, _, by omega, rfl, by go_num, P, R, TP, Lib.hid ⟨(Ev.set_n _ _ _).trans AL.out.1, Ev.all_set AL.out.2 (by unfold Ev.Bd; omega) _⟩, QQ⟩
    · obtain rfl : i = 8 := by omega
      go_wp2_with fail
      go_ret2
      exact ⟨s, B, L, cap, B', L', cap', rfl, P.out, R.out, AL.out.1, AL.out.2, QQ.out⟩
end Go.Proofs.YtciglhecjkeogaaGreatDoor
set_option linter.unusedVariables false
set_option linter.unusedSimpArgs false
namespace Go.Proofs.YtciglhecjkeogaaGreatDoor
open Go.RowKit
theorem exprN5 (P : Nat) (v : Value) (zs : List Int) {w0 w : World} (hT : TapeAt w P v zs 0) (q : Qw w0 w) (hP : w0.heap.size ≤ P) : Calls Tryz.prog 7 #[.pointer (some ⟨P, 0, none⟩), .int .i64 5] w fun e w' => ∃ (x : Sy.Ex) (ka : Option Addr) (kc : Nat),
    e = .returned (.agg #[.int .i64 x.op, .int .i64 x.n, .slice ka x.ks.length kc]) ∧ Sy.okx x = true ∧ Sy.dpt x ≤ 5 ∧ Kd w' ka kc x.ks ∧ Qw w0 w' := exprN 5 (by decide) (by decide) P v zs hT q hP
section
variable {w w' : World} {D E : Nat} {x y : Sy.Ex} {xa ya : Option Addr} {xc yc : Nat}
end
namespace Ev
theorem both_comm (a b : Int) : both a b = both b a := Bool.and_comm _ _
theorem add_comm (a b : Int) : addv b a = addv a b ∧ adde b a = adde a b := by
  unfold addv adde
  rw [both_comm b a, Int.add_comm b a]
  exact ⟨rfl, rfl⟩
theorem md_comm (a b c m : Int) : mdv b a c m = mdv a b c m ∧ mdok b a c m = mdok a b c m := by
  have e1 : ng b a c = ng a b c := by unfold ng; cases decide (a < 0) <;> cases decide (b < 0) <;> rfl
  have e2 : mq b a c = mq a b c := by unfold mq; rw [Int.mul_comm (Mth.mag b)]
  have e3 : mr b a c = mr a b c := by unfold mr; rw [Int.mul_comm (Mth.mag b)]
  unfold mdv mdok
  rw [e1, e2, e3]
  exact ⟨rfl, rfl⟩
theorem mul_comm (a b : Int) : mulv b a = mulv a b ∧ mule b a = mule a b := by
  unfold mulv mule
  rw [both_comm b a, (md_comm a b 1000000 2).1, (md_comm a b 1000000 2).2]
  exact ⟨rfl, rfl⟩
end Ev
end Go.Proofs.YtciglhecjkeogaaGreatDoor

