
/- Two stores with the same values, out of a tape; expressions out of a tape. -/
import Derived.Test.YtkfipjlknfinpaaDoorEvE
import Derived.Test.YtkfipjlknfinpaaDoorStB
import Derived.Test.YtkfipjlknfinpaaDoorVrB
set_option linter.unusedVariables false
set_option linter.unusedSimpArgs false
namespace Go.Proofs.YtkfipjlknfinpaaDoor
open Go.RowKit

theorem IntsB.then {w w' : World} {v : Value} {zs : List Int} (h : IntsB w.heap.size w v zs) (q : Qw w w') : IntsB w'.heap.size w' v zs := (h.kept q (Nat.le_refl _)).mono q.size
/-- What has turned in a block that is new has not turned below. -/
theorem Qw.px {P : Nat} {w0 w w' : World} (q : Qw w0 w) (h : Px P w w') (hP : w0.heap.size ≤ P) : Qw w0 w' :=
  ⟨h.os.trans q.os, h.tape.trans q.tape, h.output.trans q.output, Nat.le_trans q.size h.size, fun k hk => (h.block k (Nat.lt_of_lt_of_le hk q.size) (by omega)).trans (q.block k hk)⟩
theorem Stb.px {T E : TypeId} {w w' : World} {P B L cap : Nat} {s : Vs.St} (h : Stb T E w B L cap s) (q : Px P w w') (h1 : B ≠ P) (h2 : L ≠ P) : Stb T E w' B L cap s :=
  ⟨(q.block B h.ltB h1).trans h.bx, h.lv.same (q.block L h.ltL h2), h.ne, h.c1, h.c2, h.ok⟩
theorem TpB.ty {B L : Nat} {w0 w w' : World} {P : Nat} {v : Value} {zs : List Int} (h : TpB w P v zs) (hv : IntsB w0.heap.size w0 v zs) (q0 : Qw w0 w') (hP : w0.heap.size ≤ P) (q : Ty B L w w') (h1 : P ≠ B) (h2 : P ≠ L) : TpB w' P v zs := by
  obtain ⟨k, t1, t2, t3⟩ := h
  exact ⟨k, (q.block P (lt_of_block t1) h1 h2).trans t1, (hv.kept q0 (Nat.le_refl _)).mono hP, t3⟩

/-- An expression out of a new tape. -/
theorem exprN (d : Nat) (d1 : 1 ≤ d) (d6 : d ≤ 6) (P : Nat) (v : Value) (zs : List Int) {w0 w : World} (hT : TapeAt w P v zs 0) (q : Qw w0 w) (hP : w0.heap.size ≤ P) : Calls Tryd.prog 12 #[.pointer (some ⟨P, 0, none⟩), .int .i64 (d : Int)] w fun e w' => ∃ (x : Sy.Ex) (ka : Option Addr) (kc : Nat),
    e = .returned (.agg #[.int .i64 x.op, .int .i64 x.n, .slice ka x.ks.length kc]) ∧ Sy.okx x = true ∧ Sy.dpt x ≤ d ∧ Kd w' ka kc x.ks ∧ Qw w0 w' := by
  refine (exprA d w d1 d6 ⟨0, hT⟩).mono ?_
  rintro e w' ⟨x, ka, kc, rfl, ok, dp, K, _, h⟩
  exact ⟨x, ka, kc, rfl, ok, dp, K.mono (fun _ _ => trivial), q.px h hP⟩

/-- What stores leaves. -/
def StR (w : World) (e : Ending) (w' : World) : Prop := ∃ (s : Vs.St) (B L cap B' L' cap' : Nat),
  e = .returned (.tuple #[.pointer (some ⟨B, 0, none⟩), .pointer (some ⟨B', 0, none⟩)]) ∧ Pst w' B L cap s ∧ Rst w' B' L' cap' s ∧ s.n = 1 ∧ Ev.All s ∧ Qw w w'

/-- Where the blocks lie. -/
structure Ds (n B L B' L' P : Nat) : Prop where
  b : n ≤ B
  l : n ≤ L
  b' : n ≤ B'
  l' : n ≤ L'
  p : n ≤ P
  bp : B ≠ P
  lp : L ≠ P
  bp' : B' ≠ P
  lp' : L' ≠ P
  x1 : B ≠ B'
  x2 : B ≠ L'
  x3 : L ≠ B'
  x4 : L ≠ L'

set_option maxRecDepth 100000 in
set_option maxHeartbeats 4000000 in
theorem evStores (v : Value) (zs : List Int) (w : World) (hv : IntsB w.heap.size w v zs) : Calls Tryd.prog 11 #[v] w (StR w) := by
  have HV := Lib.hid hv
  obtain ⟨sa, sc, rfl, _⟩ := hv.len
  clear hv
  have q0 : Hid (Qw w w) := Lib.hid (Qw.refl w)
  go_enter Tryd.func11, Tryd.ntmps11
  go_upto_region 3 with (first
    | (go_at_call 23; ((with_reducible refine (vaNew _).mono ?_); rintro e w1 ⟨B, L, cap, rfl, hP, hB, hL, q⟩; have Q1 := Lib.hid (Qw.trans q0.out q); have P := Lib.hid hP; have D1 := Lib.hid (And.intro hB (And.intro hL (And.intro hP.ltB hP.ltL))); clear hP hB hL q))
    | (go_at_call 27; ((with_reducible refine (vrNew _).mono ?_); rintro e w2 ⟨B', L', cap', rfl, hP, hB, hL, q⟩; have D2 := Lib.hid (And.intro hB (And.intro hL (And.intro hP.ltB hP.ltL))); have R := Lib.hid hP; replace P := Lib.hid (P.out.kept q); have Q2 := Lib.hid (Qw.trans Q1.out q); have QL := Lib.hid q.le; clear hP hB hL q))
    | (go_at_call 13; ((with_reducible refine (newF _ _ _ (HV.out.then Q2.out)).mono ?_); rintro e w3 ⟨rfl, tp, q⟩; have TP : Hid (TpB w3 w2.heap.size _ zs) := Lib.hid ⟨0, tp⟩; replace P := Lib.hid (P.out.kept q); replace R := Lib.hid (R.out.kept q); have Q3 := Lib.hid (Qw.trans Q2.out q); clear tp q)))
  have DS : Hid (Ds w.heap.size B L B' L' w2.heap.size) := Lib.hid (by
    obtain ⟨a1, a2, a3, a4⟩ := D1.out
    obtain ⟨b1, b2, b3, b4⟩ := D2.out
    have := Q1.out.size
    have := Q2.out.size
    have := QL.out
    have := q0.out.size
    exact ⟨by omega, by omega, by omega, by omega, by omega, by omega, by omega, by omega, by omega, by omega, by omega, by omega, by omega⟩)
  generalize w2.heap.size = T at *
  have hn : (some (⟨B, 0, none⟩ : Addr)) ≠ none := by simp
  clear D1 D2 Q1 Q2 QL q0
  go_wp2_with fail
  go_loopg [7] 8 (fun g iv wr => ∃ (i : Nat) (s : Vs.St), i ≤ 8 ∧ g = 8 - i ∧ iv = .int .i64 (i : Int) ∧ Hid (Pst wr B L cap s) ∧ Hid (Rst wr B' L' cap' s) ∧ Hid (TpB wr T (.slice sa zs.length sc) zs) ∧ Hid (s.n = 1 ∧ Ev.All s) ∧ Hid (Qw w wr))
  case atStart => exact ⟨0, Vs.new, by decide, rfl, rfl, P, R, TP, Lib.hid ⟨rfl, Ev.all_new⟩, Q3⟩
  case round =>
    clear P R TP Q3
    obtain ⟨i, s, hi, hg, rfl, P, R, TP, AL, QQ⟩ := hrel
    by_cases hlt : i < 8
    · have hi2 : (i : Int) < 8 := by omega
      go_wp2_with (first
        | (go_at_call 28; ((with_reducible refine (variableA _ TP.out).mono ?_); rintro e w' ⟨r, rfl, r0, r1, tp, q⟩; replace P := Lib.hid (P.out.px q DS.out.bp DS.out.lp); replace R := Lib.hid (R.out.px q DS.out.bp' DS.out.lp'); replace TP := Lib.hid tp; replace QQ := Lib.hid (QQ.out.px q DS.out.p); clear tp q))
        | (go_at_call 29; ((with_reducible refine (numberA _ TP.out).mono ?_); rintro e w' ⟨u, rfl, u0, u1, tp, q⟩; replace P := Lib.hid (P.out.px q DS.out.bp DS.out.lp); replace R := Lib.hid (R.out.px q DS.out.bp' DS.out.lp'); replace TP := Lib.hid tp; replace QQ := Lib.hid (QQ.out.px q DS.out.p); clear tp q))
        | (go_at_call 30; ((with_reducible refine (nextA _ (by decide) (by decide) _ TP.out).mono ?_); rintro e w' ⟨k, rfl, k0, k1, tp, q⟩; replace P := Lib.hid (P.out.px q DS.out.bp DS.out.lp); replace R := Lib.hid (R.out.px q DS.out.bp' DS.out.lp'); replace TP := Lib.hid tp; replace QQ := Lib.hid (QQ.out.px q DS.out.p); clear tp q))
        | (go_at_call 24; ((with_reducible refine (vaSet P.out _ _).mono ?_); rintro e w' ⟨rfl, hp, q⟩; replace P := Lib.hid hp; replace R := Lib.hid (R.out.ty q DS.out.x1.symm DS.out.x3.symm DS.out.x2.symm DS.out.x4.symm); replace QQ := Lib.hid (QQ.out.tyn q DS.out.b DS.out.l); replace TP := Lib.hid (TP.out.ty HV.out QQ.out DS.out.p q DS.out.bp.symm DS.out.lp.symm); clear hp q))
        | (go_at_call 31; ((with_reducible refine (vrSet R.out _ _).mono ?_); rintro e w' ⟨rfl, hp, q⟩; replace R := Lib.hid hp; replace P := Lib.hid (P.out.ty q DS.out.x1 DS.out.x2 DS.out.x3 DS.out.x4); replace QQ := Lib.hid (QQ.out.tyn q DS.out.b' DS.out.l'); replace TP := Lib.hid (TP.out.ty HV.out QQ.out DS.out.p q DS.out.bp'.symm DS.out.lp'.symm); clear hp q)))
      all_goals
        go_roundg (8 - (i + 1))
        case measure => omega
        case rel => exact ⟨i + 1, _, by omega, rfl, by go_num, P, R, TP, Lib.hid ⟨(Ev.set_n _ _ _).trans AL.out.1, Ev.all_set AL.out.2 (by unfold Ev.Bd; omega) _⟩, QQ⟩
    · obtain rfl : i = 8 := by omega
      go_wp2_with fail
      go_ret2
      exact ⟨s, B, L, cap, B', L', cap', rfl, P.out, R.out, AL.out.1, AL.out.2, QQ.out⟩
end Go.Proofs.YtkfipjlknfinpaaDoor
