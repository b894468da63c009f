
/- ModalSets: ModalSets: a code sets its group and nothing else; a block without codes and words changes nothing.
   Conditions: none; every input. -/
import Derived.Test.YtijakijjeoaikaaRows
import Derived.Test.YtijakijjeoaikaaFrameM
import Derived.Test.YtijakijjeoaikaaMaA
import Derived.Test.YtijakijjeoaikaaMcA
import Derived.Test.YtijakijjeoaikaaMvE
import Derived.Test.YtijakijjeoaikaaMdS
import Derived.Test.YtijakijjeoaikaaMvD
set_option linter.unusedVariables false
set_option linter.unusedSimpArgs false
namespace Go.Proofs.Ytijakijjeoaikaa
open Go.ChangeShapes Go.WideShapes Go.ChangeAt Go.RowKit

section
variable {ops : Array Oper} {rest : List Oper} {ty ty2 : TypeId} {pos pos2 : String} {after after2 : Array Edge} {dst2 : Option Tmp} {a : Act} {w : World} {Q : Exit → Act → World → Prop}
/-- A new state in memory, put there at once. -/
theorem alst_md {t : Md.S} (x y : Tmp) (hx : ∀ v, (a.put (some x) v).eval (.tmp x) = v) (hy : ∀ v, (a.put (some x) v).eval (.tmp y) = .agg (mdc t))
    (h : ∀ w' P, w.heap.size ≤ P → Bx w' P (mdc t) MT → Qw w w' → wpList Try.prog ops Q rest ((a.put (some x) (.pointer (some ⟨P, 0, none⟩))).put dst2 undef) w') :
    wpList Try.prog ops Q (⟨some x, .alloc MT, ty, pos, after, none⟩ :: ⟨dst2, .store MT (.tmp x) (.tmp y), ty2, pos2, after2, none⟩ :: rest) a w := by
  refine al_md ?_
  intro w1 P hP X q
  exact st_md x y (hx _) (hy _) X (h _ P hP X.srS (q.sr' hP _))
end
theorem qw_own {w w1 w2 : World} (q : Qw w w1) (g : w1.grownBy w2 (some w.heap.size)) : Qw w w2 :=
  ⟨g.os.trans q.os, g.tape.trans q.tape, g.output.trans q.output, Nat.le_trans q.size g.size, fun k hk => (g.block k (by have := q.size; omega) (by simp; omega)).trans (q.block k hk)⟩
theorem apNil (s : Md.S) (w : World) : Calls Try.prog 33 #[.agg (mdc s), .slice none 0 0] w fun e w' => e = .returned (.tuple #[.agg (mdc s), .int .i64 0]) ∧ Qw w w' := by
  have := mdApply s (C := w.heap.size) (w := w) (v := .slice none 0 0) (l := []) ⟨none, 0, rfl, by simp, by decide, .inl rfl⟩ (Nat.le_refl _)
  rw [(Md.sets_nil s).1, (Md.sets_nil s).2] at this
  exact this
theorem apOne (s : Md.S) (c : Int) (hc : c ∈ Md.cds) (w : World) : Calls Try.prog 33 #[.agg (mdc s), .slice (some ⟨w.heap.size, 0, none⟩) 1 1] (w.alloc (.cells #[.int .i64 71, .int .i64 (c * 1000000)] 50)) fun e w' => e = .returned (.tuple #[.agg (mdc (Md.wgc s (Md.grp 71 c) c)), .int .i64 0]) ∧ Qw w w' := by
  have k := Md.cds_ok c hc
  have := mdApply s (vals_one' w 71 (c * 1000000) 50 (by omega) (by omega)) (Nat.le_refl _)
  rw [(Md.sets_one s c hc).1, (Md.sets_one s c hc).2] at this
  exact this.mono fun e w' ⟨he, q⟩ => ⟨he, Qw.trans (Qw.al (Qw.refl w) _) q⟩
theorem cds_mem : ∀ k : Fin 28, Md.cds.getD k 0 ∈ Md.cds := by decide
def cdv8 : Array Value := (Md.cds.map (Value.int .i64)).toArray
theorem cds_at (k : Nat) (h : k < 28) : ∃ c, c ∈ Md.cds ∧ cdv8[k]? = some (.int .i64 c) :=
  ⟨Md.cds.getD k 0, cds_mem ⟨k, h⟩, by
    have h' : k < Md.cds.length := h
    simp [cdv8, List.getD_eq_getElem?_getD, List.getElem?_eq_getElem h']⟩
set_option maxRecDepth 100000 in
set_option maxHeartbeats 8000000 in
theorem walk_modalSets (v0 : Value) (u0 : List Int) (n : Int) (n1 : -9223372036854775808 ≤ n) (n2 : n ≤ 9223372036854775807) (w : World) (hu0 : IntsB w.heap.size w v0 u0) : Calls Try.prog 10 #[v0, .int .i64 n] w fun e w' => e = .returned (.bool true) ∧ Below w.heap.size w w' := by
  have li := lightF v0 u0 _ w hu0
  have NW := Lib.hid (newF v0 u0 w hu0)
  have mo := fun w => modW n 28 n1 n2 (by decide) (by decide) w
  obtain ⟨k, hk, hk2⟩ : ∃ k : Nat, n % 28 = (k : Int) ∧ k < 28 := ⟨(n % 28).toNat, by omega, by omega⟩
  rw [hk] at mo
  have MO := Lib.hid mo
  clear mo hk
  have q0 : Hid (Qw w w) := Lib.hid (Qw.refl w)
  by_cases hl : u0.length ≤ 120
  · rw [decide_eq_true hl] at li
    have LI := Lib.hid li
    clear li hl hu0 q0
    go_enter Try.func10, Try.ntmps10
    go_upto_region 5 with (first | (go_at_call 14; ((with_reducible refine (LI.out).mono ?_); rintro e w' ⟨rfl, rfl⟩)) | (go_at_call 17; ((with_reducible refine (NW.out).mono ?_); rintro e w1 ⟨rfl, t1, q1⟩; have T1 := Lib.hid t1; have Q1 := Lib.hid q1; clear t1 q1)) | (go_at_call 32; ((with_reducible refine (modalM T1.out).mono ?_); rintro e w2 ⟨⟨s, rfl⟩, g⟩; have QQ := Lib.hid (qw_own Q1.out g); clear g T1 Q1)) | (refine alst_md 5 19 (fun _ => rfl) (fun _ => rfl) ?_; intro w5 P5 hP5 X q; have X5 := Lib.hid X; replace QQ := Lib.hid (Qw.trans QQ.out q); clear X q) | (refine ld_md 5 rfl X5.out ?_) | (go_at_call 33; ((with_reducible refine (apNil s _).mono ?_); rintro e w4 ⟨rfl, q⟩; replace X5 := Lib.hid (X5.out.kept q); replace QQ := Lib.hid (Qw.trans QQ.out q); clear q)) | (refine alst_md 6 23 (fun _ => rfl) (fun _ => rfl) ?_; intro w6 P6 hP6 X q; have X6 := Lib.hid X; replace X5 := Lib.hid (X5.out.kept q); replace QQ := Lib.hid (Qw.trans QQ.out q); clear X q))
    clear LI NW
    go_upto_region 6 with fail
    have X8 : Hid (Bx (w6.alloc (.cells cdv8 3)) w6.heap.size cdv8 3) := Lib.hid (Bx.new w6 _ _)
    have q := Qw.al (Qw.refl w6) (.cells cdv8 3)
    replace X5 := Lib.hid (X5.out.kept q)
    replace X6 := Lib.hid (X6.out.kept q)
    replace QQ := Lib.hid (Qw.trans QQ.out q)
    clear q
    refine code_of (fun w' => w' = w6.alloc (.cells cdv8 3)) rfl ?_
    intro w8 hw8
    rw [← hw8] at X5 X6 X8 QQ
    generalize w6.heap.size = D at *
    clear hw8
    obtain ⟨c, hc, hcd⟩ := cds_at k hk2
    have cx := X8.out.cell' k _ hcd
    have KO := Md.cds_ok c hc
    obtain ⟨_, _, _, _, c0, c1, n40, n49, hg⟩ := KO
    clear hcd
    have AO := Lib.hid (apOne s c hc)
    have GG := mdGroup 71 c
    clear hc
    go_upto_region 9 with (first | (go_at_call 18; ((with_reducible refine (MO.out _).mono ?_); rintro e w' ⟨rfl, rfl⟩)) | (refine ld_md 5 rfl X5.out ?_) | (go_at_call 33; ((with_reducible refine (AO.out _).mono ?_); rintro e w9 ⟨rfl, q⟩; replace X5 := Lib.hid (X5.out.kept q); replace X6 := Lib.hid (X6.out.kept q); replace QQ := Lib.hid (Qw.trans QQ.out q); clear q cx X8)) | (refine alst_md 10 40 (fun _ => rfl) (fun _ => rfl) ?_; intro w10 P10 hP10 X q; have X10 := Lib.hid X; replace X5 := Lib.hid (X5.out.kept q); replace X6 := Lib.hid (X6.out.kept q); replace QQ := Lib.hid (Qw.trans QQ.out q); clear X q) | (refine alst_md 12 42 (fun _ => rfl) (fun _ => rfl) ?_; intro w12 P12 hP12 X q; have n5 : P5 ≠ P12 := (by have := X5.out.lt; omega); have n6 : P6 ≠ P12 := (by have := X6.out.lt; omega); have n10 : P10 ≠ P12 := (by have := X10.out.lt; omega); have h12 : w.heap.size ≤ P12 := (by have := QQ.out.size; omega); have X12 := Lib.hid X; replace X5 := Lib.hid (X5.out.kept q); replace X6 := Lib.hid (X6.out.kept q); replace X10 := Lib.hid (X10.out.kept q); replace QQ := Lib.hid (Qw.trans QQ.out q); clear X q))
    have XA := X10
    have EQ := fun w => eq_md w s
    clear X10 AO MO
    rcases hg with hg | hg | hg | hg | hg | hg | hg | hg | hg | hg | hg
    · rw [hg] at XA GG
      rw [show Md.wgc s 1 c = { s with mo := c } from rfl] at XA
      have X10 := XA
      have GG := Lib.hid GG
      clear XA hg n40 n49
      have EQ2 := fun w => eq_md w { s with mo := c }
      have f12 := X12.out.free 0
      have c12 := X12.out.cell' 0 (.int .i64 s.mo) rfl
      go_wp2_with (first | (go_at_call 19; ((with_reducible refine (GG.out _).mono ?_); rintro e w' ⟨rfl, rfl⟩)) | (go_at_call 15; ((with_reducible refine (awakeM _).mono ?_); rintro e w20 ⟨rfl, q⟩; have Y12 := Lib.hid ((X12.out.set 0 (.int .i64 c)).kept q); have Y5 := Lib.hid ((X5.out.other n5 (.int .i64 c)).kept q); have Y6 := Lib.hid ((X6.out.other n6 (.int .i64 c)).kept q); have Y10 := Lib.hid ((X10.out.other n10 (.int .i64 c)).kept q); have QF := Lib.hid (Qw.trans (QQ.out.sc h12 _) q); rw [show (mdc s).setIfInBounds 0 (.int .i64 c) = mdc { s with mo := c } from rfl] at Y12; clear q X12 X5 X6 X10 f12 c12)) | (refine gd_load 6 rfl rfl Y6.out ?_) | (refine gd_load 5 rfl rfl Y5.out ?_) | (refine gd_load 10 rfl rfl Y10.out ?_) | (refine gd_load 12 rfl rfl Y12.out ?_))
      go_ret
      exact ⟨rfl, QF.out⟩
    · rw [hg] at XA GG
      rw [show Md.wgc s 2 c = { s with pl := c } from rfl] at XA
      have X10 := XA
      have GG := Lib.hid GG
      clear XA hg n40 n49
      have EQ2 := fun w => eq_md w { s with pl := c }
      have f12 := X12.out.free 1
      have c12 := X12.out.cell' 1 (.int .i64 s.pl) rfl
      go_wp2_with (first | (go_at_call 19; ((with_reducible refine (GG.out _).mono ?_); rintro e w' ⟨rfl, rfl⟩)) | (go_at_call 15; ((with_reducible refine (awakeM _).mono ?_); rintro e w20 ⟨rfl, q⟩; have Y12 := Lib.hid ((X12.out.set 1 (.int .i64 c)).kept q); have Y5 := Lib.hid ((X5.out.other n5 (.int .i64 c)).kept q); have Y6 := Lib.hid ((X6.out.other n6 (.int .i64 c)).kept q); have Y10 := Lib.hid ((X10.out.other n10 (.int .i64 c)).kept q); have QF := Lib.hid (Qw.trans (QQ.out.sc h12 _) q); rw [show (mdc s).setIfInBounds 1 (.int .i64 c) = mdc { s with pl := c } from rfl] at Y12; clear q X12 X5 X6 X10 f12 c12)) | (refine gd_load 6 rfl rfl Y6.out ?_) | (refine gd_load 5 rfl rfl Y5.out ?_) | (refine gd_load 10 rfl rfl Y10.out ?_) | (refine gd_load 12 rfl rfl Y12.out ?_))
      go_ret
      exact ⟨rfl, QF.out⟩
    · rw [hg] at XA GG
      rw [show Md.wgc s 3 c = { s with di := c } from rfl] at XA
      have X10 := XA
      have GG := Lib.hid GG
      clear XA hg n40 n49
      have EQ2 := fun w => eq_md w { s with di := c }
      have f12 := X12.out.free 2
      have c12 := X12.out.cell' 2 (.int .i64 s.di) rfl
      go_wp2_with (first | (go_at_call 19; ((with_reducible refine (GG.out _).mono ?_); rintro e w' ⟨rfl, rfl⟩)) | (go_at_call 15; ((with_reducible refine (awakeM _).mono ?_); rintro e w20 ⟨rfl, q⟩; have Y12 := Lib.hid ((X12.out.set 2 (.int .i64 c)).kept q); have Y5 := Lib.hid ((X5.out.other n5 (.int .i64 c)).kept q); have Y6 := Lib.hid ((X6.out.other n6 (.int .i64 c)).kept q); have Y10 := Lib.hid ((X10.out.other n10 (.int .i64 c)).kept q); have QF := Lib.hid (Qw.trans (QQ.out.sc h12 _) q); rw [show (mdc s).setIfInBounds 2 (.int .i64 c) = mdc { s with di := c } from rfl] at Y12; clear q X12 X5 X6 X10 f12 c12)) | (refine gd_load 6 rfl rfl Y6.out ?_) | (refine gd_load 5 rfl rfl Y5.out ?_) | (refine gd_load 10 rfl rfl Y10.out ?_) | (refine gd_load 12 rfl rfl Y12.out ?_))
      go_ret
      exact ⟨rfl, QF.out⟩
    · rw [hg] at XA GG
      rw [show Md.wgc s 4 c = { s with un := c } from rfl] at XA
      have X10 := XA
      have GG := Lib.hid GG
      clear XA hg n40 n49
      have EQ2 := fun w => eq_md w { s with un := c }
      have f12 := X12.out.free 3
      have c12 := X12.out.cell' 3 (.int .i64 s.un) rfl
      go_wp2_with (first | (go_at_call 19; ((with_reducible refine (GG.out _).mono ?_); rintro e w' ⟨rfl, rfl⟩)) | (go_at_call 15; ((with_reducible refine (awakeM _).mono ?_); rintro e w20 ⟨rfl, q⟩; have Y12 := Lib.hid ((X12.out.set 3 (.int .i64 c)).kept q); have Y5 := Lib.hid ((X5.out.other n5 (.int .i64 c)).kept q); have Y6 := Lib.hid ((X6.out.other n6 (.int .i64 c)).kept q); have Y10 := Lib.hid ((X10.out.other n10 (.int .i64 c)).kept q); have QF := Lib.hid (Qw.trans (QQ.out.sc h12 _) q); rw [show (mdc s).setIfInBounds 3 (.int .i64 c) = mdc { s with un := c } from rfl] at Y12; clear q X12 X5 X6 X10 f12 c12)) | (refine gd_load 6 rfl rfl Y6.out ?_) | (refine gd_load 5 rfl rfl Y5.out ?_) | (refine gd_load 10 rfl rfl Y10.out ?_) | (refine gd_load 12 rfl rfl Y12.out ?_))
      go_ret
      exact ⟨rfl, QF.out⟩
    · rw [hg] at XA GG
      rw [show Md.wgc s 5 c = { s with fe := c } from rfl] at XA
      have X10 := XA
      have GG := Lib.hid GG
      clear XA hg n40 n49
      have EQ2 := fun w => eq_md w { s with fe := c }
      have f12 := X12.out.free 4
      have c12 := X12.out.cell' 4 (.int .i64 s.fe) rfl
      go_wp2_with (first | (go_at_call 19; ((with_reducible refine (GG.out _).mono ?_); rintro e w' ⟨rfl, rfl⟩)) | (go_at_call 15; ((with_reducible refine (awakeM _).mono ?_); rintro e w20 ⟨rfl, q⟩; have Y12 := Lib.hid ((X12.out.set 4 (.int .i64 c)).kept q); have Y5 := Lib.hid ((X5.out.other n5 (.int .i64 c)).kept q); have Y6 := Lib.hid ((X6.out.other n6 (.int .i64 c)).kept q); have Y10 := Lib.hid ((X10.out.other n10 (.int .i64 c)).kept q); have QF := Lib.hid (Qw.trans (QQ.out.sc h12 _) q); rw [show (mdc s).setIfInBounds 4 (.int .i64 c) = mdc { s with fe := c } from rfl] at Y12; clear q X12 X5 X6 X10 f12 c12)) | (refine gd_load 6 rfl rfl Y6.out ?_) | (refine gd_load 5 rfl rfl Y5.out ?_) | (refine gd_load 10 rfl rfl Y10.out ?_) | (refine gd_load 12 rfl rfl Y12.out ?_))
      go_ret
      exact ⟨rfl, QF.out⟩
    · rw [hg] at XA GG
      rw [show Md.wgc s 6 c = { s with cu := c } from by unfold Md.wgc; rw [if_neg (by decide), if_neg (by decide), if_neg (by decide), if_neg (by decide), if_neg (by decide), if_pos rfl, if_neg n40]] at XA
      have X10 := XA
      have GG := Lib.hid GG
      clear XA hg n40 n49
      have EQ2 := fun w => eq_md w { s with cu := c }
      have f12 := X12.out.free 5
      have c12 := X12.out.cell' 5 (.int .i64 s.cu) rfl
      go_wp2_with (first | (go_at_call 19; ((with_reducible refine (GG.out _).mono ?_); rintro e w' ⟨rfl, rfl⟩)) | (go_at_call 15; ((with_reducible refine (awakeM _).mono ?_); rintro e w20 ⟨rfl, q⟩; have Y12 := Lib.hid ((X12.out.set 5 (.int .i64 c)).kept q); have Y5 := Lib.hid ((X5.out.other n5 (.int .i64 c)).kept q); have Y6 := Lib.hid ((X6.out.other n6 (.int .i64 c)).kept q); have Y10 := Lib.hid ((X10.out.other n10 (.int .i64 c)).kept q); have QF := Lib.hid (Qw.trans (QQ.out.sc h12 _) q); rw [show (mdc s).setIfInBounds 5 (.int .i64 c) = mdc { s with cu := c } from rfl] at Y12; clear q X12 X5 X6 X10 f12 c12)) | (refine gd_load 6 rfl rfl Y6.out ?_) | (refine gd_load 5 rfl rfl Y5.out ?_) | (refine gd_load 10 rfl rfl Y10.out ?_) | (refine gd_load 12 rfl rfl Y12.out ?_))
      go_ret
      exact ⟨rfl, QF.out⟩
    · rw [hg] at XA GG
      rw [show Md.wgc s 7 c = { s with le := c } from by unfold Md.wgc; rw [if_neg (by decide), if_neg (by decide), if_neg (by decide), if_neg (by decide), if_neg (by decide), if_neg (by decide), if_pos rfl, if_neg n49]] at XA
      have X10 := XA
      have GG := Lib.hid GG
      clear XA hg n40 n49
      have EQ2 := fun w => eq_md w { s with le := c }
      have f12 := X12.out.free 6
      have c12 := X12.out.cell' 6 (.int .i64 s.le) rfl
      go_wp2_with (first | (go_at_call 19; ((with_reducible refine (GG.out _).mono ?_); rintro e w' ⟨rfl, rfl⟩)) | (go_at_call 15; ((with_reducible refine (awakeM _).mono ?_); rintro e w20 ⟨rfl, q⟩; have Y12 := Lib.hid ((X12.out.set 6 (.int .i64 c)).kept q); have Y5 := Lib.hid ((X5.out.other n5 (.int .i64 c)).kept q); have Y6 := Lib.hid ((X6.out.other n6 (.int .i64 c)).kept q); have Y10 := Lib.hid ((X10.out.other n10 (.int .i64 c)).kept q); have QF := Lib.hid (Qw.trans (QQ.out.sc h12 _) q); rw [show (mdc s).setIfInBounds 6 (.int .i64 c) = mdc { s with le := c } from rfl] at Y12; clear q X12 X5 X6 X10 f12 c12)) | (refine gd_load 6 rfl rfl Y6.out ?_) | (refine gd_load 5 rfl rfl Y5.out ?_) | (refine gd_load 10 rfl rfl Y10.out ?_) | (refine gd_load 12 rfl rfl Y12.out ?_))
      go_ret
      exact ⟨rfl, QF.out⟩
    · rw [hg] at XA GG
      rw [show Md.wgc s 8 c = { s with re := c } from rfl] at XA
      have X10 := XA
      have GG := Lib.hid GG
      clear XA hg n40 n49
      have EQ2 := fun w => eq_md w { s with re := c }
      have f12 := X12.out.free 7
      have c12 := X12.out.cell' 7 (.int .i64 s.re) rfl
      go_wp2_with (first | (go_at_call 19; ((with_reducible refine (GG.out _).mono ?_); rintro e w' ⟨rfl, rfl⟩)) | (go_at_call 15; ((with_reducible refine (awakeM _).mono ?_); rintro e w20 ⟨rfl, q⟩; have Y12 := Lib.hid ((X12.out.set 7 (.int .i64 c)).kept q); have Y5 := Lib.hid ((X5.out.other n5 (.int .i64 c)).kept q); have Y6 := Lib.hid ((X6.out.other n6 (.int .i64 c)).kept q); have Y10 := Lib.hid ((X10.out.other n10 (.int .i64 c)).kept q); have QF := Lib.hid (Qw.trans (QQ.out.sc h12 _) q); rw [show (mdc s).setIfInBounds 7 (.int .i64 c) = mdc { s with re := c } from rfl] at Y12; clear q X12 X5 X6 X10 f12 c12)) | (refine gd_load 6 rfl rfl Y6.out ?_) | (refine gd_load 5 rfl rfl Y5.out ?_) | (refine gd_load 10 rfl rfl Y10.out ?_) | (refine gd_load 12 rfl rfl Y12.out ?_))
      go_ret
      exact ⟨rfl, QF.out⟩
    · rw [hg] at XA GG
      rw [show Md.wgc s 9 c = { s with sy := c } from rfl] at XA
      have X10 := XA
      have GG := Lib.hid GG
      clear XA hg n40 n49
      have EQ2 := fun w => eq_md w { s with sy := c }
      have f12 := X12.out.free 8
      have c12 := X12.out.cell' 8 (.int .i64 s.sy) rfl
      go_wp2_with (first | (go_at_call 19; ((with_reducible refine (GG.out _).mono ?_); rintro e w' ⟨rfl, rfl⟩)) | (go_at_call 15; ((with_reducible refine (awakeM _).mono ?_); rintro e w20 ⟨rfl, q⟩; have Y12 := Lib.hid ((X12.out.set 8 (.int .i64 c)).kept q); have Y5 := Lib.hid ((X5.out.other n5 (.int .i64 c)).kept q); have Y6 := Lib.hid ((X6.out.other n6 (.int .i64 c)).kept q); have Y10 := Lib.hid ((X10.out.other n10 (.int .i64 c)).kept q); have QF := Lib.hid (Qw.trans (QQ.out.sc h12 _) q); rw [show (mdc s).setIfInBounds 8 (.int .i64 c) = mdc { s with sy := c } from rfl] at Y12; clear q X12 X5 X6 X10 f12 c12)) | (refine gd_load 6 rfl rfl Y6.out ?_) | (refine gd_load 5 rfl rfl Y5.out ?_) | (refine gd_load 10 rfl rfl Y10.out ?_) | (refine gd_load 12 rfl rfl Y12.out ?_))
      go_ret
      exact ⟨rfl, QF.out⟩
    · rw [hg] at XA GG
      rw [show Md.wgc s 11 c = { s with po := c } from rfl] at XA
      have X10 := XA
      have GG := Lib.hid GG
      clear XA hg n40 n49
      have EQ2 := fun w => eq_md w { s with po := c }
      have f12 := X12.out.free 10
      have c12 := X12.out.cell' 10 (.int .i64 s.po) rfl
      go_wp2_with (first | (go_at_call 19; ((with_reducible refine (GG.out _).mono ?_); rintro e w' ⟨rfl, rfl⟩)) | (go_at_call 15; ((with_reducible refine (awakeM _).mono ?_); rintro e w20 ⟨rfl, q⟩; have Y12 := Lib.hid ((X12.out.set 10 (.int .i64 c)).kept q); have Y5 := Lib.hid ((X5.out.other n5 (.int .i64 c)).kept q); have Y6 := Lib.hid ((X6.out.other n6 (.int .i64 c)).kept q); have Y10 := Lib.hid ((X10.out.other n10 (.int .i64 c)).kept q); have QF := Lib.hid (Qw.trans (QQ.out.sc h12 _) q); rw [show (mdc s).setIfInBounds 10 (.int .i64 c) = mdc { s with po := c } from rfl] at Y12; clear q X12 X5 X6 X10 f12 c12)) | (refine gd_load 6 rfl rfl Y6.out ?_) | (refine gd_load 5 rfl rfl Y5.out ?_) | (refine gd_load 10 rfl rfl Y10.out ?_) | (refine gd_load 12 rfl rfl Y12.out ?_))
      go_ret
      exact ⟨rfl, QF.out⟩
    · rw [hg] at XA GG
      rw [show Md.wgc s 12 c = { s with tu := c } from rfl] at XA
      have X10 := XA
      have GG := Lib.hid GG
      clear XA hg n40 n49
      have EQ2 := fun w => eq_md w { s with tu := c }
      have f12 := X12.out.free 11
      have c12 := X12.out.cell' 11 (.int .i64 s.tu) rfl
      go_wp2_with (first | (go_at_call 19; ((with_reducible refine (GG.out _).mono ?_); rintro e w' ⟨rfl, rfl⟩)) | (go_at_call 15; ((with_reducible refine (awakeM _).mono ?_); rintro e w20 ⟨rfl, q⟩; have Y12 := Lib.hid ((X12.out.set 11 (.int .i64 c)).kept q); have Y5 := Lib.hid ((X5.out.other n5 (.int .i64 c)).kept q); have Y6 := Lib.hid ((X6.out.other n6 (.int .i64 c)).kept q); have Y10 := Lib.hid ((X10.out.other n10 (.int .i64 c)).kept q); have QF := Lib.hid (Qw.trans (QQ.out.sc h12 _) q); rw [show (mdc s).setIfInBounds 11 (.int .i64 c) = mdc { s with tu := c } from rfl] at Y12; clear q X12 X5 X6 X10 f12 c12)) | (refine gd_load 6 rfl rfl Y6.out ?_) | (refine gd_load 5 rfl rfl Y5.out ?_) | (refine gd_load 10 rfl rfl Y10.out ?_) | (refine gd_load 12 rfl rfl Y12.out ?_))
      go_ret
      exact ⟨rfl, QF.out⟩
  · rw [decide_eq_false hl] at li
    have LI := Lib.hid li
    clear li hl hu0 NW
    go_enter Try.func10, Try.ntmps10
    go_wp2_with (first | (go_at_call 14; ((with_reducible refine (LI.out).mono ?_); rintro e w' ⟨rfl, rfl⟩)) | (go_at_call 15; ((with_reducible refine (awakeM _).mono ?_); rintro e w' ⟨rfl, q⟩; replace q0 : Hid (Qw w w') := Lib.hid (Qw.trans q0.out q); clear q)))
    go_ret
    exact ⟨rfl, q0.out⟩

/-! ### the row -/
theorem own_modalSets : ownKnob Try.prog.godebug = none := by kernel_rfl
set_option maxRecDepth 100000 in
theorem lifted_modalSets (os : Os) (started : os.Started) (H : Type) (enc : TypeId × Value → H) :
    ReturnsInHanded {} Try.checked os 10 .any (Rows.modalSetsSpec.pre6 enc Try.prog Try.f10 Rows.modalSetsRow.domain false) (Rows.modalSetsSpec.post enc Try.prog Try.f10 false true false false) := by
  refine returnsInHanded_of_change (C := Try.checked) own_modalSets started (by kernel_rfl) Try.func10
    (ChangeSpec.witness6 (enc := enc) (C := Try.checked) false ⟨#[], #[.slice none 0 0, .int .i64 0], []⟩ 8 (by kernel_rfl) (by kernel_rfl) (by kernel_rfl) (by kernel_rfl)) ?_
  intro W base args ds gs before hval0 hW hcnd _
  have hval : ∀ (j : Nat) t v, Try.f10.params[j]? = some t → args[j]? = some v → Value.okWide Try.prog W .any base t v := hval0
  have hW' := hW
  obtain ⟨p, q, hA0, hV, rfl, hfz, hnd⟩ := hW
  have hA : DataW.TrodAll enc Try.prog W 0 (fun _ => true) true Try.f10.params.toList args.toList ds p := hA0
  rw [Try.params10] at hA hval
  obtain ⟨v0, vs0, d0, ds0, p0, q0, hargs, rfl, rfl, h0, r0⟩ := trodAll_cons hA
  obtain ⟨v1, vs1, d1, ds1, p1, q1, rfl, rfl, rfl, h1, r1⟩ := trodAll_cons r0
  obtain ⟨rfl, rfl, rfl⟩ := trodAll_nil r1
  obtain rfl : args = #[v0, v1] := by cases args; simp_all
  obtain ⟨rfl, rfl⟩ := trodVars_none hV
  obtain ⟨u0, hu0⟩ := inM_ints (hval 0 23 v0 rfl rfl) h0
  obtain ⟨a1, rfl, rfl, rfl, w1⟩ := open_int Try.underlying3 (hval 1 3 v1 rfl rfl) h1
  obtain ⟨x1, y1⟩ := wfM w1
  clear hA0 hval0
  simp only [List.append_nil] at hW'
  refine (walk_modalSets v0 u0 a1 x1 y1 W hu0).mono fun e W' ⟨he, bel⟩ => ?_
  subst he
  exact ⟨_, rfl, _, _, _, [], _, [], hW', trodAll_mk1 (shut_bool Try.underlying4 _), (trodAll_cons_mk (outM_ints h0 bel (fun x hx => hW'.lt x (by first | exact hx | simp [hx]))) (trodAll_cons_mk (shut_int Try.underlying3 w1) trodAll_mk0)), rfl, Below.frame bel _, fun h => by cases h⟩

/-- The statement. -/
theorem modalSets_holds : Rows.ModalSetsSaid :=
  OpenClaim.holds_of_wide 10 Try.f10 rfl rfl rfl rfl rfl rfl rfl ⟨rfl, rfl, rfl, rfl, rfl⟩ rfl rfl rfl rfl rfl (by kernel_rfl) Try.func10 (by kernel_rfl)
    (of_decide_eq_true (by kernel_rfl)) (by unfold Func.isWrapper; first | (rw [if_pos (by decide +kernel)]; kernel_rfl) | (rw [if_neg (by decide +kernel)]; exact ⟨rfl, rfl⟩))
    (fun os started H enc _ => lifted_modalSets os started H enc)

end Go.Proofs.Ytijakijjeoaikaa
