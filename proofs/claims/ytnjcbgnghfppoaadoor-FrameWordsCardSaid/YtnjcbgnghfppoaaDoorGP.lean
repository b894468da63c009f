import Derived.Test.YtnjcbgnghfppoaaDoorGK
import Derived.Test.YtnjcbgnghfppoaaDoorGI
import Derived.Test.YtnjcbgnghfppoaaDoorGMa

/- Plain words of the targets of blocks. -/
set_option linter.unusedVariables false
set_option linter.unusedSimpArgs false
namespace Go.Proofs.YtnjcbgnghfppoaaDoor
open Go.RowKit

theorem vals_fv {C : Nat} {w : World} {v : Value} {l : Vs.Ar} (h : ValsB C w v l) (c : Int) : -9223372036854775808 ≤ Md.fv l c ∧ Md.fv l c ≤ 9223372036854775807 := by
  unfold Md.fv Md.fnd
  cases e : l.find? fun p => decide (p.1 = c) with
  | none => simp
  | some p =>
    have hm := List.mem_of_find?_eq_some e
    obtain ⟨i, hi, rfl⟩ := List.mem_iff_getElem.1 hm
    obtain ⟨_, _, _, _, _, h4⟩ := h
    rcases h4 with rfl | ⟨_, _, _, _, hz⟩
    · simp at hi
    · have := (hz i hi).2.2
      simp only [Option.map_some, Option.getD_some]
      unfold Vs.num at this
      rw [List.getD_eq_getElem?_getD, List.getElem?_eq_getElem hi] at this
      exact this
namespace Tg
/-- Whether there is the word of an axis, its number, its error. -/
def thr (l : Vs.Ar) (i : Int) : Bool := Md.fo l (88 + i)
def wn (l : Vs.Ar) (u ax i : Int) : Int := if thr l i = true then (if i = ax then Md.fv l (88 + i) else lenv (Md.fv l (88 + i)) u) else 0
def we (l : Vs.Ar) (u ax i : Int) : Int := if thr l i = true then (if i = ax then 0 else lene (Md.fv l (88 + i)) u) else 0
def e3 (l : Vs.Ar) (u ax : Int) : Int := if we l u ax 0 = 0 then (if we l u ax 1 = 0 then we l u ax 2 else we l u ax 1) else we l u ax 0
/-- The axes of a plane. -/
def au (p : Int) : Int := fu p 0 1 2
def aw (p : Int) : Int := fw p 0 1 2
def ax (p po : Int) : Int := if po = 16 then aw p else -1
/-- The words, with polar coordinates replaced. -/
def pn (l : Vs.Ar) (p u po i : Int) : Int :=
  if po = 16 then (if i = au p then (rotv (wn l u (aw p) (au p)) 0 (wn l u (aw p) (aw p))).1 else if i = aw p then (rotv (wn l u (aw p) (au p)) 0 (wn l u (aw p) (aw p))).2 else wn l u (aw p) i) else wn l u (-1) i
def pe (l : Vs.Ar) (p u po : Int) : Int :=
  if e3 l u (ax p po) = 0 then (if po = 16 ∧ thr l (au p) ≠ thr l (aw p) then 9 else 0) else e3 l u (ax p po)
/-- A coordinate. -/
def cd (l : Vs.Ar) (p d u po i at_ : Int) : Int := if thr l i = true then (if d = 91 then at_ + pn l p u po i else pn l p u po i) else at_
def err (l : Vs.Ar) (p d u po x y z : Int) : Int :=
  if wth x y z = true then (if pe l p u po = 0 then Fm.cve (cd l p d u po 0 x) (cd l p d u po 1 y) (cd l p d u po 2 z) else pe l p u po) else 1
def val (l : Vs.Ar) (p d u po x y z n : Int) : Int := if err l p d u po x y z = 0 then n else 0
def any (l : Vs.Ar) : Bool := thr l 0 || (thr l 1 || thr l 2)
def has (l : Vs.Ar) (p d u po x y z : Int) : Bool := if err l p d u po x y z = 0 then any l else false
theorem lenv_bd (a u : Int) : -1048576 ≤ lenv a u ∧ lenv a u ≤ 1048576 := by
  unfold lenv lene
  repeat' split
  all_goals omega
theorem planes {p : Int} (h1 : 17 ≤ p) (h2 : p ≤ 19) : p = 17 ∨ p = 18 ∨ p = 19 := by omega
theorem wn_bd (l : Vs.Ar) (u a i : Int) (h : i ≠ a) : -1048576 ≤ wn l u a i ∧ wn l u a i ≤ 1048576 := by
  unfold wn
  rw [if_neg h]
  have := lenv_bd (Md.fv l (88 + i)) u
  split <;> omega
theorem axes_ne {p : Int} (h1 : 17 ≤ p) (h2 : p ≤ 19) : au p ≠ aw p := by
  rcases planes h1 h2 with rfl | rfl | rfl <;> decide
theorem pn_bd (l : Vs.Ar) (p u po i : Int) (h1 : 17 ≤ p) (h2 : p ≤ 19) (hi : 0 ≤ i) : -1800000 ≤ pn l p u po i ∧ pn l p u po i ≤ 1800000 := by
  unfold pn
  have r := wn_bd l u (aw p) (au p) (axes_ne h1 h2)
  have k := Fm.rotv_bd2 (wn l u (aw p) (au p)) 0 (wn l u (aw p) (aw p)) (by omega) (by omega) (by omega) (by omega)
  have n := wn_bd l u (-1) i (by omega)
  by_cases c : po = 16
  · rw [if_pos c]
    by_cases a : i = au p
    · rw [if_pos a]; omega
    · rw [if_neg a]
      by_cases b : i = aw p
      · rw [if_pos b]; omega
      · rw [if_neg b]
        have := wn_bd l u (aw p) i b
        omega
  · rw [if_neg c]; omega
end Tg
end Go.Proofs.YtnjcbgnghfppoaaDoor

/- The walks of package frame: the words of a block. -/
set_option linter.unusedVariables false
set_option linter.unusedSimpArgs false
namespace Go.Proofs.YtnjcbgnghfppoaaDoor
open Go.RowKit

/-- The cells of three words, of which the first k have been read. -/
def wrc (l : Vs.Ar) (u ax : Int) : Nat → Array Value
  | 0 => #[.bool false, .int .i64 0, .bool false, .int .i64 0, .bool false, .int .i64 0]
  | 1 => #[.bool (Tg.thr l 0), .int .i64 (Tg.wn l u ax 0), .bool false, .int .i64 0, .bool false, .int .i64 0]
  | 2 => #[.bool (Tg.thr l 0), .int .i64 (Tg.wn l u ax 0), .bool (Tg.thr l 1), .int .i64 (Tg.wn l u ax 1), .bool false, .int .i64 0]
  | _ => #[.bool (Tg.thr l 0), .int .i64 (Tg.wn l u ax 0), .bool (Tg.thr l 1), .int .i64 (Tg.wn l u ax 1), .bool (Tg.thr l 2), .int .i64 (Tg.wn l u ax 2)]
abbrev WT : TypeId := 86
/-- The results of read. -/
def rdv (l : Vs.Ar) (u ax : Int) (i : Int) : Int := if Tg.e3 l u ax = 0 then Tg.wn l u ax i else 0
def rdb (l : Vs.Ar) (u ax : Int) (i : Int) : Bool := if Tg.e3 l u ax = 0 then Tg.thr l i else false
theorem index_xyz0 (w : World) : (Instr.index 89 (.agg #[.int .i64 88, .int .i64 89, .int .i64 90]) (.int .i64 0)).run Tryd.prog w = .ok (.int .i64 88) w := by kernel_rfl
theorem index_xyz1 (w : World) : (Instr.index 89 (.agg #[.int .i64 88, .int .i64 89, .int .i64 90]) (.int .i64 1)).run Tryd.prog w = .ok (.int .i64 89) w := by kernel_rfl
theorem index_xyz2 (w : World) : (Instr.index 89 (.agg #[.int .i64 88, .int .i64 89, .int .i64 90]) (.int .i64 2)).run Tryd.prog w = .ok (.int .i64 90) w := by kernel_rfl
theorem to_no {l : Vs.Ar} {u ax i : Int} (h : Tg.thr l i = false) : Tg.wn l u ax i = 0 ∧ Tg.we l u ax i = 0 := by
  unfold Tg.wn Tg.we
  rw [h]
  exact ⟨rfl, rfl⟩
theorem to_ax {l : Vs.Ar} {u ax i : Int} (h : Tg.thr l i = true) (e : i = ax) : Tg.wn l u ax i = Md.fv l (88 + i) ∧ Tg.we l u ax i = 0 := by
  unfold Tg.wn Tg.we
  rw [if_pos h, if_pos e, if_pos h, if_pos e]
  exact ⟨rfl, rfl⟩
theorem to_ln {l : Vs.Ar} {u ax i : Int} (h : Tg.thr l i = true) (e : i ≠ ax) : Tg.wn l u ax i = lenv (Md.fv l (88 + i)) u ∧ Tg.we l u ax i = lene (Md.fv l (88 + i)) u := by
  unfold Tg.wn Tg.we
  rw [if_pos h, if_neg e, if_pos h, if_neg e]
  exact ⟨rfl, rfl⟩
theorem rd_bad {l : Vs.Ar} {u ax : Int} {e : Int} (h : Tg.e3 l u ax = e) (he : e ≠ 0) (i : Int) : rdv l u ax i = 0 ∧ rdb l u ax i = false := by
  unfold rdv rdb
  rw [h, if_neg he, if_neg he]
  exact ⟨rfl, rfl⟩
theorem rd_ok {l : Vs.Ar} {u ax : Int} (h : Tg.e3 l u ax = 0) (i : Int) : rdv l u ax i = Tg.wn l u ax i ∧ rdb l u ax i = Tg.thr l i := by
  unfold rdv rdb
  rw [if_pos h, if_pos h]
  exact ⟨rfl, rfl⟩
theorem Bx.st2 {w : World} {R k : Nat} {cs : Array Value} {t : TypeId} (h : Bx w R cs t) (j : Nat) (x y : Value) : Bx ((w.setCell ⟨R, k, none⟩ x).setCell ⟨R, j, none⟩ y) R ((cs.setIfInBounds k x).setIfInBounds j y) t := (h.set k x).set j y
theorem Qw.st2 {w w' : World} (q : Qw w w') {N : Nat} (hN : w.heap.size ≤ N) (k j : Nat) (x y : Value) : Qw w ((w'.setCell ⟨N, k, none⟩ x).setCell ⟨N, j, none⟩ y) := (q.setCell hN _).setCell hN _
theorem Qw.st6 {w w' : World} (q : Qw w w') {N : Nat} (hN : w.heap.size ≤ N) (a b c d e f : Value) : Qw w ((((((w'.setCell ⟨N, 0, none⟩ a).setCell ⟨N, 1, none⟩ b).setCell ⟨N, 2, none⟩ c).setCell ⟨N, 3, none⟩ d).setCell ⟨N, 4, none⟩ e).setCell ⟨N, 5, none⟩ f) := (((((q.setCell hN _).setCell hN _).setCell hN _).setCell hN _).setCell hN _).setCell hN _
theorem Bx.st6 {w : World} {N : Nat} {t : TypeId} {a b c d e f : Value} (h : Bx w N #[a, b, c, d, e, f] t) (a' b' c' d' e' f' : Value) : Bx ((((((w.setCell ⟨N, 0, none⟩ a').setCell ⟨N, 1, none⟩ b').setCell ⟨N, 2, none⟩ c').setCell ⟨N, 3, none⟩ d').setCell ⟨N, 4, none⟩ e').setCell ⟨N, 5, none⟩ f') N #[a', b', c', d', e', f'] t := (((((h.set 0 a').set 1 b').set 2 c').set 3 d').set 4 e').set 5 f'
set_option maxRecDepth 100000 in
set_option maxHeartbeats 8000000 in
theorem tgRead {C : Nat} {w : World} {v : Value} {l : Vs.Ar} (h : ValsB C w v l) (hC : C ≤ w.heap.size) (u ax : Int) (a1 : -1 ≤ ax) (a2 : ax ≤ 2) :
    Calls Tryd.prog 73 #[v, .int .i64 u, .int .i64 ax] w fun e w' => e = .returned (.tuple #[.agg #[.bool (rdb l u ax 0), .int .i64 (rdv l u ax 0), .bool (rdb l u ax 1), .int .i64 (rdv l u ax 1), .bool (rdb l u ax 2), .int .i64 (rdv l u ax 2)], .int .i64 (Tg.e3 l u ax)]) ∧ Qw w w' := by
  have FF := Lib.hid (fun (w' : World) (q : Qw w w') c => mdFind (h.kept q hC) (Nat.le_trans hC q.size) c)
  clear h hC
  go_enter Tryd.func73, Tryd.ntmps73
  go_wp2
  go_loopw [15] (fun kv wr => ∃ k : Nat, k ≤ 3 ∧ kv = .int .i64 (k : Int) ∧ Hid ((1 ≤ k → Tg.we l u ax 0 = 0) ∧ (2 ≤ k → Tg.we l u ax 1 = 0) ∧ (3 ≤ k → Tg.we l u ax 2 = 0)) ∧ Hid (Bx wr (w.heap.size + 1) (wrc l u ax k) WT) ∧ Hid (Bx wr w.heap.size (wrc l u ax 0) WT) ∧ Hid (Qw w wr)) (fun kv _ => 3 - (intOf kv).toNat)
  case atStart => exact ⟨0, by omega, rfl, Lib.hid ⟨by omega, by omega, by omega⟩, Lib.hid (bxn _ _ _ _), Lib.hid ((Bx.new _ _ _).alloc _), Lib.hid (Qw.al (Qw.al (Qw.refl w) _) _)⟩
  case round =>
    obtain ⟨k, hk, rfl, HE, HW, HR, HQ⟩ := hrel
    by_cases h3 : k < 3
    · have k3 : k = 0 ∨ k = 1 ∨ k = 2 := by omega
      clear hk h3
      rcases k3 with rfl | rfl | rfl
      · have f1 := fun w' (q : Qw w w') => FF.out w' q 88
        have i0 := index_xyz0
        cases ht : Tg.thr l 0
        · have E := to_no (u := u) (ax := ax) ht
          have HT := Lib.hid ht
          rw [show Md.fo l 88 = false from ht] at f1
          generalize Md.fv l 88 = n at *
          have F1 := Lib.hid f1
          have EZ := Lib.hid E.2
          have EW : Hid (wrc l u ax 0 = wrc l u ax 1) := Lib.hid (by simp only [wrc, HT.out, E.1])
          clear f1 ht E FF
          go_wp2_with (go_at_call 83; ((with_reducible refine (F1.out _ HQ.out).mono ?_); rintro e w3 ⟨rfl, q⟩; have Q3 := Lib.hid (Qw.trans HQ.out q); have W3 := Lib.hid (HW.out.kept q); have R3 := Lib.hid (HR.out.kept q); clear q))
          go_roundw
          case rel => exact ⟨1, by omega, rfl, Lib.hid ⟨fun _ => EZ.out, by omega, by omega⟩, Lib.hid (by rw [← EW.out]; exact W3.out), R3, Q3⟩
          case measure => simp [intOf]
        · rw [show Md.fo l 88 = true from ht] at f1
          by_cases hx : (0 : Int) = ax
          · have E := to_ax (u := u) ht hx
            have EW : Hid ((((wrc l u ax 0).setIfInBounds 0 (.bool true)).setIfInBounds 1 (.int .i64 (Md.fv l 88))) = wrc l u ax 1) := Lib.hid (by simp only [wrc, ht, E.1]; rfl)
            have EZ := Lib.hid E.2
            generalize Md.fv l 88 = n at *
            have F1 := Lib.hid f1
            have HX := Lib.hid hx
            have zx : ((0 : Int) != ax) = false := by rw [← hx]; rfl
            clear f1 ht E FF hx
            go_wp2_with (go_at_call 83; ((with_reducible refine (F1.out _ HQ.out).mono ?_); rintro e w3 ⟨rfl, q⟩; have Q3 := Lib.hid (Qw.trans HQ.out q); have W3 := Lib.hid (HW.out.kept q); have R3 := Lib.hid (HR.out.kept q); have w0 := W3.out.cell' 0 (.bool false) rfl; have w1 := W3.out.cell' 1 (.int .i64 0) rfl; have g0 := W3.out.free 0; have g1 := W3.out.free 1; clear q))
            go_roundw
            case rel => exact ⟨1, by omega, rfl, Lib.hid ⟨fun _ => EZ.out, by omega, by omega⟩, Lib.hid (by rw [← EW.out]; exact W3.out.st2 _ _ _), Lib.hid (((R3.out.other (by simp) _).other (by simp) _)), Lib.hid (Q3.out.st2 (by simp) _ _ _ _)⟩
            case measure => simp [intOf]
          · have E := to_ln (u := u) ht hx
            have zx : ((0 : Int) != ax) = true := by rw [bne_iff_ne]; exact hx
            have ln := fun w => fxLength (Md.fv l 88) u w
            have E2 : Tg.we l u ax 0 = lene (Md.fv l 88) u := E.2
            have E1 : Tg.wn l u ax 0 = lenv (Md.fv l 88) u := E.1
            clear E
            by_cases hz : lene (Md.fv l 88) u = 0
            · have EZ := Lib.hid (E2.trans hz)
              have EW : Hid ((((wrc l u ax 0).setIfInBounds 0 (.bool true)).setIfInBounds 1 (.int .i64 (lenv (Md.fv l 88) u))) = wrc l u ax 1) := Lib.hid (by simp only [wrc, ht, E1]; rfl)
              rw [hz] at ln
              generalize lenv (Md.fv l 88) u = m at *
              generalize Md.fv l 88 = n at *
              have F1 := Lib.hid f1
              have LN := Lib.hid ln
              clear f1 ht FF hx ln hz E1 E2
              go_wp2_with (first | (go_at_call 83; ((with_reducible refine (F1.out _ HQ.out).mono ?_); rintro e w3 ⟨rfl, q⟩; have Q3 := Lib.hid (Qw.trans HQ.out q); have W3 := Lib.hid (HW.out.kept q); have R3 := Lib.hid (HR.out.kept q); clear q)) | (go_at_call 84; ((with_reducible refine (LN.out _).mono ?_); rintro e w4 ⟨rfl, q⟩; have Q4 := Lib.hid (Qw.trans Q3.out q); have W4 := Lib.hid (W3.out.kept q); have R4 := Lib.hid (R3.out.kept q); have w0 := W4.out.cell' 0 (.bool false) rfl; have w1 := W4.out.cell' 1 (.int .i64 0) rfl; have g0 := W4.out.free 0; have g1 := W4.out.free 1; clear q)))
              go_roundw
              case rel => exact ⟨1, by omega, rfl, Lib.hid ⟨fun _ => EZ.out, by omega, by omega⟩, Lib.hid (by rw [← EW.out]; exact W4.out.st2 _ _ _), Lib.hid (((R4.out.other (by simp) _).other (by simp) _)), Lib.hid (Q4.out.st2 (by simp) _ _ _ _)⟩
              case measure => simp [intOf]
            · have he := E2
              have e3 : Tg.e3 l u ax = lene (Md.fv l 88) u := by unfold Tg.e3; rw [if_neg (by rw [he]; exact hz), he]
              have ER := Lib.hid (rd_bad e3 hz)
              have E3 := Lib.hid e3
              clear e3 E1 E2 he
              generalize lenv (Md.fv l 88) u = m at *
              generalize lene (Md.fv l 88) u = er at *
              generalize Md.fv l 88 = n at *
              have zz : (er != 0) = true := by rw [bne_iff_ne]; exact hz
              have F1 := Lib.hid f1
              have LN := Lib.hid ln
              clear f1 ht FF hx ln hz
              go_wp2_with (first | (go_at_call 83; ((with_reducible refine (F1.out _ HQ.out).mono ?_); rintro e w3 ⟨rfl, q⟩; have Q3 := Lib.hid (Qw.trans HQ.out q); have W3 := Lib.hid (HW.out.kept q); have R3 := Lib.hid (HR.out.kept q); clear q)) | (go_at_call 84; ((with_reducible refine (LN.out _).mono ?_); rintro e w4 ⟨rfl, q⟩; have Q4 := Lib.hid (Qw.trans Q3.out q); have R4 := Lib.hid (R3.out.kept q); have r0 := R4.out.cell' 0 (.bool false) rfl; have f0 := R4.out.free 0; have r1 := R4.out.cell' 1 (.int .i64 0) rfl; have f1 := R4.out.free 1; have r2 := R4.out.cell' 2 (.bool false) rfl; have f2 := R4.out.free 2; have r3 := R4.out.cell' 3 (.int .i64 0) rfl; have f3 := R4.out.free 3; have r4 := R4.out.cell' 4 (.bool false) rfl; have f4 := R4.out.free 4; have r5 := R4.out.cell' 5 (.int .i64 0) rfl; have f5 := R4.out.free 5; clear q)))
              have S := R4.out.st6 (.bool false) (.int .i64 0) (.bool false) (.int .i64 0) (.bool false) (.int .i64 0)
              have t0 := S.cell' 0 (.bool false) rfl
              have t1 := S.cell' 1 (.int .i64 0) rfl
              have t2 := S.cell' 2 (.bool false) rfl
              have t3 := S.cell' 3 (.int .i64 0) rfl
              have t4 := S.cell' 4 (.bool false) rfl
              have t5 := S.cell' 5 (.int .i64 0) rfl
              refine bodyPost_ret (v := .tuple #[.agg #[.bool false, .int .i64 0, .bool false, .int .i64 0, .bool false, .int .i64 0], .int .i64 er]) (by simp [results, Tryd.results73, go_sem, t0, t1, t2, t3, t4, t5]) rfl ⟨?_, Q4.out.st6 (by simp) _ _ _ _ _ _⟩
              rw [(ER.out 0).1, (ER.out 0).2, (ER.out 1).1, (ER.out 1).2, (ER.out 2).1, (ER.out 2).2, E3.out]
      · have f1 := fun w' (q : Qw w w') => FF.out w' q 89
        have i0 := index_xyz1
        cases ht : Tg.thr l 1
        · have E := to_no (u := u) (ax := ax) ht
          have HT := Lib.hid ht
          rw [show Md.fo l 89 = false from ht] at f1
          generalize Md.fv l 89 = n at *
          have F1 := Lib.hid f1
          have EZ := Lib.hid E.2
          have EW : Hid (wrc l u ax 1 = wrc l u ax 2) := Lib.hid (by simp only [wrc, HT.out, E.1])
          clear f1 ht E FF
          go_wp2_with (go_at_call 83; ((with_reducible refine (F1.out _ HQ.out).mono ?_); rintro e w3 ⟨rfl, q⟩; have Q3 := Lib.hid (Qw.trans HQ.out q); have W3 := Lib.hid (HW.out.kept q); have R3 := Lib.hid (HR.out.kept q); clear q))
          go_roundw
          case rel => exact ⟨2, by omega, rfl, Lib.hid ⟨fun _ => HE.out.1 (by omega), fun _ => EZ.out, by omega⟩, Lib.hid (by rw [← EW.out]; exact W3.out), R3, Q3⟩
          case measure => simp [intOf]
        · rw [show Md.fo l 89 = true from ht] at f1
          by_cases hx : (1 : Int) = ax
          · have E := to_ax (u := u) ht hx
            have EW : Hid ((((wrc l u ax 1).setIfInBounds 2 (.bool true)).setIfInBounds 3 (.int .i64 (Md.fv l 89))) = wrc l u ax 2) := Lib.hid (by simp only [wrc, ht, E.1]; rfl)
            have EZ := Lib.hid E.2
            generalize Md.fv l 89 = n at *
            have F1 := Lib.hid f1
            have HX := Lib.hid hx
            have zx : ((1 : Int) != ax) = false := by rw [← hx]; rfl
            clear f1 ht E FF hx
            go_wp2_with (go_at_call 83; ((with_reducible refine (F1.out _ HQ.out).mono ?_); rintro e w3 ⟨rfl, q⟩; have Q3 := Lib.hid (Qw.trans HQ.out q); have W3 := Lib.hid (HW.out.kept q); have R3 := Lib.hid (HR.out.kept q); have w0 := W3.out.cell' 2 (.bool false) rfl; have w1 := W3.out.cell' 3 (.int .i64 0) rfl; have g0 := W3.out.free 2; have g1 := W3.out.free 3; clear q))
            go_roundw
            case rel => exact ⟨2, by omega, rfl, Lib.hid ⟨fun _ => HE.out.1 (by omega), fun _ => EZ.out, by omega⟩, Lib.hid (by rw [← EW.out]; exact W3.out.st2 _ _ _), Lib.hid (((R3.out.other (by simp) _).other (by simp) _)), Lib.hid (Q3.out.st2 (by simp) _ _ _ _)⟩
            case measure => simp [intOf]
          · have E := to_ln (u := u) ht hx
            have zx : ((1 : Int) != ax) = true := by rw [bne_iff_ne]; exact hx
            have ln := fun w => fxLength (Md.fv l 89) u w
            have E2 : Tg.we l u ax 1 = lene (Md.fv l 89) u := E.2
            have E1 : Tg.wn l u ax 1 = lenv (Md.fv l 89) u := E.1
            clear E
            by_cases hz : lene (Md.fv l 89) u = 0
            · have EZ := Lib.hid (E2.trans hz)
              have EW : Hid ((((wrc l u ax 1).setIfInBounds 2 (.bool true)).setIfInBounds 3 (.int .i64 (lenv (Md.fv l 89) u))) = wrc l u ax 2) := Lib.hid (by simp only [wrc, ht, E1]; rfl)
              rw [hz] at ln
              generalize lenv (Md.fv l 89) u = m at *
              generalize Md.fv l 89 = n at *
              have F1 := Lib.hid f1
              have LN := Lib.hid ln
              clear f1 ht FF hx ln hz E1 E2
              go_wp2_with (first | (go_at_call 83; ((with_reducible refine (F1.out _ HQ.out).mono ?_); rintro e w3 ⟨rfl, q⟩; have Q3 := Lib.hid (Qw.trans HQ.out q); have W3 := Lib.hid (HW.out.kept q); have R3 := Lib.hid (HR.out.kept q); clear q)) | (go_at_call 84; ((with_reducible refine (LN.out _).mono ?_); rintro e w4 ⟨rfl, q⟩; have Q4 := Lib.hid (Qw.trans Q3.out q); have W4 := Lib.hid (W3.out.kept q); have R4 := Lib.hid (R3.out.kept q); have w0 := W4.out.cell' 2 (.bool false) rfl; have w1 := W4.out.cell' 3 (.int .i64 0) rfl; have g0 := W4.out.free 2; have g1 := W4.out.free 3; clear q)))
              go_roundw
              case rel => exact ⟨2, by omega, rfl, Lib.hid ⟨fun _ => HE.out.1 (by omega), fun _ => EZ.out, by omega⟩, Lib.hid (by rw [← EW.out]; exact W4.out.st2 _ _ _), Lib.hid (((R4.out.other (by simp) _).other (by simp) _)), Lib.hid (Q4.out.st2 (by simp) _ _ _ _)⟩
              case measure => simp [intOf]
            · have he := E2
              have e3 : Tg.e3 l u ax = lene (Md.fv l 89) u := by unfold Tg.e3; rw [if_pos (HE.out.1 (by omega)), if_neg (by rw [he]; exact hz), he]
              have ER := Lib.hid (rd_bad e3 hz)
              have E3 := Lib.hid e3
              clear e3 E1 E2 he
              generalize lenv (Md.fv l 89) u = m at *
              generalize lene (Md.fv l 89) u = er at *
              generalize Md.fv l 89 = n at *
              have zz : (er != 0) = true := by rw [bne_iff_ne]; exact hz
              have F1 := Lib.hid f1
              have LN := Lib.hid ln
              clear f1 ht FF hx ln hz
              go_wp2_with (first | (go_at_call 83; ((with_reducible refine (F1.out _ HQ.out).mono ?_); rintro e w3 ⟨rfl, q⟩; have Q3 := Lib.hid (Qw.trans HQ.out q); have W3 := Lib.hid (HW.out.kept q); have R3 := Lib.hid (HR.out.kept q); clear q)) | (go_at_call 84; ((with_reducible refine (LN.out _).mono ?_); rintro e w4 ⟨rfl, q⟩; have Q4 := Lib.hid (Qw.trans Q3.out q); have R4 := Lib.hid (R3.out.kept q); have r0 := R4.out.cell' 0 (.bool false) rfl; have f0 := R4.out.free 0; have r1 := R4.out.cell' 1 (.int .i64 0) rfl; have f1 := R4.out.free 1; have r2 := R4.out.cell' 2 (.bool false) rfl; have f2 := R4.out.free 2; have r3 := R4.out.cell' 3 (.int .i64 0) rfl; have f3 := R4.out.free 3; have r4 := R4.out.cell' 4 (.bool false) rfl; have f4 := R4.out.free 4; have r5 := R4.out.cell' 5 (.int .i64 0) rfl; have f5 := R4.out.free 5; clear q)))
              have S := R4.out.st6 (.bool false) (.int .i64 0) (.bool false) (.int .i64 0) (.bool false) (.int .i64 0)
              have t0 := S.cell' 0 (.bool false) rfl
              have t1 := S.cell' 1 (.int .i64 0) rfl
              have t2 := S.cell' 2 (.bool false) rfl
              have t3 := S.cell' 3 (.int .i64 0) rfl
              have t4 := S.cell' 4 (.bool false) rfl
              have t5 := S.cell' 5 (.int .i64 0) rfl
              refine bodyPost_ret (v := .tuple #[.agg #[.bool false, .int .i64 0, .bool false, .int .i64 0, .bool false, .int .i64 0], .int .i64 er]) (by simp [results, Tryd.results73, go_sem, t0, t1, t2, t3, t4, t5]) rfl ⟨?_, Q4.out.st6 (by simp) _ _ _ _ _ _⟩
              rw [(ER.out 0).1, (ER.out 0).2, (ER.out 1).1, (ER.out 1).2, (ER.out 2).1, (ER.out 2).2, E3.out]
      · have f1 := fun w' (q : Qw w w') => FF.out w' q 90
        have i0 := index_xyz2
        cases ht : Tg.thr l 2
        · have E := to_no (u := u) (ax := ax) ht
          have HT := Lib.hid ht
          rw [show Md.fo l 90 = false from ht] at f1
          generalize Md.fv l 90 = n at *
          have F1 := Lib.hid f1
          have EZ := Lib.hid E.2
          have EW : Hid (wrc l u ax 2 = wrc l u ax 3) := Lib.hid (by simp only [wrc, HT.out, E.1])
          clear f1 ht E FF
          go_wp2_with (go_at_call 83; ((with_reducible refine (F1.out _ HQ.out).mono ?_); rintro e w3 ⟨rfl, q⟩; have Q3 := Lib.hid (Qw.trans HQ.out q); have W3 := Lib.hid (HW.out.kept q); have R3 := Lib.hid (HR.out.kept q); clear q))
          go_roundw
          case rel => exact ⟨3, by omega, rfl, Lib.hid ⟨fun _ => HE.out.1 (by omega), fun _ => HE.out.2.1 (by omega), fun _ => EZ.out⟩, Lib.hid (by rw [← EW.out]; exact W3.out), R3, Q3⟩
          case measure => simp [intOf]
        · rw [show Md.fo l 90 = true from ht] at f1
          by_cases hx : (2 : Int) = ax
          · have E := to_ax (u := u) ht hx
            have EW : Hid ((((wrc l u ax 2).setIfInBounds 4 (.bool true)).setIfInBounds 5 (.int .i64 (Md.fv l 90))) = wrc l u ax 3) := Lib.hid (by simp only [wrc, ht, E.1]; rfl)
            have EZ := Lib.hid E.2
            generalize Md.fv l 90 = n at *
            have F1 := Lib.hid f1
            have HX := Lib.hid hx
            have zx : ((2 : Int) != ax) = false := by rw [← hx]; rfl
            clear f1 ht E FF hx
            go_wp2_with (go_at_call 83; ((with_reducible refine (F1.out _ HQ.out).mono ?_); rintro e w3 ⟨rfl, q⟩; have Q3 := Lib.hid (Qw.trans HQ.out q); have W3 := Lib.hid (HW.out.kept q); have R3 := Lib.hid (HR.out.kept q); have w0 := W3.out.cell' 4 (.bool false) rfl; have w1 := W3.out.cell' 5 (.int .i64 0) rfl; have g0 := W3.out.free 4; have g1 := W3.out.free 5; clear q))
            go_roundw
            case rel => exact ⟨3, by omega, rfl, Lib.hid ⟨fun _ => HE.out.1 (by omega), fun _ => HE.out.2.1 (by omega), fun _ => EZ.out⟩, Lib.hid (by rw [← EW.out]; exact W3.out.st2 _ _ _), Lib.hid (((R3.out.other (by simp) _).other (by simp) _)), Lib.hid (Q3.out.st2 (by simp) _ _ _ _)⟩
            case measure => simp [intOf]
          · have E := to_ln (u := u) ht hx
            have zx : ((2 : Int) != ax) = true := by rw [bne_iff_ne]; exact hx
            have ln := fun w => fxLength (Md.fv l 90) u w
            have E2 : Tg.we l u ax 2 = lene (Md.fv l 90) u := E.2
            have E1 : Tg.wn l u ax 2 = lenv (Md.fv l 90) u := E.1
            clear E
            by_cases hz : lene (Md.fv l 90) u = 0
            · have EZ := Lib.hid (E2.trans hz)
              have EW : Hid ((((wrc l u ax 2).setIfInBounds 4 (.bool true)).setIfInBounds 5 (.int .i64 (lenv (Md.fv l 90) u))) = wrc l u ax 3) := Lib.hid (by simp only [wrc, ht, E1]; rfl)
              rw [hz] at ln
              generalize lenv (Md.fv l 90) u = m at *
              generalize Md.fv l 90 = n at *
              have F1 := Lib.hid f1
              have LN := Lib.hid ln
              clear f1 ht FF hx ln hz E1 E2
              go_wp2_with (first | (go_at_call 83; ((with_reducible refine (F1.out _ HQ.out).mono ?_); rintro e w3 ⟨rfl, q⟩; have Q3 := Lib.hid (Qw.trans HQ.out q); have W3 := Lib.hid (HW.out.kept q); have R3 := Lib.hid (HR.out.kept q); clear q)) | (go_at_call 84; ((with_reducible refine (LN.out _).mono ?_); rintro e w4 ⟨rfl, q⟩; have Q4 := Lib.hid (Qw.trans Q3.out q); have W4 := Lib.hid (W3.out.kept q); have R4 := Lib.hid (R3.out.kept q); have w0 := W4.out.cell' 4 (.bool false) rfl; have w1 := W4.out.cell' 5 (.int .i64 0) rfl; have g0 := W4.out.free 4; have g1 := W4.out.free 5; clear q)))
              go_roundw
              case rel => exact ⟨3, by omega, rfl, Lib.hid ⟨fun _ => HE.out.1 (by omega), fun _ => HE.out.2.1 (by omega), fun _ => EZ.out⟩, Lib.hid (by rw [← EW.out]; exact W4.out.st2 _ _ _), Lib.hid (((R4.out.other (by simp) _).other (by simp) _)), Lib.hid (Q4.out.st2 (by simp) _ _ _ _)⟩
              case measure => simp [intOf]
            · have he := E2
              have e3 : Tg.e3 l u ax = lene (Md.fv l 90) u := by unfold Tg.e3; rw [if_pos (HE.out.1 (by omega)), if_pos (HE.out.2.1 (by omega)), he]
              have ER := Lib.hid (rd_bad e3 hz)
              have E3 := Lib.hid e3
              clear e3 E1 E2 he
              generalize lenv (Md.fv l 90) u = m at *
              generalize lene (Md.fv l 90) u = er at *
              generalize Md.fv l 90 = n at *
              have zz : (er != 0) = true := by rw [bne_iff_ne]; exact hz
              have F1 := Lib.hid f1
              have LN := Lib.hid ln
              clear f1 ht FF hx ln hz
              go_wp2_with (first | (go_at_call 83; ((with_reducible refine (F1.out _ HQ.out).mono ?_); rintro e w3 ⟨rfl, q⟩; have Q3 := Lib.hid (Qw.trans HQ.out q); have W3 := Lib.hid (HW.out.kept q); have R3 := Lib.hid (HR.out.kept q); clear q)) | (go_at_call 84; ((with_reducible refine (LN.out _).mono ?_); rintro e w4 ⟨rfl, q⟩; have Q4 := Lib.hid (Qw.trans Q3.out q); have R4 := Lib.hid (R3.out.kept q); have r0 := R4.out.cell' 0 (.bool false) rfl; have f0 := R4.out.free 0; have r1 := R4.out.cell' 1 (.int .i64 0) rfl; have f1 := R4.out.free 1; have r2 := R4.out.cell' 2 (.bool false) rfl; have f2 := R4.out.free 2; have r3 := R4.out.cell' 3 (.int .i64 0) rfl; have f3 := R4.out.free 3; have r4 := R4.out.cell' 4 (.bool false) rfl; have f4 := R4.out.free 4; have r5 := R4.out.cell' 5 (.int .i64 0) rfl; have f5 := R4.out.free 5; clear q)))
              have S := R4.out.st6 (.bool false) (.int .i64 0) (.bool false) (.int .i64 0) (.bool false) (.int .i64 0)
              have t0 := S.cell' 0 (.bool false) rfl
              have t1 := S.cell' 1 (.int .i64 0) rfl
              have t2 := S.cell' 2 (.bool false) rfl
              have t3 := S.cell' 3 (.int .i64 0) rfl
              have t4 := S.cell' 4 (.bool false) rfl
              have t5 := S.cell' 5 (.int .i64 0) rfl
              refine bodyPost_ret (v := .tuple #[.agg #[.bool false, .int .i64 0, .bool false, .int .i64 0, .bool false, .int .i64 0], .int .i64 er]) (by simp [results, Tryd.results73, go_sem, t0, t1, t2, t3, t4, t5]) rfl ⟨?_, Q4.out.st6 (by simp) _ _ _ _ _ _⟩
              rw [(ER.out 0).1, (ER.out 0).2, (ER.out 1).1, (ER.out 1).2, (ER.out 2).1, (ER.out 2).2, E3.out]
    · obtain rfl : k = 3 := by omega
      have e3 : Tg.e3 l u ax = 0 := by unfold Tg.e3; rw [if_pos (HE.out.1 (by omega)), if_pos (HE.out.2.1 (by omega)), HE.out.2.2 (by omega)]
      have ER := Lib.hid (rd_ok e3)
      have E3 := Lib.hid e3
      clear e3 h3 hk
      have w0 := HW.out.cell' 0 (.bool (Tg.thr l 0)) rfl
      have r0 := HR.out.cell' 0 (.bool false) rfl
      have f0 := HR.out.free 0
      have w1 := HW.out.cell' 1 (.int .i64 (Tg.wn l u ax 0)) rfl
      have r1 := HR.out.cell' 1 (.int .i64 0) rfl
      have f1 := HR.out.free 1
      have w2 := HW.out.cell' 2 (.bool (Tg.thr l 1)) rfl
      have r2 := HR.out.cell' 2 (.bool false) rfl
      have f2 := HR.out.free 2
      have w3 := HW.out.cell' 3 (.int .i64 (Tg.wn l u ax 1)) rfl
      have r3 := HR.out.cell' 3 (.int .i64 0) rfl
      have f3 := HR.out.free 3
      have w4 := HW.out.cell' 4 (.bool (Tg.thr l 2)) rfl
      have r4 := HR.out.cell' 4 (.bool false) rfl
      have f4 := HR.out.free 4
      have w5 := HW.out.cell' 5 (.int .i64 (Tg.wn l u ax 2)) rfl
      have r5 := HR.out.cell' 5 (.int .i64 0) rfl
      have f5 := HR.out.free 5
      go_wp2
      have S := HR.out.st6 (.bool (Tg.thr l 0)) (.int .i64 (Tg.wn l u ax 0)) (.bool (Tg.thr l 1)) (.int .i64 (Tg.wn l u ax 1)) (.bool (Tg.thr l 2)) (.int .i64 (Tg.wn l u ax 2))
      clear w0 w1 w2 w3 w4 w5 r0 r1 r2 r3 r4 r5 f0 f1 f2 f3 f4 f5
      have t0 := S.cell' 0 (.bool (Tg.thr l 0)) rfl
      have t1 := S.cell' 1 (.int .i64 (Tg.wn l u ax 0)) rfl
      have t2 := S.cell' 2 (.bool (Tg.thr l 1)) rfl
      have t3 := S.cell' 3 (.int .i64 (Tg.wn l u ax 1)) rfl
      have t4 := S.cell' 4 (.bool (Tg.thr l 2)) rfl
      have t5 := S.cell' 5 (.int .i64 (Tg.wn l u ax 2)) rfl
      refine bodyPost_ret (v := .tuple #[.agg #[.bool (Tg.thr l 0), .int .i64 (Tg.wn l u ax 0), .bool (Tg.thr l 1), .int .i64 (Tg.wn l u ax 1), .bool (Tg.thr l 2), .int .i64 (Tg.wn l u ax 2)], .int .i64 0]) (by simp [results, Tryd.results73, go_sem, t0, t1, t2, t3, t4, t5]) rfl ⟨?_, HQ.out.st6 (by simp) _ _ _ _ _ _⟩
      rw [(ER.out 0).1, (ER.out 0).2, (ER.out 1).1, (ER.out 1).2, (ER.out 2).1, (ER.out 2).2, E3.out]
end Go.Proofs.YtnjcbgnghfppoaaDoor
