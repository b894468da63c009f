import Derived.Test.YtlgdjbabbfdngaaDoorZB1
import Derived.Test.YtlgdjbabbfdngaaDoorZB6
import Derived.Test.YtlgdjbabbfdngaaDoorZB14
import Derived.Test.YtlgdjbabbfdngaaDoorZB16
import Derived.Test.YtlgdjbabbfdngaaDoorZB17
import Derived.Test.YtlgdjbabbfdngaaDoorZB20
import Derived.Deep.Slices
set_option linter.unusedVariables false
set_option linter.unusedSimpArgs false
namespace Go.Proofs.YtlgdjbabbfdngaaDoor
open Go.RowKit
theorem IntsB.then {w w' : World} {v : Value} {zs : List Int} (h : IntsB w.heap.size w v zs) (q : Qw w w') : IntsB w'.heap.size w' v zs := (h.kept q (Nat.le_refl _)).mono q.size
theorem Qw.px {P : Nat} {w0 w w' : World} (q : Qw w0 w) (h : Px P w w') (hP : w0.heap.size ≤ P) : Qw w0 w' :=
  ⟨h.os.trans q.os, h.tape.trans q.tape, h.output.trans q.output, Nat.le_trans q.size h.size, fun k hk => (h.block k (Nat.lt_of_lt_of_le hk q.size) (by omega)).trans (q.block k hk)⟩
def NwT (w0 : World) (v : Value) (zs : List Int) (e : Ending) (w' : World) : Prop := ∃ B, e = .returned (.pointer (some ⟨B, 0, none⟩)) ∧ w0.heap.size ≤ B ∧ TpB w' B v zs ∧ Qw w0 w'
theorem newX {v : Value} {zs : List Int} (w0 w : World) (h : IntsB w0.heap.size w0 v zs) (q : Qw w0 w) : Calls Tryd.prog 14 #[v] w (NwT w0 v zs) := (newF v zs w (h.then q)).mono (by
  rintro e w' ⟨rfl, tp, q2⟩
  exact ⟨_, rfl, q.size, ⟨0, tp⟩, Qw.trans q q2⟩)
theorem NwT.open_ {w0 : World} {v : Value} {zs : List Int} {e : Ending} {w' : World} (h : NwT w0 v zs e w') : ∃ B, e = .returned (.pointer (some ⟨B, 0, none⟩)) ∧ w0.heap.size ≤ B ∧ TpB w' B v zs ∧ Qw w0 w' := h
def FwQ (w0 : World) (e : Ending) (w' : World) : Prop := ∃ a cap l s, e = .returned (.slice a l.length cap) ∧ l.length ≤ 40 ∧ BlksB w' (fun k => w0.heap.size ≤ k) a cap l ∧ Lb.build l = .ok s ∧ (∃ lab, Lb.Fl 2 lab 0 l s) ∧ (∀ b ∈ l, Sy.Fwn b) ∧ Qw w0 w'
theorem FwQ.open_ {w0 : World} {e : Ending} {w' : World} (h : FwQ w0 e w') : ∃ a cap l s, e = .returned (.slice a l.length cap) ∧ l.length ≤ 40 ∧ BlksB w' (fun k => w0.heap.size ≤ k) a cap l ∧ Lb.build l = .ok s ∧ (∃ lab, Lb.Fl 2 lab 0 l s) ∧ (∀ b ∈ l, Sy.Fwn b) ∧ Qw w0 w' := h
theorem flowX {B : Nat} {v : Value} {zs : List Int} (w0 w : World) (hB : w0.heap.size ≤ B) (hT : TpB w B v zs) (q : Qw w0 w) : Calls Tryd.prog 15 #[.pointer (some ⟨B, 0, none⟩)] w (FwQ w0) := (flowW w hT).mono (by
  intro e w' h
  obtain ⟨a, cap, l, lab, rfl, h1, h2, ⟨s, h3⟩, h4, h5, h6⟩ := h
  have hs := q.size
  exact ⟨a, cap, l, s, rfl, h1, h2.go fun b hb _ => ⟨rfl, by omega⟩, h3.build (by omega), ⟨lab, h3⟩, h4, Qw.px q h6 hB⟩)
theorem BdY.open_ {w : World} {bs : List Sy.Bl} {s : Lb.St} {e : Ending} {w' : World} (h : BdY w bs s e w') : ∃ ba bc pa pc ma mc, e = .returned (.tuple #[.agg #[.slice ba bs.length bc, .slice pa s.pg.length pc, .slice ma s.mate.length mc], .int .i64 (bs.length : Nat), .int .i64 0]) ∧ LibX w' (fun b => w.heap.size ≤ b) w.heap.size ba bc pa pc ma mc bs s ∧ Qw w w' := h
theorem LibX.any {w : World} {S : Nat → Prop} {B : Nat} {ba pa ma : Option Addr} {bc pc mc : Nat} {bs : List Sy.Bl} {s : Lb.St} (h : LibX w S B ba bc pa pc ma mc bs s) : LibX w (fun _ => True) 0 ba bc pa pc ma mc bs s := ⟨h.b.go fun b hb _ => ⟨rfl, trivial⟩, h.p.base (Nat.zero_le _), h.m.base (Nat.zero_le _)⟩
namespace Lb
end Lb
end Go.Proofs.YtlgdjbabbfdngaaDoor
set_option linter.unusedVariables false
set_option linter.unusedSimpArgs false
namespace Go.Proofs.YtlgdjbabbfdngaaDoor
open Go.RowKit
def RnA (B : Nat) (v : Value) (zs : List Int) (w : World) (e : Ending) (w' : World) : Prop :=
  ∃ (a : Option Addr) (cap : Nat) (l : List Sy.Bl), e = .returned (.slice a l.length cap) ∧ l.length ≤ 13 ∧ BlksB w' (fun k => w.heap.size ≤ k) a cap l ∧ (∀ b ∈ l, Sy.Dwn b) ∧ TpB w' B v zs ∧ Px B w w'
set_option maxRecDepth 100000 in
set_option maxHeartbeats 4000000 in
theorem randomW {B : Nat} {v : Value} {zs : List Int} (w : World) (hT : TpB w B v zs) : Calls Tryd.prog 13 #[.pointer (some ⟨B, 0, none⟩)] w (RnA B v zs w) := by
  have hBl := hT.lt
  have c1 := fun n n1 n2 w h => nextA (B := B) (v := v) (zs := zs) n n1 n2 w h
  have c3 := fun w h => blockC (B := B) (v := v) (zs := zs) w h
  have C := Lib.hid c1
  have BL := Lib.hid c3
  have FI := Lib.hid (Fi.start hT)
  clear c1 c3 hT
  go_enter Tryd.func13, Tryd.ntmps13
  go_wp2_with (go_at_call 29; with_reducible refine (C.out _ (by decide) (by decide) _ FI.out.T).mono ?_; rintro e w' ⟨n, rfl, n0, n1, tp, q⟩; replace FI := Lib.hid (FI.out.px tp q); clear tp q)
  go_loopw [3, 4] (fun lv nv wr => ∃ (m : Int) (ds : List Bi), nv = .int .i64 m ∧ 0 ≤ m ∧ m + (ds.length : Int) ≤ 13 ∧ Hid (∀ d ∈ ds, Sy.Dwn d.b) ∧ Hid (Fi B v zs w lv (.slice none 0 0) 0 ds wr)) (fun _ nv _ => (intOf nv).toNat)
  case atStart => exact ⟨n, [], rfl, n0, by simp; omega, Lib.hid (by simp), FI⟩
  case round =>
    clear FI
    obtain ⟨m, ds, rfl, m0, m1, HD, FI⟩ := hrel
    have hlv : ∃ la ln lc, u3 = .slice la ln lc := by obtain ⟨a, c, e, h⟩ := FI.out.O.shape; exact ⟨a, c, e, h⟩
    obtain ⟨ea, en, ec, rfl⟩ := hlv
    by_cases hlt : 0 < m
    · have hz : Hid (∀ b, wr.heap.size ≤ b → w.heap.size ≤ b ∧ (Value.slice ea en ec).ownBlock ≠ some b ∧ (Value.slice none 0 0).ownBlock ≠ some b) := Lib.hid (fun b hb => by
        have := FI.out.q.size
        refine ⟨by omega, fun e => ?_, by intro e; cases e⟩
        have := (FI.out.O.lt e).2.1
        omega)
      go_wp2_with (first
        | (go_at_call 32; with_reducible refine (BL.out _ FI.out.T).mono ?_; rintro e w2 ⟨b, wa, la, xa, wc, lc, xc, rfl, dw, hb, tp, q⟩; have FJ := Lib.hid (FI.out.px tp q); have HB := Lib.hid hb; have DW := Lib.hid dw; clear tp q hb dw)
        | (at_builtin; refine block_append 11 14 ⟨b, wa, wc, la, lc, xa, xc⟩ w.heap.size _ ds _ (by rfl) (by rfl) (Bx.new _ _ _) (FJ.out.kept ((Qw.refl _).al _)).O (by omega) (by have := FJ.out.q.size; simp; omega) ?_; intro v' w3 ho hg hn; have FK := Lib.hid ((FJ.out.kept ((Qw.refl _).al _)).app ((BiB.kept HB.out ((Qw.refl _).al _)).go fun k hk _ => ⟨rfl, hz.out k hk⟩) ho hg hn); clear ho hg hn))
      go_roundw
      case measure => simp [intOf]; omega
      case rel => exact ⟨m - 1, ds ++ [⟨b, wa, wc, la, lc, xa, xc⟩], by go_num, by omega, by simp; omega, Lib.hid (fun d hd => by rcases List.mem_append.1 hd with hd | hd; exact HD.out d hd; obtain rfl := List.mem_singleton.1 hd; exact DW.out), FK⟩
    · obtain ⟨a, cap, e, hb⟩ := FI.out.O.blocks (S := fun k => w.heap.size ≤ k) (fun g hg => (FI.out.O.lt hg).1) (fun d hd => (FI.out.D d hd).go fun b hS _ => ⟨rfl, hS.1⟩)
      obtain ⟨rfl, rfl, rfl⟩ : ea = a ∧ en = ds.length ∧ ec = cap := by simpa using e
      have HB := Lib.hid hb
      clear e hb
      go_wp2
      go_ret
      refine ⟨ea, ec, bis ds, ?_, ?_, HB.out, fun b hb => ?_, FI.out.T, FI.out.q⟩
      · rw [show (bis ds).length = ds.length from List.length_map _]; rfl
      · unfold bis; rw [List.length_map]; omega
      · obtain ⟨d, hd, rfl⟩ := List.mem_map.1 hb
        exact HD.out d hd
def RnQ (w0 : World) (e : Ending) (w' : World) : Prop := ∃ a cap l, e = .returned (.slice a l.length cap) ∧ l.length ≤ 13 ∧ BlksB w' (fun k => w0.heap.size ≤ k) a cap l ∧ (∀ b ∈ l, Sy.Dwn b) ∧ Qw w0 w'
theorem RnQ.open_ {w0 : World} {e : Ending} {w' : World} (h : RnQ w0 e w') : ∃ a cap l, e = .returned (.slice a l.length cap) ∧ l.length ≤ 13 ∧ BlksB w' (fun k => w0.heap.size ≤ k) a cap l ∧ (∀ b ∈ l, Sy.Dwn b) ∧ Qw w0 w' := h
theorem randomX {B : Nat} {v : Value} {zs : List Int} (w0 w : World) (hB : w0.heap.size ≤ B) (hT : TpB w B v zs) (q : Qw w0 w) : Calls Tryd.prog 13 #[.pointer (some ⟨B, 0, none⟩)] w (RnQ w0) := (randomW w hT).mono (by
  intro e w' h
  obtain ⟨a, cap, l, rfl, h1, h2, h4, h5, h6⟩ := h
  have hs := q.size
  exact ⟨a, cap, l, rfl, h1, h2.go fun b hb _ => ⟨rfl, by omega⟩, h4, Qw.px q h6 hB⟩)
end Go.Proofs.YtlgdjbabbfdngaaDoor
set_option linter.unusedVariables false
set_option linter.unusedSimpArgs false
namespace Go.Proofs.YtlgdjbabbfdngaaDoor
open Go.RowKit
namespace Lb
open Sy
theorem build_run {l : List Bl} {s : St} (h : build l = .ok s) : s.op = [] ∧ run l st0 = .ok s ∧ l.length ≤ 2000 := by
  unfold build at h
  split at h
  · cases h
  · rename_i hl
    split at h
    · cases h
    · unfold fin at h
      split at h
      · cases h
      · rename_i s1 h1
        split at h
        · cases h
        · rename_i h2
          cases h
          exact ⟨h2, h1, by omega⟩
end Lb
end Go.Proofs.YtlgdjbabbfdngaaDoor
set_option linter.unusedVariables false
set_option linter.unusedSimpArgs false
namespace Go.Proofs.YtlgdjbabbfdngaaDoor
open Go.RowKit
theorem LbR.bad_ {w w' : World} {bs : List Sy.Bl} {e : Ending} {j : Nat} {er : Int} (hb : Lb.build bs = .bad j er) (h : LbR w bs e w') : e = .returned (.tuple #[.agg #[.slice none 0 0, .slice none 0 0, .slice none 0 0], .int .i64 (j : Nat), .int .i64 er]) ∧ Qw w w' := by
  obtain ⟨h1, q⟩ := h
  rw [hb] at h1
  exact ⟨h1, q⟩
theorem LbR.ok_ {w w' : World} {bs : List Sy.Bl} {e : Ending} {s : Lb.St} (hb : Lb.build bs = .ok s) (h : LbR w bs e w') : BdY w bs s e w' := by
  obtain ⟨h1, q⟩ := h
  rw [hb] at h1
  obtain ⟨v, rfl, ba, bc, pv, mv, rfl, k1, k2, k3⟩ := h1
  obtain ⟨pa, pc, rfl, _⟩ := k2.form
  obtain ⟨ma, mc, rfl, _⟩ := k3.form
  rw [List.length_map] at k2 k3
  refine ⟨ba, bc, pa, pc, ma, mc, ?_, ⟨k1, k2, k3⟩, q⟩
  simp only [List.length_map]
theorem libX_nil (w : World) : LibX w (fun _ => True) 0 none 0 none 0 none 0 [] ⟨0, [], [], [], []⟩ := ⟨BlksB.nil _ _, OwnG.nil .., OwnG.nil ..⟩
theorem run_len1 {bs : List Sy.Bl} {s : Lb.St} (hb : Lb.build bs = .ok s) : s.pg.length ≤ 5000 := by
  have h := Lb.build_run hb
  have := (Lb.run_len h.2.1).2
  have e2 : Lb.st0.pg.length = 1 := rfl
  omega
set_option maxRecDepth 100000 in
set_option maxHeartbeats 4000000 in
theorem builtW (bs : List Sy.Bl) (a : Option Addr) (cap : Nat) (S : Nat → Prop) (w : World) (hO : Ow w) (h : BlksB w S a cap bs) : Calls Tryd.prog 12 #[.slice a bs.length cap] w fun e w' => e = .returned (.bool true) ∧ Qw w w' := by
  have c1 := lb_build bs a cap S w hO h
  have c2 := fun w1 (q : Qw w w1) => rb_build bs a cap S w1 (h.kept q)
  have C1 := Lib.hid c1
  have C2 := Lib.hid c2
  clear c1 c2 h hO
  rcases hb : Lb.build bs with ⟨j, er⟩ | s
  · have HB := Lib.hid hb
    have CS := Lib.hid (fun w1 => rs_same (libX_nil w1) (libX_nil w1) (by decide))
    clear hb
    go_enter Tryd.func12, Tryd.ntmps12
    go_upto_region 2 with (go_at_call 17; ((with_reducible refine (C1.out.mono (fun _ _ h => LbR.bad_ HB.out h)).mono ?_); rintro e w1 ⟨rfl, q1⟩))
    refine code_of (fun wx => Bx wx w1.heap.size #[.slice none 0 0, .slice none 0 0, .slice none 0 0] 41 ∧ Qw w wx) ⟨Bx.new _ _ _, Qw.al q1 _⟩ ?_
    clear q1
    rintro w2 ⟨X2, Q2⟩
    generalize w1.heap.size = R1 at *
    go_upto_region 3 with (go_at_call 18; ((with_reducible refine ((C2.out _ Q2).mono (fun _ _ h => LbR.bad_ HB.out h)).mono ?_); rintro e w3 ⟨rfl, q3⟩))
    refine code_of (fun wx => Bx wx R1 #[.slice none 0 0, .slice none 0 0, .slice none 0 0] 41 ∧ Bx wx w3.heap.size #[.slice none 0 0, .slice none 0 0, .slice none 0 0] 41 ∧ Qw w wx) ⟨(X2.kept q3).alloc _, Bx.new _ _ _, Qw.al (Qw.trans Q2 q3) _⟩ ?_
    clear q3 X2 Q2
    rintro w4 ⟨X4, Y4, Q4⟩
    have x0 := X4.cell' 0 _ rfl
    have x1 := X4.cell' 1 _ rfl
    have x2 := X4.cell' 2 _ rfl
    have y0 := Y4.cell' 0 _ rfl
    have y1 := Y4.cell' 1 _ rfl
    have y2 := Y4.cell' 2 _ rfl
    have QQ := Lib.hid Q4
    have CS' : Hid (Calls Tryd.prog 19 #[.agg #[.slice none 0 0, .slice none 0 0, .slice none 0 0], .agg #[.slice none 0 0, .slice none 0 0, .slice none 0 0]] w4 fun e w' => e = .returned (.bool true) ∧ Qw w4 w') := Lib.hid (CS.out w4)
    have bj : ((j : Int) == (j : Int)) = true := by simp
    have be : (er == er) = true := by simp
    clear X4 Y4 Q4 CS C1 C2
    generalize w3.heap.size = R3 at *
    go_wp2_with (go_at_call 19; ((with_reducible refine CS'.out.mono ?_); rintro e w5 ⟨rfl, q5⟩; replace QQ := Lib.hid (Qw.trans QQ.out q5); clear q5))
    go_ret
    exact ⟨rfl, QQ.out⟩
  · have HB := Lib.hid hb
    have CS := Lib.hid (run_len1 hb)
    clear hb
    go_enter Tryd.func12, Tryd.ntmps12
    go_upto_region 2 with (go_at_call 17; ((with_reducible refine (C1.out.mono (fun _ _ h => LbR.ok_ HB.out h)).mono ?_); intro e w1 hy; obtain ⟨ba, bc, pa, pc, ma, mc, rfl, hx, q1⟩ := hy.open_))
    refine code_of (fun wx => Bx wx w1.heap.size #[.slice ba bs.length bc, .slice pa s.pg.length pc, .slice ma s.mate.length mc] 41 ∧ LibX wx (fun _ => True) 0 ba bc pa pc ma mc bs s ∧ Qw w wx) ⟨Bx.new _ _ _, hx.any.kept (Qw.al (Qw.refl _) _), Qw.al q1 _⟩ ?_
    clear q1 hx hy
    rintro w2 ⟨X2, L2, Q2⟩
    generalize w1.heap.size = R1 at *
    go_upto_region 3 with (go_at_call 18; ((with_reducible refine ((C2.out _ Q2).mono (fun _ _ h => LbR.ok_ HB.out h)).mono ?_); intro e w3 hy; obtain ⟨ba', bc', pa', pc', ma', mc', rfl, hx, q3⟩ := hy.open_))
    refine code_of (fun wx => Bx wx R1 #[.slice ba bs.length bc, .slice pa s.pg.length pc, .slice ma s.mate.length mc] 41 ∧ LibX wx (fun _ => True) 0 ba bc pa pc ma mc bs s ∧ Bx wx w3.heap.size #[.slice ba' bs.length bc', .slice pa' s.pg.length pc', .slice ma' s.mate.length mc'] 41 ∧ LibX wx (fun _ => True) 0 ba' bc' pa' pc' ma' mc' bs s ∧ Qw w wx) ⟨(X2.kept q3).alloc _, (L2.kept q3).kept (Qw.al (Qw.refl _) _), Bx.new _ _ _, hx.any.kept (Qw.al (Qw.refl _) _), Qw.al (Qw.trans Q2 q3) _⟩ ?_
    clear q3 X2 L2 Q2 hx hy
    rintro w4 ⟨X4, L4, Y4, M4, Q4⟩
    have x0 := X4.cell' 0 (.slice ba bs.length bc) rfl
    have x1 := X4.cell' 1 (.slice pa s.pg.length pc) rfl
    have x2 := X4.cell' 2 (.slice ma s.mate.length mc) rfl
    have y0 := Y4.cell' 0 (.slice ba' bs.length bc') rfl
    have y1 := Y4.cell' 1 (.slice pa' s.pg.length pc') rfl
    have y2 := Y4.cell' 2 (.slice ma' s.mate.length mc') rfl
    have QQ := Lib.hid Q4
    have CS' := Lib.hid (rs_same L4 M4 CS.out)
    have bj : ((bs.length : Int) == (bs.length : Int)) = true := by simp
    clear X4 Y4 Q4 CS C1 C2 L4 M4
    generalize w3.heap.size = R3 at *
    go_wp2_with (go_at_call 19; ((with_reducible refine CS'.out.mono ?_); rintro e w5 ⟨rfl, q5⟩; replace QQ := Lib.hid (Qw.trans QQ.out q5); clear q5))
    go_ret
    exact ⟨rfl, QQ.out⟩
end Go.Proofs.YtlgdjbabbfdngaaDoor
set_option linter.unusedVariables false
set_option linter.unusedSimpArgs false
namespace Go.Proofs.YtlgdjbabbfdngaaDoor
open Go.RowKit
def Bo (w : World) (e : Ending) (w' : World) : Prop := ∃ b : Bool, e = .returned (.bool b) ∧ Qw w w'
set_option maxRecDepth 100000 in
set_option maxHeartbeats 4000000 in
theorem light9 (bs : List Sy.Bl) (a : Option Addr) (cap : Nat) (S : Nat → Prop) (w : World) (h : BlksB w S a cap bs) : Calls Tryd.prog 9 #[.slice a bs.length cap] w (Bo w) := by
  have l1 : bs.length ≤ cap := h.1
  have l2 : cap ≤ 9223372036854775807 := h.2.1
  have HK := Lib.hid h
  clear h
  go_enter Tryd.func9, Tryd.ntmps9
  go_wp2
  go_loopw [3] (fun iv wr => ∃ i : Nat, i ≤ bs.length ∧ i ≤ 30 ∧ iv = .int .i64 (i : Int) ∧ Hid (Qw w wr)) (fun iv _ => 30 - (intOf iv).toNat)
  case atStart => exact ⟨0, by omega, by omega, rfl, Lib.hid (Qw.refl w)⟩
  case round =>
    obtain ⟨i, hi, h30, rfl, HQ⟩ := hrel
    have h63 : (i : Int) ≤ 9223372036854775806 := by omega
    by_cases hlt : i < bs.length
    · have hi2 : (i : Int) < (bs.length : Int) := by omega
      have d1 : decide ((i : Int) < (bs.length : Int)) = true := decide_eq_true hi2
      have d1' : decide (i < bs.length) = true := decide_eq_true hlt
      by_cases hl3 : i < 30
      · have hl3' : (i : Int) < 30 := by omega
        have d2 : decide ((i : Int) < 30) = true := decide_eq_true hl3'
        rcases (HK.out.kept HQ.out).2.2 with h0 | ⟨b, off, f, rfl, hS, hc⟩
        · rw [h0] at hlt; simp at hlt
        obtain ⟨hb, kk, hz⟩ := hc i hlt
        obtain ⟨d, hd⟩ : ∃ d, d = f i := ⟨_, rfl⟩
        rw [← hd] at hb kk hz
        have z3 : wr.cell? ⟨b, off + i * 11 + 3, none⟩ = some (.slice d.wa d.b.words.length d.wc) := hz 3 (.slice d.wa d.b.words.length d.wc) rfl
        have z4 := hz 4 (.int .i64 d.b.left.op) rfl
        have z5 := hz 5 (.int .i64 d.b.left.n) rfl
        have z6 := hz 6 (.slice d.la d.b.left.ks.length d.lc) rfl
        have z7 := hz 7 (.int .i64 d.b.x.op) rfl
        have z8 := hz 8 (.int .i64 d.b.x.n) rfl
        have z9 := hz 9 (.slice d.xa d.b.x.ks.length d.xc) rfl
        have bl := cell_lt z3
        obtain ⟨dx, hdx⟩ : ∃ dx, ((min (Sy.dpt (.mk d.b.x.op d.b.x.n d.b.x.ks)) 17 : Nat) : Int) = dx := ⟨_, rfl⟩
        obtain ⟨dl, hdl⟩ : ∃ dl, ((min (Sy.dpt (.mk d.b.left.op d.b.left.n d.b.left.ks)) 17 : Nat) : Int) = dl := ⟨_, rfl⟩
        have CX := Lib.hid (fun w1 (q : Qw wr w1) => rw_depth d.b.x.op d.b.x.n d.b.x.ks d.xa d.xc S w1 (kk.2.2.kept q))
        have CL := Lib.hid (fun w1 (q : Qw wr w1) => rw_depth d.b.left.op d.b.left.n d.b.left.ks d.la d.lc S w1 (kk.2.1.kept q))
        rw [hdx] at CX
        rw [hdl] at CL
        have KW := Lib.hid kk.1
        have q0 : Hid (Qw wr wr) := Lib.hid (Qw.refl wr)
        clear hz hc kk hb hd hdx hdl
        have hk : ∀ w1, Qw wr w1 → w1.cell? ⟨b, off + i * 11 + 3, none⟩ = some (.slice d.wa d.b.words.length d.wc) ∧ w1.cell? ⟨b, off + i * 11 + 4, none⟩ = some (.int .i64 d.b.left.op) ∧ w1.cell? ⟨b, off + i * 11 + 5, none⟩ = some (.int .i64 d.b.left.n) ∧ w1.cell? ⟨b, off + i * 11 + 6, none⟩ = some (.slice d.la d.b.left.ks.length d.lc) := fun w1 q => ⟨(q.cell (p := ⟨b, off + i * 11 + 3, none⟩) bl).trans z3, (q.cell (p := ⟨b, off + i * 11 + 4, none⟩) bl).trans z4, (q.cell (p := ⟨b, off + i * 11 + 5, none⟩) bl).trans z5, (q.cell (p := ⟨b, off + i * 11 + 6, none⟩) bl).trans z6⟩
        have HZ := Lib.hid hk
        clear hk z4 z5 z6
        by_cases w30 : 30 < d.b.words.length
        · have e1 : decide ((30 : Int) < (d.b.words.length : Int)) = true := decide_eq_true (by omega)
          have e1' : decide (30 < d.b.words.length) = true := decide_eq_true w30
          have w30' : (30 : Int) < (d.b.words.length : Int) := by omega
          go_wp2
          go_ret
          exact ⟨false, rfl, HQ.out⟩
        · have e1 : decide ((30 : Int) < (d.b.words.length : Int)) = false := decide_eq_false (by omega)
          have e1' : decide (30 < d.b.words.length) = false := decide_eq_false w30
          have w30' : ¬ (30 : Int) < (d.b.words.length : Int) := by omega
          by_cases x6 : (6 : Int) < dx
          · have e2 : decide ((6 : Int) < dx) = true := decide_eq_true x6
            go_wp2_with (go_at_call 31; ((with_reducible refine (CX.out _ q0.out).mono ?_); rintro e w2 ⟨rfl, q⟩; replace q0 : Hid (Qw wr w2) := Lib.hid q; clear q))
            go_ret
            exact ⟨false, rfl, Qw.trans HQ.out q0.out⟩
          · have e2 : decide ((6 : Int) < dx) = false := decide_eq_false x6
            by_cases l6 : (6 : Int) < dl
            · have e3 : decide ((6 : Int) < dl) = true := decide_eq_true l6
              go_wp2_with (first
                | (go_at_call 31; ((with_reducible refine (CX.out _ q0.out).mono ?_); rintro e w2 ⟨rfl, q⟩; replace q0 : Hid (Qw wr w2) := Lib.hid q; clear q; obtain ⟨y3, y4, y5, y6⟩ := HZ.out _ q0.out))
                | (go_at_call 31; ((with_reducible refine (CL.out _ q0.out).mono ?_); rintro e w3 ⟨rfl, q⟩; replace q0 : Hid (Qw wr w3) := Lib.hid (Qw.trans q0.out q); clear q)))
              go_ret
              exact ⟨false, rfl, Qw.trans HQ.out q0.out⟩
            · have e3 : decide ((6 : Int) < dl) = false := decide_eq_false l6
              go_wp2_with (first
                | (go_at_call 31; ((with_reducible refine (CX.out _ q0.out).mono ?_); rintro e w2 ⟨rfl, q⟩; replace q0 : Hid (Qw wr w2) := Lib.hid q; clear q; obtain ⟨y3, y4, y5, y6⟩ := HZ.out _ q0.out))
                | (go_at_call 31; ((with_reducible refine (CL.out _ q0.out).mono ?_); rintro e w3 ⟨rfl, q⟩; replace q0 : Hid (Qw wr w3) := Lib.hid (Qw.trans q0.out q); clear q)))
              clear z3 z7 z8 z9 y3 y4 y5 y6
              have QS := Lib.hid q0.out
              rename World => wq
              go_loopw [4] (fun kv wr' => ∃ k : Nat, k ≤ d.b.words.length ∧ kv = .int .i64 (k : Int) ∧ Hid (Qw wr wr')) (fun kv _ => d.b.words.length - (intOf kv).toNat)
              case atStart => exact ⟨0, by omega, rfl, QS⟩
              case round =>
                clear QS
                obtain ⟨k, hk, rfl, HQ2⟩ := hrel
                have k63 : (k : Int) ≤ 9223372036854775806 := by omega
                obtain ⟨y3, -, -, -⟩ := HZ.out _ HQ2.out
                have bl2 := cell_lt y3
                by_cases hkl : k < d.b.words.length
                · have kw := wordsB_kept KW.out HQ2.out
                  rcases kw.2.2 with h0 | ⟨g, o2, ad, cc, hga, hgS, hgc⟩
                  · rw [h0] at hkl; simp at hkl
                  obtain ⟨u0, u1, u2, u3, kkw⟩ := hgc k hkl
                  rw [hga] at y3
                  have gl := cell_lt u1
                  have hk2 : (k : Int) < (d.b.words.length : Int) := by omega
                  obtain ⟨dw, hdw⟩ : ∃ dw, ((min (Sy.dpt (.mk d.b.words[k].2.op d.b.words[k].2.n d.b.words[k].2.ks)) 17 : Nat) : Int) = dw := ⟨_, rfl⟩
                  have cw := rw_depth d.b.words[k].2.op d.b.words[k].2.n d.b.words[k].2.ks (ad k) (cc k) S wr kkw
                  rw [hdw] at cw
                  have CW := Lib.hid cw
                  clear cw hdw hgc kkw kw hga u0
                  by_cases w6 : (6 : Int) < dw
                  · have e5 : decide ((6 : Int) < dw) = true := decide_eq_true w6
                    go_wp2_with (go_at_call 31; ((with_reducible refine CW.out.mono ?_); rintro e w2 ⟨rfl, q⟩))
                    go_ret
                    exact ⟨false, rfl, Qw.trans HQ.out (Qw.trans HQ2.out q)⟩
                  · have e5 : decide ((6 : Int) < dw) = false := decide_eq_false w6
                    go_wp2_with (go_at_call 31; ((with_reducible refine CW.out.mono ?_); rintro e w2 ⟨rfl, q⟩))
                    go_roundw
                    case measure => simp [intOf]; omega
                    case rel => exact ⟨k + 1, by omega, by go_num, Lib.hid (Qw.trans HQ2.out q)⟩
                · obtain rfl : k = d.b.words.length := by omega
                  have hkb : ¬ (d.b.words.length : Int) < (d.b.words.length : Int) := by omega
                  go_wp2
                  go_roundw
                  case measure => simp [intOf]; omega
                  case rel => exact ⟨i + 1, by omega, by omega, by go_num, Lib.hid (Qw.trans HQ.out HQ2.out)⟩
      · obtain rfl : i = 30 := by omega
        have hl3' : ¬ ((30 : Nat) : Int) < 30 := by omega
        go_wp2
        go_ret
        exact ⟨_, rfl, HQ.out⟩
    · obtain rfl : i = bs.length := by omega
      have hb : ¬ (bs.length : Int) < (bs.length : Int) := by omega
      go_wp2
      go_ret
      exact ⟨_, rfl, HQ.out⟩
theorem cWord9 : Tryd.prog.cellsOf 56 = 4 := by kernel_rfl
theorem cBlock9 : Tryd.prog.cellsOf 37 = 11 := by kernel_rfl
theorem cExpr9 : Tryd.prog.cellsOf 35 = 3 := by kernel_rfl
theorem cKids9 : Tryd.prog.cellsOf 33 = 1 := by kernel_rfl
theorem cWords9 : Tryd.prog.cellsOf 32 = 1 := by kernel_rfl
theorem cInt9 : Tryd.prog.cellsOf 3 = 1 := by kernel_rfl
theorem cBool9 : Tryd.prog.cellsOf 4 = 1 := by kernel_rfl
open Go.ChangeShapes Go.WideShapes Go.ChangeAt
instance : Inhabited Sy.Ex := ⟨.mk 0 0 []⟩
set_option maxRecDepth 100000 in
theorem in_kids9 {H : Type} {enc : TypeId × Value → H} {W : World} : ∀ (fuel : Nat) (c : Value) (x : DataW H × List MemPlace), DataW.trod enc Tryd.prog W 0 (fun _ => true) true fuel 33 [c] = some x →
    ∃ (a : Option Addr) (cap : Nat) (ks : List Sy.Ex), c = .slice a ks.length cap ∧ KidsB W (fun b => b < W.heap.size) a cap ks := by
  intro fuel
  induction fuel using Nat.strongRecOn with
  | _ fuel ih =>
    intro c x h
    rcases DataW.trod_slice Tryd.underlying33 h with ⟨hc, _⟩ | ⟨a, len, cap, elems, rest, n, rfl, hc, _, _, hl, hm, hlen, hel, _, _⟩
    · simp only [List.cons.injEq, and_true] at hc
      subst hc
      exact ⟨none, 0, [], rfl, .nl _ _ (by decide)⟩
    · simp only [List.cons.injEq, and_true] at hc
      subst hc
      have each : ∀ i, i < len → ∃ q : Sy.Ex × Option Addr × Nat, W.cell? (a.add (i * 3)) = some (.int .i64 q.1.op) ∧ W.cell? (a.add (i * 3 + 1)) = some (.int .i64 q.1.n) ∧ W.cell? (a.add (i * 3 + 2)) = some (.slice q.2.1 q.1.ks.length q.2.2) ∧
          KidsB W (fun b => b < W.heap.size) q.2.1 q.2.2 q.1.ks := fun i hi => by
        have h1 := hel i hi
        rw [List.getElem?_eq_getElem (by omega)] at h1
        obtain ⟨cs, h2, h3⟩ := Option.bind_eq_some_iff.1 h1
        rw [cExpr9] at h2
        obtain ⟨_, hcl, hcell⟩ := World.cells?_some h2
        obtain ⟨xs, j, rfl, _, _, hxl, hfs⟩ := DataW.trod_struct Tryd.underlying35 h3
        match xs, hxl, cs, hcl with
        | [y0, y1, y2], _, [v0, v1, v2], _ =>
          have g0 := hfs 0 _ rfl
          have g1 := hfs 1 _ rfl
          have g2 := hfs 2 _ rfl
          simp [cInt9, cKids9] at g0 g1 g2
          have e0 := hcell 0 (by omega)
          have e1 := hcell 1 (by omega)
          have e2 := hcell 2 (by omega)
          rw [Go.Deep.add_add] at e0 e1 e2
          obtain ⟨x0, k0, _, _⟩ := DataW.trod_int Tryd.underlying3 g0
          obtain ⟨x1, k1, _, _⟩ := DataW.trod_int Tryd.underlying3 g1
          obtain ⟨ad, cc, ks, k2, hk⟩ := ih j (by omega) v2 _ g2
          simp only [List.cons.injEq, and_true] at k0 k1
          subst k0 k1 k2
          exact ⟨(.mk x0 x1 ks, ad, cc), by show W.cell? _ = some (.int .i64 x0); simpa using e0, by show W.cell? _ = some (.int .i64 x1); simpa using e1, by show W.cell? _ = some (.slice ad ks.length cc); simpa using e2, hk⟩
      obtain ⟨q, hq⟩ := Go.Deep.choose_lt each
      refine ⟨some a, cap, (List.range len).map fun i => (q i).1, by simp, ?_⟩
      by_cases h0 : len = 0
      · subst h0
        exact .nl _ _ (by unfold maxLen at hm; omega)
      · obtain ⟨b, off, spot⟩ := a
        have hspot : spot = none := by simpa [Addr.add] using World.cell?_spot (hq 0 (by omega)).1
        subst hspot
        have hb : b < W.heap.size := by
          have c := (hq 0 (by omega)).1
          rw [add_plain] at c
          exact cell_lt c
        refine .mk b off cap _ (fun i => (q i).2.1) (fun i => (q i).2.2) hb (by simpa using hl) (by unfold maxLen at hm; omega) (fun i hi => ?_) (fun i hi => ?_)
        · have hi' : i < len := by simpa using hi
          have g : ((List.range len).map fun i => (q i).1)[i] = (q i).1 := by simp
          obtain ⟨c0, c1, c2, _⟩ := hq i hi'
          rw [add_plain] at c0 c1 c2
          rw [← Nat.add_assoc] at c1 c2
          rw [g]
          exact ⟨c0, c1, c2⟩
        · have hi' : i < len := by simpa using hi
          have g : ((List.range len).map fun i => (q i).1)[i] = (q i).1 := by simp
          rw [g]
          exact (hq i hi').2.2.2
theorem in_ex9 {H : Type} {enc : TypeId × Value → H} {W : World} {fuel : Nat} {v0 v1 v2 : Value} {x : DataW H × List MemPlace} (h : DataW.trod enc Tryd.prog W 0 (fun _ => true) true fuel 35 [v0, v1, v2] = some x) :
    ∃ (e : Sy.Ex) (a : Option Addr) (cap : Nat), v0 = .int .i64 e.op ∧ v1 = .int .i64 e.n ∧ v2 = .slice a e.ks.length cap ∧ KidsB W (fun b => b < W.heap.size) a cap e.ks := by
  cases fuel with
  | zero => simp [DataW.trod] at h
  | succ f =>
    obtain ⟨xs, j, _, hj, hl0, hxl, hfs⟩ := DataW.trod_struct Tryd.underlying35 h
    match xs, hxl with
    | [y0, y1, y2], _ =>
      have g0 := hfs 0 _ rfl
      have g1 := hfs 1 _ rfl
      have g2 := hfs 2 _ rfl
      simp [cInt9, cKids9] at g0 g1 g2
      obtain ⟨x0, k0, _, _⟩ := DataW.trod_int Tryd.underlying3 g0
      obtain ⟨x1, k1, _, _⟩ := DataW.trod_int Tryd.underlying3 g1
      obtain ⟨ad, cc, ks, k2, hk⟩ := in_kids9 _ v2 _ g2
      simp only [List.cons.injEq, and_true] at k0 k1
      subst k0 k1 k2
      exact ⟨.mk x0 x1 ks, ad, cc, rfl, rfl, rfl, hk⟩
set_option maxRecDepth 100000 in
theorem in_words9 {H : Type} {enc : TypeId × Value → H} {W : World} {fuel : Nat} {c : Value} {x : DataW H × List MemPlace} (h : DataW.trod enc Tryd.prog W 0 (fun _ => true) true fuel 32 [c] = some x) :
    ∃ (a : Option Addr) (cap : Nat) (ks : List (Int × Sy.Ex)), c = .slice a ks.length cap ∧ WordsB W (fun b => b < W.heap.size) a cap ks := by
  rcases DataW.trod_slice Tryd.underlying32 h with ⟨hc, _⟩ | ⟨a, len, cap, elems, rest, n, rfl, hc, _, _, hl, hm, hlen, hel, _, _⟩
  · simp only [List.cons.injEq, and_true] at hc
    subst hc
    exact ⟨none, 0, [], rfl, WordsB.nil _ _⟩
  · simp only [List.cons.injEq, and_true] at hc
    subst hc
    have each : ∀ i, i < len → ∃ q : (Int × Sy.Ex) × Option Addr × Nat, W.cell? (a.add (i * 4)) = some (.int .i64 q.1.1) ∧ W.cell? (a.add (i * 4 + 1)) = some (.int .i64 q.1.2.op) ∧ W.cell? (a.add (i * 4 + 2)) = some (.int .i64 q.1.2.n) ∧ W.cell? (a.add (i * 4 + 3)) = some (.slice q.2.1 q.1.2.ks.length q.2.2) ∧
        KidsB W (fun b => b < W.heap.size) q.2.1 q.2.2 q.1.2.ks := fun i hi => by
      have h1 := hel i hi
      rw [List.getElem?_eq_getElem (by omega)] at h1
      obtain ⟨cs, h2, h3⟩ := Option.bind_eq_some_iff.1 h1
      rw [cWord9] at h2
      obtain ⟨_, hcl, hcell⟩ := World.cells?_some h2
      obtain ⟨xs, j, _, _, _, hxl, hfs⟩ := DataW.trod_struct Tryd.underlying56 h3
      match xs, hxl, cs, hcl with
      | [y0, y1], _, [v0, v1, v2, v3], _ =>
        have g0 := hfs 0 _ rfl
        have g1 := hfs 1 _ rfl
        simp [cInt9, cExpr9] at g0 g1
        have e0 := hcell 0 (by omega)
        have e1 := hcell 1 (by omega)
        have e2 := hcell 2 (by omega)
        have e3 := hcell 3 (by omega)
        rw [Go.Deep.add_add] at e0 e1 e2 e3
        obtain ⟨x0, k0, _, _⟩ := DataW.trod_int Tryd.underlying3 g0
        obtain ⟨ex, ad, cc, k1, k2, k3, hk⟩ := in_ex9 g1
        simp only [List.cons.injEq, and_true] at k0
        subst k0 k1 k2 k3
        exact ⟨((x0, ex), ad, cc), by show W.cell? _ = some (.int .i64 x0); simpa using e0, by show W.cell? _ = some (.int .i64 ex.op); simpa using e1, by show W.cell? _ = some (.int .i64 ex.n); simpa using e2, by show W.cell? _ = some (.slice ad ex.ks.length cc); simpa using e3, hk⟩
    obtain ⟨q, hq⟩ := Go.Deep.choose_lt each
    refine ⟨some a, cap, (List.range len).map fun i => (q i).1, by simp, by simpa using hl, by unfold maxLen at hm; omega, ?_⟩
    by_cases h0 : len = 0
    · subst h0
      exact .inl rfl
    · obtain ⟨b, off, spot⟩ := a
      have hspot : spot = none := by simpa [Addr.add] using World.cell?_spot (hq 0 (by omega)).1
      subst hspot
      have hb : b < W.heap.size := by
        have c := (hq 0 (by omega)).1
        rw [add_plain] at c
        exact cell_lt c
      refine .inr ⟨b, off, (fun i => (q i).2.1), (fun i => (q i).2.2), rfl, hb, fun i hi => ?_⟩
      have hi' : i < len := by simpa using hi
      have g : ((List.range len).map fun i => (q i).1)[i] = (q i).1 := by simp
      obtain ⟨c0, c1, c2, c3, hk⟩ := hq i hi'
      rw [add_plain] at c0 c1 c2 c3
      rw [← Nat.add_assoc] at c1 c2 c3
      rw [g]
      exact ⟨c0, c1, c2, c3, hk⟩
set_option maxRecDepth 100000 in
theorem in_blocks9 {H : Type} {enc : TypeId × Value → H} {W : World} {fuel : Nat} {c : Value} {x : DataW H × List MemPlace} (h : DataW.trod enc Tryd.prog W 0 (fun _ => true) true fuel 22 [c] = some x) :
    ∃ (a : Option Addr) (cap : Nat) (ks : List Sy.Bl), c = .slice a ks.length cap ∧ BlksB W (fun b => b < W.heap.size) a cap ks := by
  rcases DataW.trod_slice Tryd.underlying22 h with ⟨hc, _⟩ | ⟨a, len, cap, elems, rest, n, rfl, hc, _, _, hl, hm, hlen, hel, _, _⟩
  · simp only [List.cons.injEq, and_true] at hc
    subst hc
    exact ⟨none, 0, [], rfl, BlksB.nil _ _⟩
  · simp only [List.cons.injEq, and_true] at hc
    subst hc
    have each : ∀ i, i < len → ∃ d : Bi, BiB W (fun b => b < W.heap.size) d ∧ ∀ j u, (bicell d)[j]? = some u → W.cell? (a.add (i * 11 + j)) = some u := fun i hi => by
      have h1 := hel i hi
      rw [List.getElem?_eq_getElem (by omega)] at h1
      obtain ⟨cs, h2, h3⟩ := Option.bind_eq_some_iff.1 h1
      rw [cBlock9] at h2
      obtain ⟨_, hcl, hcell⟩ := World.cells?_some h2
      obtain ⟨xs, j, _, _, _, hxl, hfs⟩ := DataW.trod_struct Tryd.underlying37 h3
      match xs, hxl, cs, hcl with
      | [y0, y1, y2, y3, y4, y5, y6], _, [v0, v1, v2, v3, v4, v5, v6, v7, v8, v9, v10], _ =>
        have g0 := hfs 0 _ rfl
        have g1 := hfs 1 _ rfl
        have g2 := hfs 2 _ rfl
        have g3 := hfs 3 _ rfl
        have g4 := hfs 4 _ rfl
        have g5 := hfs 5 _ rfl
        have g6 := hfs 6 _ rfl
        simp [cInt9, cExpr9, cBool9, cWords9] at g0 g1 g2 g3 g4 g5 g6
        obtain ⟨x0, k0, _, _⟩ := DataW.trod_int Tryd.underlying3 g0
        obtain ⟨x1, k1, _, _⟩ := DataW.trod_int Tryd.underlying3 g1
        obtain ⟨x2, k2, _⟩ := DataW.trod_bool Tryd.underlying4 g2
        obtain ⟨wa, wc, ws, k3, hw⟩ := in_words9 g3
        obtain ⟨el, la, lc, k4, k5, k6, hL⟩ := in_ex9 g4
        obtain ⟨ex, xa, xc, k7, k8, k9, hX⟩ := in_ex9 g5
        obtain ⟨x10, k10, _, _⟩ := DataW.trod_int Tryd.underlying3 g6
        simp only [List.cons.injEq, and_true] at k0 k1 k2 k10
        subst k0 k1 k2 k3 k4 k5 k6 k7 k8 k9 k10
        refine ⟨⟨⟨x0, x1, x2, ws, el, ex, x10⟩, wa, wc, la, lc, xa, xc⟩, ⟨hw, hL, hX⟩, fun j u hj => ?_⟩
        have hj' : j < 11 := bicell_lt hj
        have e := hcell j (by simpa using hj')
        rw [Go.Deep.add_add] at e
        have e' : W.cell? (a.add (i * 11 + j)) = (bicell ⟨⟨x0, x1, x2, ws, el, ex, x10⟩, wa, wc, la, lc, xa, xc⟩)[j]? := by
          rw [e]; rfl
        rw [e', hj]
    obtain ⟨q, hq⟩ := Go.Deep.choose_lt each
    refine ⟨some a, cap, (List.range len).map fun i => (q i).b, by simp, by simpa using hl, by unfold maxLen at hm; omega, ?_⟩
    by_cases h0 : len = 0
    · subst h0
      exact .inl rfl
    · obtain ⟨b, off, spot⟩ := a
      have c0 := (hq 0 (by omega)).2 0 _ rfl
      have hspot : spot = none := by simpa [Addr.add] using World.cell?_spot c0
      subst hspot
      have hb : b < W.heap.size := by
        rw [add_plain] at c0
        exact cell_lt c0
      refine .inr ⟨b, off, q, rfl, hb, fun i hi => ?_⟩
      have hi' : i < len := by simpa using hi
      refine ⟨by simp, (hq i hi').1, fun j u hj => ?_⟩
      have := (hq i hi').2 j u hj
      rw [add_plain, ← Nat.add_assoc] at this
      exact this
end Go.Proofs.YtlgdjbabbfdngaaDoor

