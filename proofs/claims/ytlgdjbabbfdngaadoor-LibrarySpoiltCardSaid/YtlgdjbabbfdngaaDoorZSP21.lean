import Derived.Test.YtlgdjbabbfdngaaDoorZSP1
import Derived.Test.YtlgdjbabbfdngaaDoorZSP6
import Derived.Test.YtlgdjbabbfdngaaDoorZSP14
import Derived.Test.YtlgdjbabbfdngaaDoorZSP16
import Derived.Test.YtlgdjbabbfdngaaDoorZSP17
import Derived.Test.YtlgdjbabbfdngaaDoorZSP20
import Derived.Deep.Slices
set_option linter.unusedVariables false
set_option linter.unusedSimpArgs false
namespace Go.Proofs.YtlgdjbabbfdngaaDoor
open Go.RowKit
theorem IntsB.then {w w' : World} {v : Value} {zs : List Int} (h : IntsB w.heap.size w v zs) (q : Qw w w') : IntsB w'.heap.size w' v zs := (h.kept q (Nat.le_refl _)).mono q.size
theorem Qw.px {P : Nat} {w0 w w' : World} (q : Qw w0 w) (h : Px P w w') (hP : w0.heap.size ≤ P) : Qw w0 w' :=
  ⟨h.os.trans q.os, h.tape.trans q.tape, h.output.trans q.output, Nat.le_trans q.size h.size, fun k hk => (h.block k (Nat.lt_of_lt_of_le hk q.size) (by omega)).trans (q.block k hk)⟩
def NwT (w0 : World) (v : Value) (zs : List Int) (e : Ending) (w' : World) : Prop := ∃ B, e = .returned (.pointer (some ⟨B, 0, none⟩)) ∧ w0.heap.size ≤ B ∧ TpB w' B v zs ∧ Qw w0 w'
theorem newX {v : Value} {zs : List Int} (w0 w : World) (h : IntsB w0.heap.size w0 v zs) (q : Qw w0 w) : Calls Tryd.prog 14 #[v] w (NwT w0 v zs) := (newF v zs w (h.then q)).mono (by
  rintro e w' ⟨rfl, tp, q2⟩
  exact ⟨_, rfl, q.size, ⟨0, tp⟩, Qw.trans q q2⟩)
theorem NwT.open_ {w0 : World} {v : Value} {zs : List Int} {e : Ending} {w' : World} (h : NwT w0 v zs e w') : ∃ B, e = .returned (.pointer (some ⟨B, 0, none⟩)) ∧ w0.heap.size ≤ B ∧ TpB w' B v zs ∧ Qw w0 w' := h
theorem BdY.open_ {w : World} {bs : List Sy.Bl} {s : Lb.St} {e : Ending} {w' : World} (h : BdY w bs s e w') : ∃ ba bc pa pc ma mc, e = .returned (.tuple #[.agg #[.slice ba bs.length bc, .slice pa s.pg.length pc, .slice ma s.mate.length mc], .int .i64 (bs.length : Nat), .int .i64 0]) ∧ LibX w' (fun b => w.heap.size ≤ b) w.heap.size ba bc pa pc ma mc bs s ∧ Qw w w' := h
theorem LibX.any {w : World} {S : Nat → Prop} {B : Nat} {ba pa ma : Option Addr} {bc pc mc : Nat} {bs : List Sy.Bl} {s : Lb.St} (h : LibX w S B ba bc pa pc ma mc bs s) : LibX w (fun _ => True) 0 ba bc pa pc ma mc bs s := ⟨h.b.go fun b hb _ => ⟨rfl, trivial⟩, h.p.base (Nat.zero_le _), h.m.base (Nat.zero_le _)⟩
namespace Lb
end Lb
end Go.Proofs.YtlgdjbabbfdngaaDoor
set_option linter.unusedVariables false
set_option linter.unusedSimpArgs false
namespace Go.Proofs.YtlgdjbabbfdngaaDoor
open Go.RowKit
namespace Lb
open Sy
theorem build_run {l : List Bl} {s : St} (h : build l = .ok s) : s.op = [] ∧ run l st0 = .ok s ∧ l.length ≤ 2000 := by
  unfold build at h
  split at h
  · cases h
  · rename_i hl
    split at h
    · cases h
    · unfold fin at h
      split at h
      · cases h
      · rename_i s1 h1
        split at h
        · cases h
        · rename_i h2
          cases h
          exact ⟨h2, h1, by omega⟩
end Lb
end Go.Proofs.YtlgdjbabbfdngaaDoor
set_option linter.unusedVariables false
set_option linter.unusedSimpArgs false
namespace Go.Proofs.YtlgdjbabbfdngaaDoor
open Go.RowKit
theorem LbR.bad_ {w w' : World} {bs : List Sy.Bl} {e : Ending} {j : Nat} {er : Int} (hb : Lb.build bs = .bad j er) (h : LbR w bs e w') : e = .returned (.tuple #[.agg #[.slice none 0 0, .slice none 0 0, .slice none 0 0], .int .i64 (j : Nat), .int .i64 er]) ∧ Qw w w' := by
  obtain ⟨h1, q⟩ := h
  rw [hb] at h1
  exact ⟨h1, q⟩
theorem LbR.ok_ {w w' : World} {bs : List Sy.Bl} {e : Ending} {s : Lb.St} (hb : Lb.build bs = .ok s) (h : LbR w bs e w') : BdY w bs s e w' := by
  obtain ⟨h1, q⟩ := h
  rw [hb] at h1
  obtain ⟨v, rfl, ba, bc, pv, mv, rfl, k1, k2, k3⟩ := h1
  obtain ⟨pa, pc, rfl, _⟩ := k2.form
  obtain ⟨ma, mc, rfl, _⟩ := k3.form
  rw [List.length_map] at k2 k3
  refine ⟨ba, bc, pa, pc, ma, mc, ?_, ⟨k1, k2, k3⟩, q⟩
  simp only [List.length_map]
theorem libX_nil (w : World) : LibX w (fun _ => True) 0 none 0 none 0 none 0 [] ⟨0, [], [], [], []⟩ := ⟨BlksB.nil _ _, OwnG.nil .., OwnG.nil ..⟩
theorem run_len1 {bs : List Sy.Bl} {s : Lb.St} (hb : Lb.build bs = .ok s) : s.pg.length ≤ 5000 := by
  have h := Lb.build_run hb
  have := (Lb.run_len h.2.1).2
  have e2 : Lb.st0.pg.length = 1 := rfl
  omega
set_option maxRecDepth 100000 in
set_option maxHeartbeats 4000000 in
theorem builtW (bs : List Sy.Bl) (a : Option Addr) (cap : Nat) (S : Nat → Prop) (w : World) (hO : Ow w) (h : BlksB w S a cap bs) : Calls Tryd.prog 12 #[.slice a bs.length cap] w fun e w' => e = .returned (.bool true) ∧ Qw w w' := by
  have c1 := lb_build bs a cap S w hO h
  have c2 := fun w1 (q : Qw w w1) => rb_build bs a cap S w1 (h.kept q)
  have C1 := Lib.hid c1
  have C2 := Lib.hid c2
  clear c1 c2 h hO
  rcases hb : Lb.build bs with ⟨j, er⟩ | s
  · have HB := Lib.hid hb
    have CS := Lib.hid (fun w1 => rs_same (libX_nil w1) (libX_nil w1) (by decide))
    clear hb
    go_enter Tryd.func12, Tryd.ntmps12
    go_upto_region 2 with (go_at_call 17; ((with_reducible refine (C1.out.mono (fun _ _ h => LbR.bad_ HB.out h)).mono ?_); rintro e w1 ⟨rfl, q1⟩))
    refine code_of (fun wx => Bx wx w1.heap.size #[.slice none 0 0, .slice none 0 0, .slice none 0 0] 41 ∧ Qw w wx) ⟨Bx.new _ _ _, Qw.al q1 _⟩ ?_
    clear q1
    rintro w2 ⟨X2, Q2⟩
    generalize w1.heap.size = R1 at *
    go_upto_region 3 with (go_at_call 18; ((with_reducible refine ((C2.out _ Q2).mono (fun _ _ h => LbR.bad_ HB.out h)).mono ?_); rintro e w3 ⟨rfl, q3⟩))
    refine code_of (fun wx => Bx wx R1 #[.slice none 0 0, .slice none 0 0, .slice none 0 0] 41 ∧ Bx wx w3.heap.size #[.slice none 0 0, .slice none 0 0, .slice none 0 0] 41 ∧ Qw w wx) ⟨(X2.kept q3).alloc _, Bx.new _ _ _, Qw.al (Qw.trans Q2 q3) _⟩ ?_
    clear q3 X2 Q2
    rintro w4 ⟨X4, Y4, Q4⟩
    have x0 := X4.cell' 0 _ rfl
    have x1 := X4.cell' 1 _ rfl
    have x2 := X4.cell' 2 _ rfl
    have y0 := Y4.cell' 0 _ rfl
    have y1 := Y4.cell' 1 _ rfl
    have y2 := Y4.cell' 2 _ rfl
    have QQ := Lib.hid Q4
    have CS' : Hid (Calls Tryd.prog 19 #[.agg #[.slice none 0 0, .slice none 0 0, .slice none 0 0], .agg #[.slice none 0 0, .slice none 0 0, .slice none 0 0]] w4 fun e w' => e = .returned (.bool true) ∧ Qw w4 w') := Lib.hid (CS.out w4)
    have bj : ((j : Int) == (j : Int)) = true := by simp
    have be : (er == er) = true := by simp
    clear X4 Y4 Q4 CS C1 C2
    generalize w3.heap.size = R3 at *
    go_wp2_with (go_at_call 19; ((with_reducible refine CS'.out.mono ?_); rintro e w5 ⟨rfl, q5⟩; replace QQ := Lib.hid (Qw.trans QQ.out q5); clear q5))
    go_ret
    exact ⟨rfl, QQ.out⟩
  · have HB := Lib.hid hb
    have CS := Lib.hid (run_len1 hb)
    clear hb
    go_enter Tryd.func12, Tryd.ntmps12
    go_upto_region 2 with (go_at_call 17; ((with_reducible refine (C1.out.mono (fun _ _ h => LbR.ok_ HB.out h)).mono ?_); intro e w1 hy; obtain ⟨ba, bc, pa, pc, ma, mc, rfl, hx, q1⟩ := hy.open_))
    refine code_of (fun wx => Bx wx w1.heap.size #[.slice ba bs.length bc, .slice pa s.pg.length pc, .slice ma s.mate.length mc] 41 ∧ LibX wx (fun _ => True) 0 ba bc pa pc ma mc bs s ∧ Qw w wx) ⟨Bx.new _ _ _, hx.any.kept (Qw.al (Qw.refl _) _), Qw.al q1 _⟩ ?_
    clear q1 hx hy
    rintro w2 ⟨X2, L2, Q2⟩
    generalize w1.heap.size = R1 at *
    go_upto_region 3 with (go_at_call 18; ((with_reducible refine ((C2.out _ Q2).mono (fun _ _ h => LbR.ok_ HB.out h)).mono ?_); intro e w3 hy; obtain ⟨ba', bc', pa', pc', ma', mc', rfl, hx, q3⟩ := hy.open_))
    refine code_of (fun wx => Bx wx R1 #[.slice ba bs.length bc, .slice pa s.pg.length pc, .slice ma s.mate.length mc] 41 ∧ LibX wx (fun _ => True) 0 ba bc pa pc ma mc bs s ∧ Bx wx w3.heap.size #[.slice ba' bs.length bc', .slice pa' s.pg.length pc', .slice ma' s.mate.length mc'] 41 ∧ LibX wx (fun _ => True) 0 ba' bc' pa' pc' ma' mc' bs s ∧ Qw w wx) ⟨(X2.kept q3).alloc _, (L2.kept q3).kept (Qw.al (Qw.refl _) _), Bx.new _ _ _, hx.any.kept (Qw.al (Qw.refl _) _), Qw.al (Qw.trans Q2 q3) _⟩ ?_
    clear q3 X2 L2 Q2 hx hy
    rintro w4 ⟨X4, L4, Y4, M4, Q4⟩
    have x0 := X4.cell' 0 (.slice ba bs.length bc) rfl
    have x1 := X4.cell' 1 (.slice pa s.pg.length pc) rfl
    have x2 := X4.cell' 2 (.slice ma s.mate.length mc) rfl
    have y0 := Y4.cell' 0 (.slice ba' bs.length bc') rfl
    have y1 := Y4.cell' 1 (.slice pa' s.pg.length pc') rfl
    have y2 := Y4.cell' 2 (.slice ma' s.mate.length mc') rfl
    have QQ := Lib.hid Q4
    have CS' := Lib.hid (rs_same L4 M4 CS.out)
    have bj : ((bs.length : Int) == (bs.length : Int)) = true := by simp
    clear X4 Y4 Q4 CS C1 C2 L4 M4
    generalize w3.heap.size = R3 at *
    go_wp2_with (go_at_call 19; ((with_reducible refine CS'.out.mono ?_); rintro e w5 ⟨rfl, q5⟩; replace QQ := Lib.hid (Qw.trans QQ.out q5); clear q5))
    go_ret
    exact ⟨rfl, QQ.out⟩
end Go.Proofs.YtlgdjbabbfdngaaDoor
set_option linter.unusedVariables false
set_option linter.unusedSimpArgs false
namespace Go.Proofs.YtlgdjbabbfdngaaDoor
open Go.RowKit
open Go.ChangeShapes Go.WideShapes Go.ChangeAt
instance : Inhabited Sy.Ex := ⟨.mk 0 0 []⟩
end Go.Proofs.YtlgdjbabbfdngaaDoor
set_option linter.unusedVariables false
set_option linter.unusedSimpArgs false
namespace Go.Proofs.YtlgdjbabbfdngaaDoor
open Go.RowKit
theorem OwnK.g {B : Nat} {w : World} {v : Value} {ds : List Bi} (h : OwnK B w v ds) : OwnG B w 37 11 v (ds.map bicell) := ⟨fun x hx => by obtain ⟨d, _, rfl⟩ := List.mem_map.1 hx; rfl, by rw [List.length_map]; exact h⟩
theorem OwnG.k {B : Nat} {w : World} {v : Value} {ds : List Bi} (h : OwnG B w 37 11 v (ds.map bicell)) : OwnK B w v ds := by
  have := h.2
  rw [List.length_map] at this
  exact this
theorem OwnK.base {B C : Nat} {w : World} {v : Value} {ds : List Bi} (h : OwnK B w v ds) (hB : C ≤ B) : OwnK C w v ds := (h.g.base hB).k
def FwS (w0 : World) (e : Ending) (w' : World) : Prop := ∃ g cap ds, e = .returned (.slice (some ⟨g, 0, none⟩) ds.length cap) ∧ ds.length ≤ 40 ∧ 1 ≤ ds.length ∧ OwnK w0.heap.size w' (.slice (some ⟨g, 0, none⟩) ds.length cap) ds ∧ (∀ d ∈ ds, BiB w' (fun k => g ≠ k) d) ∧ Qw w0 w'
theorem FwS.open_ {w0 : World} {e : Ending} {w' : World} (h : FwS w0 e w') : ∃ g cap ds, e = .returned (.slice (some ⟨g, 0, none⟩) ds.length cap) ∧ ds.length ≤ 40 ∧ 1 ≤ ds.length ∧ OwnK w0.heap.size w' (.slice (some ⟨g, 0, none⟩) ds.length cap) ds ∧ (∀ d ∈ ds, BiB w' (fun k => g ≠ k) d) ∧ Qw w0 w' := h
theorem flowS {B : Nat} {v : Value} {zs : List Int} (w0 w : World) (hB : w0.heap.size ≤ B) (hT : TpB w B v zs) (q : Qw w0 w) : Calls Tryd.prog 15 #[.pointer (some ⟨B, 0, none⟩)] w (FwS w0) := (flowK w hT).mono (by
  intro e w' h
  obtain ⟨a, cap, ds, lab, rfl, h1, h2, h3, ⟨s, h4⟩, h5, h6, h7⟩ := h
  have n1 : 1 ≤ ds.length := by
    rcases Nat.lt_or_ge 0 ds.length with k | k
    · exact k
    · exfalso
      have e0 : ds = [] := List.eq_nil_of_length_eq_zero (by omega)
      subst e0
      have hr := h4.run
      have es : s = Lb.st0 := by injection hr with hr; exact hr.symm
      have := h4.nm
      rw [es] at this
      have := congrArg List.length this
      simp [Lb.st0, Lb.nums] at this
  obtain ⟨a', cap', e', _, _, hg⟩ := h2.g.form
  obtain ⟨g, rfl, _, _⟩ := hg (fun e => by
    have h0 : ds = [] := by simpa using e
    rw [h0] at n1
    simp at n1)
  obtain ⟨rfl, _⟩ : a = some ⟨g, 0, none⟩ ∧ True := by simp at e'; exact ⟨e'.1, trivial⟩
  exact ⟨g, cap, ds, rfl, h1, n1, h2.base q.size, fun d hd => (h3 d hd).go fun b hb _ => ⟨rfl, fun e => hb.2 (by rw [← e]; rfl)⟩, Qw.px q h7 hB⟩)
theorem bicells_len (ds : List Bi) : (bicells ds).length = ds.length * 11 := by
  induction ds with
  | nil => rfl
  | cons d ds ih =>
    show (bicell d ++ bicells ds).length = _
    rw [List.length_append, ih, List.length_cons, Nat.succ_mul, show (bicell d).length = 11 from rfl]; omega
theorem bicells_part (all : List Bi) (o m : Nat) (hom : o + m ≤ all.length) (j : Nat) (u : Value) (h : (bicells ((all.drop o).take m))[j]? = some u) : (bicells all)[o * 11 + j]? = some u := by
  have hl : ((all.drop o).take m).length = m := by rw [List.length_take, List.length_drop]; omega
  have hj : j < m * 11 := by
    have := (List.getElem?_eq_some_iff.1 h).1
    rw [bicells_len, hl] at this; exact this
  have e : j = j / 11 * 11 + j % 11 := by omega
  have hi : j / 11 < m := by omega
  have t1 := bicells_get ((all.drop o).take m) (j / 11) (by rw [hl]; exact hi) (j % 11) (by omega)
  have t2 := bicells_get all (o + j / 11) (by omega) (j % 11) (by omega)
  rw [← e] at t1
  have e2 : (o + j / 11) * 11 + j % 11 = o * 11 + j := by omega
  rw [e2] at t2
  rw [t2, ← h, t1]
  congr 1
  simp
theorem one_bi {ds : List Bi} : ∀ u ∈ bicells ds, u.oneCell' = true := by
  intro u hu
  obtain ⟨d, _, h⟩ := List.mem_flatMap.1 hu
  simp [bicell] at h
  rcases h with rfl | rfl | rfl | rfl | rfl | rfl | rfl | rfl | rfl | rfl | rfl <;> rfl
theorem part_append {B B0 : Nat} {w : World} {v v0 : Value} {ds all : List Bi} (hown : OwnK B w v ds) (hall : OwnK B0 w v0 all) {g : Nat} (hg : v0.ownBlock = some g) (a : Addr) (o m c : Nat) (hom : o + m ≤ all.length) (ha : m = 0 ∨ a = ⟨g, o * 11, none⟩) (hl : ds.length + m ≤ 1000) (hB : B ≤ w.heap.size) :
    ∃ v' w', (Builtin.append_ #[22, 22] 22 #[v, .slice (some a) m c]).run Tryd.prog w = .ok v' w' ∧ OwnK B w' v' (ds ++ (all.drop o).take m) ∧ w.grownBy w' v.ownBlock ∧ (∀ g, v'.ownBlock = some g → v.ownBlock = some g ∨ w.heap.size ≤ g) := by
  obtain ⟨i0, hi, hz0, hz1, hz2⟩ := info_parts info_block
  have hlm : ((all.drop o).take m).length = m := by rw [List.length_take, List.length_drop]; omega
  obtain ⟨v', w', hr, h2, h3, h4⟩ := run_append_near (P := Tryd.prog) w B 22 22 37 i0 _ 11 136 Tryd.underlying22 hi hz0 hz1 hz2 rfl (by decide) v ds.length (bicells ds) hown a m c (bicells ((all.drop o).take m)) (by rw [bicells_len, hlm]) (by
    intro j u hj
    rcases ha with rfl | rfl
    · rw [List.take_zero] at hj; simp [bicells] at hj
    · have := World.ownsRow.cells hall hg (o * 11 + j) u (bicells_part all o m hom j u hj)
      rw [Addr.add_mid, Nat.zero_add] at this
      rw [Addr.add_mid]
      exact this) one_bi (by unfold maxLen; omega) (by omega) hB
  refine ⟨v', w', hr, ?_, h3, h4⟩
  unfold OwnK
  rw [List.length_append, hlm, show bicells (ds ++ (all.drop o).take m) = bicells ds ++ bicells ((all.drop o).take m) by simp [bicells]]
  exact h2
theorem OwnK.zero {B : Nat} {w : World} {g : Nat} (X : Bx w g #[] 37) (hB : B ≤ g) : OwnK B w (.slice (some ⟨g, 0, none⟩) 0 0) [] := ⟨by rfl, .inr ⟨g, 0, #[], rfl, hB, X, by simp, by decide, by simp, by simp [bicells]⟩⟩
theorem OwnK.any {B : Nat} {w : World} {v : Value} {ds : List Bi} {S : Nat → Prop} (h : OwnK B w v ds) (hk : ∀ d ∈ ds, BiB w S d) : ∃ a cap, v = .slice a (bis ds).length cap ∧ BlksB w (fun _ => True) a cap (bis ds) := by
  obtain ⟨a, cap, e, hb⟩ := h.blocks (S := fun _ => True) (fun _ _ => trivial) (fun d hd => (hk d hd).go fun b _ _ => ⟨rfl, trivial⟩)
  exact ⟨a, cap, by rw [e]; congr 1; exact (List.length_map _).symm, hb⟩
theorem OwnK.setC {B : Nat} {w : World} {g cap : Nat} {ds : List Bi} (h : OwnK B w (.slice (some ⟨g, 0, none⟩) ds.length cap) ds) {k : Nat} (hk : k < ds.length) {j : Nat} (hj : j < 11) (u : Value) (d' : Bi) (hd : bicell d' = (bicell ds[k]).set j u) : OwnK B (w.setCell ⟨g, k * 11 + j, none⟩ u) (.slice (some ⟨g, 0, none⟩) ds.length cap) (ds.set k d') := by
  have := h.g.set (g := g) rfl (i := k) (by simpa using hk) hj u
  rw [List.getElem_map, ← hd, ← List.map_set] at this
  exact this.k
theorem OwnK.atC {B : Nat} {w : World} {g cap : Nat} {ds : List Bi} (h : OwnK B w (.slice (some ⟨g, 0, none⟩) ds.length cap) ds) {k : Nat} (hk : k < ds.length) {j : Nat} {u : Value} (hu : (bicell ds[k])[j]? = some u) : w.cell? ⟨g, k * 11 + j, none⟩ = some u :=
  h.g.at (g := g) rfl (i := k) (by simpa using hk) (by rw [List.getElem_map]; exact hu)
end Go.Proofs.YtlgdjbabbfdngaaDoor

