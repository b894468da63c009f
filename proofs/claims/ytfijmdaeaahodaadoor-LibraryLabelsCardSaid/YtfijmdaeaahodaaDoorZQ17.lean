import Derived.Test.YtfijmdaeaahodaaDoorZQ13
import Derived.Test.YtfijmdaeaahodaaDoorZQ16
import Derived.BigQuiet
set_option linter.unusedVariables false
set_option linter.unusedSimpArgs false
namespace Go.Proofs.YtfijmdaeaahodaaDoor
open Go.RowKit
theorem IntsB.then {w w' : World} {v : Value} {zs : List Int} (h : IntsB w.heap.size w v zs) (q : Qw w w') : IntsB w'.heap.size w' v zs := (h.kept q (Nat.le_refl _)).mono q.size
theorem Qw.px {P : Nat} {w0 w w' : World} (q : Qw w0 w) (h : Px P w w') (hP : w0.heap.size ≤ P) : Qw w0 w' :=
  ⟨h.os.trans q.os, h.tape.trans q.tape, h.output.trans q.output, Nat.le_trans q.size h.size, fun k hk => (h.block k (Nat.lt_of_lt_of_le hk q.size) (by omega)).trans (q.block k hk)⟩
def NwT (w0 : World) (v : Value) (zs : List Int) (e : Ending) (w' : World) : Prop := ∃ B, e = .returned (.pointer (some ⟨B, 0, none⟩)) ∧ w0.heap.size ≤ B ∧ TpB w' B v zs ∧ Qw w0 w'
theorem newX {v : Value} {zs : List Int} (w0 w : World) (h : IntsB w0.heap.size w0 v zs) (q : Qw w0 w) : Calls Tryd.prog 17 #[v] w (NwT w0 v zs) := (newF v zs w (h.then q)).mono (by
  rintro e w' ⟨rfl, tp, q2⟩
  exact ⟨_, rfl, q.size, ⟨0, tp⟩, Qw.trans q q2⟩)
theorem NwT.open_ {w0 : World} {v : Value} {zs : List Int} {e : Ending} {w' : World} (h : NwT w0 v zs e w') : ∃ B, e = .returned (.pointer (some ⟨B, 0, none⟩)) ∧ w0.heap.size ≤ B ∧ TpB w' B v zs ∧ Qw w0 w' := h
def FwQ (w0 : World) (e : Ending) (w' : World) : Prop := ∃ a cap l s, e = .returned (.slice a l.length cap) ∧ l.length ≤ 40 ∧ BlksB w' (fun k => w0.heap.size ≤ k) a cap l ∧ Lb.build l = .ok s ∧ (∃ lab, Lb.Fl 2 lab 0 l s) ∧ (∀ b ∈ l, Sy.Fwn b) ∧ Qw w0 w'
theorem FwQ.open_ {w0 : World} {e : Ending} {w' : World} (h : FwQ w0 e w') : ∃ a cap l s, e = .returned (.slice a l.length cap) ∧ l.length ≤ 40 ∧ BlksB w' (fun k => w0.heap.size ≤ k) a cap l ∧ Lb.build l = .ok s ∧ (∃ lab, Lb.Fl 2 lab 0 l s) ∧ (∀ b ∈ l, Sy.Fwn b) ∧ Qw w0 w' := h
theorem flowX {B : Nat} {v : Value} {zs : List Int} (w0 w : World) (hB : w0.heap.size ≤ B) (hT : TpB w B v zs) (q : Qw w0 w) : Calls Tryd.prog 18 #[.pointer (some ⟨B, 0, none⟩)] w (FwQ w0) := (flowW w hT).mono (by
  intro e w' h
  obtain ⟨a, cap, l, lab, rfl, h1, h2, ⟨s, h3⟩, h4, h5, h6⟩ := h
  have hs := q.size
  exact ⟨a, cap, l, s, rfl, h1, h2.go fun b hb _ => ⟨rfl, by omega⟩, h3.build (by omega), ⟨lab, h3⟩, h4, Qw.px q h6 hB⟩)
theorem BdY.open_ {w : World} {bs : List Sy.Bl} {s : Lb.St} {e : Ending} {w' : World} (h : BdY w bs s e w') : ∃ ba bc pa pc ma mc, e = .returned (.tuple #[.agg #[.slice ba bs.length bc, .slice pa s.pg.length pc, .slice ma s.mate.length mc], .int .i64 (bs.length : Nat), .int .i64 0]) ∧ LibX w' (fun b => w.heap.size ≤ b) w.heap.size ba bc pa pc ma mc bs s ∧ Qw w w' := h
structure Lw (w : World) (R : Nat) (ba : Option Addr) (bc : Nat) (pa : Option Addr) (pc : Nat) (ma : Option Addr) (mc : Nat) (bs : List Sy.Bl) (s : Lb.St) (wx : World) : Prop where
  X : Bx wx R #[.slice ba bs.length bc, .slice pa s.pg.length pc, .slice ma s.mate.length mc] 41
  L : LibX wx (fun _ => True) 0 ba bc pa pc ma mc bs s
  Q : Qw w wx
theorem LibX.any {w : World} {S : Nat → Prop} {B : Nat} {ba pa ma : Option Addr} {bc pc mc : Nat} {bs : List Sy.Bl} {s : Lb.St} (h : LibX w S B ba bc pa pc ma mc bs s) : LibX w (fun _ => True) 0 ba bc pa pc ma mc bs s := ⟨h.b.go fun b hb _ => ⟨rfl, trivial⟩, h.p.base (Nat.zero_le _), h.m.base (Nat.zero_le _)⟩
theorem Lw.kept {w wx w' : World} {R : Nat} {ba pa ma : Option Addr} {bc pc mc : Nat} {bs : List Sy.Bl} {s : Lb.St} (h : Lw w R ba bc pa pc ma mc bs s wx) (q : Qw wx w') : Lw w R ba bc pa pc ma mc bs s w' := ⟨h.X.kept q, h.L.kept q, Qw.trans h.Q q⟩
theorem Lw.cells {w wx : World} {R : Nat} {ba pa ma : Option Addr} {bc pc mc : Nat} {bs : List Sy.Bl} {s : Lb.St} (h : Lw w R ba bc pa pc ma mc bs s wx) : wx.cell? ⟨R, 0, none⟩ = some (.slice ba bs.length bc) ∧ wx.cell? ⟨R, 1, none⟩ = some (.slice pa s.pg.length pc) ∧ wx.cell? ⟨R, 2, none⟩ = some (.slice ma s.mate.length mc) ∧ R < wx.heap.size := ⟨h.X.cell' 0 _ rfl, h.X.cell' 1 _ rfl, h.X.cell' 2 _ rfl, h.X.lt⟩
namespace Lb
def atP (l : List Pg) (i : Nat) : Nat := if i = 0 then 0 else (l.getD (i - 1) ⟨0, 0, 0⟩).fin
theorem lay_last : ∀ {l : List Pg} {a z : Nat}, lay a l z → l ≠ [] → (l.getD (l.length - 1) ⟨0, 0, 0⟩).fin = z
  | [], _, _, _, h => absurd rfl h
  | [p], a, z, h, _ => h.2.2
  | p :: q :: l, a, z, h, _ => by
    have := lay_last h.2.2 (by simp)
    simpa using this
theorem fl_three {lab : Int} {l : List Sy.Bl} {s : St} (h : Fl 2 lab 0 l s) : s.pg.length = 3 ∧ (∀ i (hi : i < s.pg.length), s.pg[i].num = (i : Int)) ∧ lay 0 s.pg s.i ∧ s.i = l.length ∧ atP s.pg 3 = l.length := by
  have hn := h.nm
  have h3 : s.pg.length = 3 := by have := congrArg List.length hn; simpa [nums] using this
  have hi : s.i = l.length := by have := Mi.run Mi.start h.run; simpa using this.hi
  refine ⟨h3, fun i hi' => ?_, h.ly, hi, ?_⟩
  · have := congrArg (fun l => l[i]?) hn
    simp only [List.getElem?_map, List.getElem?_eq_getElem hi', Option.map_some, nums] at this
    rw [List.getElem?_range (by omega)] at this
    simpa using this
  · have := lay_last h.ly (by intro e; rw [e] at h3; simp at h3)
    rw [h3] at this
    unfold atP
    rw [if_neg (by decide)]
    rw [← hi]; exact this
end Lb
end Go.Proofs.YtfijmdaeaahodaaDoor
set_option linter.unusedVariables false
set_option linter.unusedSimpArgs false
namespace Go.Proofs.YtfijmdaeaahodaaDoor
open Go.RowKit
theorem LibX.lab {w : World} {S : Nat → Prop} {B : Nat} {ba pa ma : Option Addr} {bc pc mc : Nat} {bs : List Sy.Bl} {s : Lb.St} (h : LibX w S B ba bc pa pc ma mc bs s) {k : Nat} (hk : k < bs.length) : ∃ g off, ba = some ⟨g, off, none⟩ ∧ g < w.heap.size ∧ w.cell? ⟨g, off + k * 11 + 1, none⟩ = some (.int .i64 (Lb.lbL bs k)) := by
  rcases h.b.2.2 with h0 | ⟨g, off, f, rfl, hS, hc⟩
  · rw [h0] at hk; simp at hk
  · obtain ⟨h1, h2, h3⟩ := hc k hk
    have c := h3 1 (.int .i64 (f k).b.label) rfl
    rw [h1] at c
    refine ⟨g, off, rfl, cell_lt c, ?_⟩
    unfold Lb.lbL
    rw [List.getElem?_eq_getElem hk]
    exact c
theorem Lb.lbf_step (l : List Sy.Bl) (lab : Int) (i k : Nat) : Lb.lbf l lab i (k + 1) = if Lb.lbL l i = lab then some i else Lb.lbf l lab (i + 1) k := rfl
section
variable {w : World} {S : Nat → Prop} {B : Nat} {ba pa ma : Option Addr} {bc pc mc : Nat} {bs : List Sy.Bl} {s : Lb.St}
set_option maxRecDepth 100000 in
set_option maxHeartbeats 4000000 in
theorem lf_label (h : LibX w S B ba bc pa pc ma mc bs s) (h40 : bs.length ≤ 5000) (hl : s.pg.length ≤ 5000) (hly : Lb.lay 0 s.pg bs.length) (p : Nat) (hp : p < s.pg.length) (lab : Int) (hlab : 1 ≤ lab) : Calls Tryd.prog 25 #[.agg #[.slice ba bs.length bc, .slice pa s.pg.length pc, .slice ma s.mate.length mc], .int .i64 (p : Nat), .int .i64 lab] w fun e w' => e = .returned (fdV (Lb.lbf bs lab s.pg[p].first (s.pg[p].fin - s.pg[p].first))) ∧ Qw w w' := by
  have bd := Lb.lay_at hly p hp
  obtain ⟨g, rfl, gl, p0, p1, p2⟩ := h.prog hp
  have gn : g ≠ w.heap.size := by omega
  have l1 : ¬ lab < 1 := by omega
  have l2 : ¬ ((p : Nat) : Int) < 0 := by omega
  have l3 : ¬ ((s.pg.length : Nat) : Int) ≤ ((p : Nat) : Int) := by omega
  have l4 : ((p : Nat) : Int) < ((s.pg.length : Nat) : Int) := by omega
  have l5 : ¬ s.pg.length ≤ p := by omega
  have HL := Lib.hid h
  clear h hly
  generalize s.pg[p].first = a0 at *
  generalize s.pg[p].fin = a1 at *
  generalize s.pg[p].num = a2 at *
  generalize s.pg.length = pl at *
  obtain ⟨_, b1, b2⟩ := bd
  have mx : max (a0 : Int) 0 = a0 := by omega
  have mn : min (a1 : Int) (bs.length : Int) = a1 := by omega
  go_enter Tryd.func25, Tryd.ntmps25
  go_wp2
  go_quiet (fail)
  go_wp2
  go_loopw [10] (fun iv wr => ∃ k : Nat, a0 ≤ k ∧ k ≤ a1 ∧ iv = .int .i64 (k : Int) ∧ Hid (Lb.lbf bs lab a0 (a1 - a0) = Lb.lbf bs lab k (a1 - k)) ∧ Hid (Qw w wr) ∧ wr.cell? ⟨w.heap.size, 0, none⟩ = some (.slice ba bs.length bc)) (fun iv _ => a1 - (intOf iv).toNat)
  case atStart => exact ⟨a0, by omega, by omega, rfl, Lib.hid rfl, Lib.hid (by repeat (first | exact Qw.refl _ | refine Qw.al ?_ _ | refine Qw.dr ?_ | refine Qw.dn ?_ _)), by go_simp⟩
  case round =>
    obtain ⟨k, hk0, hk1, rfl, HE, HQ, x0⟩ := hrel
    have h63 : (k : Int) ≤ 9223372036854775806 := by omega
    by_cases hlt : k < a1
    · have hkb : k < bs.length := by omega
      obtain ⟨gb, off, rfl, gbl, cl⟩ := (HL.out.kept HQ.out).lab hkb
      have hlt' : (k : Int) < (a1 : Int) := by omega
      have hlt2 : (k : Int) < (bs.length : Int) := by omega
      have st := Lb.lbf_step bs lab k (a1 - (k + 1))
      rw [show a1 - (k + 1) + 1 = a1 - k by omega] at st
      by_cases e : Lb.lbL bs k = lab
      · have R : Hid (Lb.lbf bs lab a0 (a1 - a0) = some k) := Lib.hid (by rw [HE.out, st, if_pos e])
        rw [e] at cl
        clear st HE e
        go_wp2
        exact bodyPost_ret (v := .tuple #[.int .i64 (k : Nat), .bool true]) (by simp [results, Tryd.results25, go_sem]) rfl ⟨by rw [R.out]; rfl, HQ.out⟩
      · have R : Hid (Lb.lbf bs lab a0 (a1 - a0) = Lb.lbf bs lab (k + 1) (a1 - (k + 1))) := Lib.hid (by rw [HE.out, st, if_neg e])
        clear st HE
        generalize Lb.lbL bs k = j0 at cl e
        go_wp2
        go_roundw
        case measure => simp [intOf]; omega
        case rel => exact ⟨k + 1, by omega, by omega, by go_num, R, HQ, x0⟩
    · obtain rfl : k = a1 := by omega
      have hb : ¬ (k : Int) < (k : Int) := by omega
      have R : Hid (Lb.lbf bs lab a0 (k - a0) = none) := Lib.hid (by rw [HE.out, Nat.sub_self]; rfl)
      clear HE
      go_wp2
      exact bodyPost_ret (v := .tuple #[.int .i64 0, .bool false]) (by simp [results, Tryd.results25, go_sem]) rfl ⟨by rw [R.out]; rfl, HQ.out⟩
set_option maxRecDepth 100000 in
set_option maxHeartbeats 4000000 in
theorem lf_label0 (h : LibX w S B ba bc pa pc ma mc bs s) : Calls Tryd.prog 25 #[.agg #[.slice ba bs.length bc, .slice pa s.pg.length pc, .slice ma s.mate.length mc], .int .i64 0, .int .i64 0] w fun e w' => e = .returned (.tuple #[.int .i64 0, .bool false]) ∧ Qw w w' := by
  clear h
  go_enter Tryd.func25, Tryd.ntmps25
  go_wp2
  exact bodyPost_ret (v := .tuple #[.int .i64 0, .bool false]) (by simp [results, Tryd.results25, go_sem]) rfl ⟨rfl, Qw.al (Qw.refl w) _⟩
theorem Lb.lab_case {lab : Int} {l : List Sy.Bl} {s : Lb.St} (h : Lb.Fl 2 lab 0 l s) (c : Nat) (hc : c < l.length) (h0 : Lb.lbL l c ≠ 0) : ∃ j : Nat, j < 3 ∧ Lb.ofp s.pg (c : Int) 0 = some j ∧ ∀ (p : Nat) (hp : p < s.pg.length), Lb.lbf l (Lb.lbL l c) s.pg[p].first (s.pg[p].fin - s.pg[p].first) = if p = j then some c else none := by
  obtain ⟨h3, hn, hly, hsi, hat⟩ := Lb.fl_three h
  rw [hsi] at hly
  obtain ⟨j, hj, k1, k2⟩ := Lb.lay_some hly c (Nat.zero_le _) hc
  have ho := Lb.ofp_at hly 0 j hj c k1 k2
  rw [Nat.zero_add] at ho
  refine ⟨j, by omega, ho, fun p hp => ?_⟩
  have bd := Lb.lay_at hly p hp
  by_cases e : p = j
  · subst e
    rw [if_pos rfl]
    exact Lb.lbf_some h.inc hc h0 _ _ k1 (by omega)
  · rw [if_neg e]
    refine Lb.lbf_none h.inc hc h0 _ _ ?_ (by omega)
    by_cases q1 : s.pg[p].first ≤ c
    · by_cases q2 : c < s.pg[p].fin
      · have := Lb.ofp_at hly 0 p hp c q1 q2
        rw [ho, Nat.zero_add] at this
        exact absurd (Option.some.inj this).symm e
      · exact .inr (by omega)
    · exact .inl (by omega)
end
end Go.Proofs.YtfijmdaeaahodaaDoor

