/- LibraryMates of layer 9: loops are opened and closed in pairs.
   Conditions: the listed table lies as the program's own text lays it (the card ties it); every input. -/
import Derived.Test.YtlgdjbabbfdngaaDoorZM0
import Derived.Test.YtlgdjbabbfdngaaDoorZM1
import Derived.Test.YtlgdjbabbfdngaaDoorZM2
import Derived.Test.YtlgdjbabbfdngaaDoorZM17
import Derived.Test.YtlgdjbabbfdngaaDoorZM18
import Derived.BigQuiet
import Derived.Deep.Cut

set_option linter.unusedVariables false
set_option linter.unusedSimpArgs false
namespace Go.Proofs.YtlgdjbabbfdngaaDoor
open Go.ChangeShapes Go.WideShapes Go.ChangeAt Go.RowKit
theorem BdN.open_ {w : World} {j : Nat} {er : Int} {e : Ending} {w' : World} (h : BdN w j er e w') : e = .returned (.tuple #[.agg #[.slice none 0 0, .slice none 0 0, .slice none 0 0], .int .i64 (j : Nat), .int .i64 er]) ∧ Qw w w' := h
/-- The library in a variable, and the blocks. -/
structure Lm (w : World) (R : Nat) (ba : Option Addr) (bc : Nat) (pa : Option Addr) (pc : Nat) (ma : Option Addr) (mc : Nat) (l : List Sy.Bl) (s : Lb.St) (S : Nat → Prop) (a : Option Addr) (cap : Nat) (wx : World) : Prop where
  L : Lw w R ba bc pa pc ma mc l s wx
  b : BlksB wx S a cap l
section
variable {w wx w' : World} {R : Nat} {ba pa ma a : Option Addr} {bc pc mc cap : Nat} {l : List Sy.Bl} {s : Lb.St} {S : Nat → Prop}
theorem Lm.kept (h : Lm w R ba bc pa pc ma mc l s S a cap wx) (q : Qw wx w') : Lm w R ba bc pa pc ma mc l s S a cap w' := ⟨h.L.kept q, h.b.kept q⟩
theorem Lm.blk (h : Lm w R ba bc pa pc ma mc l s S a cap wx) {k : Nat} (hk : k < l.length) : ∃ g off, a = some ⟨g, off, none⟩ ∧ g < wx.heap.size ∧ wx.cell? ⟨g, off + k * 11, none⟩ = some (.int .i64 (Lb.kdL l k)) ∧ wx.cell? ⟨g, off + k * 11 + 10, none⟩ = some (.int .i64 (Lb.nnL l k)) := by
  rcases h.b.2.2 with h0 | ⟨g, off, f, rfl, hS, hc⟩
  · rw [h0] at hk; simp at hk
  · obtain ⟨h1, h2, h3⟩ := hc k hk
    have c := h3 0 (.int .i64 (f k).b.kind) rfl
    have c' := h3 10 (.int .i64 (f k).b.n) rfl
    rw [h1] at c c'
    refine ⟨g, off, rfl, cell_lt c, ?_, ?_⟩
    · unfold Lb.kdL; rw [List.getElem?_eq_getElem hk]; exact c
    · unfold Lb.nnL; rw [List.getElem?_eq_getElem hk]; exact c'
theorem Lm.mat (h : Lm w R ba bc pa pc ma mc l s S a cap wx) {k : Nat} (hk : k < s.mate.length) : ∃ g, ma = some ⟨g, 0, none⟩ ∧ g < wx.heap.size ∧ wx.cell? ⟨g, k, none⟩ = some (.int .i64 (Lb.mt s k)) := by
  obtain ⟨a', c', e', _, _, hc⟩ := h.L.L.m.int
  obtain ⟨g, e2, gl, c0⟩ := hc k hk
  obtain ⟨rfl, rfl⟩ : ma = a' ∧ mc = c' := by simpa using e'
  refine ⟨g, e2, gl, ?_⟩
  unfold Lb.mt
  rw [List.getD_eq_getElem?_getD, List.getElem?_eq_getElem hk]
  exact c0
end
set_option maxRecDepth 100000 in
set_option maxHeartbeats 4000000 in
theorem walk_libraryMates (v0 : Value) (z0 : List Int) (w : World) (hv0 : IntsB w.heap.size w v0 z0) (ht : Ow w) :
    Calls Tryd.prog 7 #[v0] w fun e w' => e = .returned (.bool true) ∧ Qw w w' := by
  have HV0 := Lib.hid hv0
  have HT := Lib.hid ht
  have QQ := Lib.hid (Qw.refl w)
  clear hv0 ht
  by_cases l0 : z0.length ≤ 120
  · have d0 : decide (z0.length ≤ 120) = true := decide_eq_true l0
    go_enter Tryd.func7, Tryd.ntmps7
    go_upto_if 21 with (first
      | (go_at_call 10; ((with_reducible refine (lightF _ _ _ _ HV0.out).mono ?_); rintro e w' ⟨rfl, rfl⟩))
      | (go_at_call 14; refine (newX _ _ (HV0.out.then QQ.out) (Qw.refl _)).mono ?_; intro e w2 hn; obtain ⟨B, rfl, hB, tp, q2⟩ := hn.open_; have TP := Lib.hid (And.intro hB (And.intro tp q2)); clear hn hB tp q2)
      | (go_at_call 13; refine (randomX _ _ TP.out.1 TP.out.2.1 TP.out.2.2).mono ?_; intro e w3 hf; obtain ⟨a, cap, l, rfl, h13, hbk, hdw, q3⟩ := hf.open_; have HB := Lib.hid hbk; replace QQ := Lib.hid (Qw.trans QQ.out q3); clear hf hbk hdw q3 TP)
      | (go_at_call 29; refine (nextA 3 (by decide) (by decide) _ TP.out.2.1).mono ?_; rintro e w4 ⟨n, rfl, n0, n1, tp, px⟩; have q3 := Qw.px TP.out.2.2 px TP.out.1; replace HB := Lib.hid (HB.out.kept q3); replace QQ := Lib.hid (Qw.trans QQ.out q3); clear tp px q3 TP))
    go_cut [3] (fun bv wx => ∃ (a : Option Addr) (cap : Nat) (l : List Sy.Bl) (S : Nat → Prop), bv = .slice a l.length cap ∧ l.length ≤ 40 ∧ Hid (BlksB wx S a cap l) ∧ Hid (Qw w wx))
    case first =>
      by_cases hn : 0 < n
      · go_wp2_with (first
          | (go_at_call 14; refine (newX _ _ (HV0.out.then QQ.out) (Qw.refl _)).mono ?_; intro e w2 hn; obtain ⟨B, rfl, hB, tp, q2⟩ := hn.open_; have TP := Lib.hid (And.intro hB (And.intro tp q2)); clear hn hB tp q2)
          | (go_at_call 15; refine (flowX _ _ TP.out.1 TP.out.2.1 TP.out.2.2).mono ?_; intro e w5 hf; obtain ⟨a', cap', l', s, rfl, h40, hbk, hbd, hfl, hfw, q3⟩ := hf.open_; have HF := Lib.hid hbk; replace QQ := Lib.hid (Qw.trans QQ.out q3); clear hf hbk hbd hfl hfw q3 TP))
        go_meet
        exact ⟨a', cap', l', _, rfl, h40, HF, QQ⟩
      · go_wp2_with fail
        go_meet
        exact ⟨a, cap, l, _, rfl, by omega, HB, QQ⟩
    case rest =>
      obtain ⟨a, cap, l, S, rfl, h40, HB, QQ⟩ := hcut
      rcases hbl : Lb.build l with ⟨j, er⟩ | s
      · have hne := Lb.build_er hbl
        have BD := Lib.hid hbl
        clear hbl
        go_upto_region 7 with (go_at_call 17; refine (build_bad BD.out a cap _ _ (HT.out.kept QQ.out) HB.out).mono ?_; intro e w4 hb; obtain ⟨rfl, q4⟩ := hb.open_; replace QQ := Lib.hid (Qw.trans QQ.out q4); clear hb q4)
        refine code_of (fun wx => Bx wx w4.heap.size #[.slice none 0 0, .slice none 0 0, .slice none 0 0] 41 ∧ Qw w wx) ⟨Bx.new _ _ _, Qw.al QQ.out _⟩ ?_
        rintro wL ⟨hX, hQ⟩
        have XL := Lib.hid hX
        have QL := Lib.hid hQ
        have AW := Lib.hid (fun w1 (q : Qw w w1) => awake9 w1 (HT.out.kept q))
        clear hX hQ HB QQ BD
        generalize w4.heap.size = R at *
        have eb : (er == 0) = false := beq_eq_false_iff_ne.2 hne
        go_wp2_with (go_at_call 11; ((with_reducible refine (AW.out _ QL.out).mono ?_); rintro e w' ⟨rfl, q⟩; replace QL := Lib.hid (Qw.trans QL.out q); replace XL := Lib.hid (XL.out.kept q); clear q; have x0 := XL.out.cell' 0 (.slice none 0 0) rfl; have x1 := XL.out.cell' 1 (.slice none 0 0) rfl; have x2 := XL.out.cell' 2 (.slice none 0 0) rfl))
        go_ret
        exact ⟨rfl, QL.out⟩
      · obtain ⟨hop, _, h2000⟩ := Lb.build_run hbl
        have hmi := Lb.build_mi hbl
        have BD := Lib.hid hbl
        have MI := Lib.hid hmi
        have OP := Lib.hid hop
        clear hbl hop hmi
        go_upto_region 7 with (go_at_call 17; refine (build_ok BD.out a cap _ _ (HT.out.kept QQ.out) HB.out).mono ?_; intro e w4 hb; obtain ⟨ba, bc, pa, pc, ma, mc, rfl, hx, q4⟩ := hb.open_; have HX := Lib.hid hx.any; replace HB := Lib.hid (HB.out.kept q4); replace QQ := Lib.hid (Qw.trans QQ.out q4); clear hb hx q4)
        refine code_of (fun wx => Lm w w4.heap.size ba bc pa pc ma mc l s S a cap wx) ⟨⟨Bx.new _ _ _, HX.out.kept (Qw.al (Qw.refl _) _), Qw.al QQ.out _⟩, HB.out.kept (Qw.al (Qw.refl _) _)⟩ ?_
        intro wL hL
        clear HX QQ HB BD
        generalize w4.heap.size = R at *
        have HL := Lib.hid hL
        have AW := Lib.hid (fun w1 (q : Qw w w1) => awake9 w1 (HT.out.kept q))
        have hml := MI.out.hm
        have ce := fun wx (h : Lm w R ba bc pa pc ma mc l s S a cap wx) => h.L.cells
        have sa := fun w1 (h : Lm w R ba bc pa pc ma mc l s S a cap w1) => sa_all l ba a bc cap _ S w1 h.L.L.b h.b
        simp only [hml] at ce
        have HML := Lib.hid hml
        have CE := Lib.hid ce
        have SA := Lib.hid sa
        obtain ⟨c0, c1, c2, cR⟩ := CE.out _ hL
        clear ce sa hL hml
        go_wp2_with (first
          | (go_at_call 11; ((with_reducible refine (AW.out _ HL.out.L.Q).mono ?_); rintro e w' ⟨rfl, q⟩; replace HL := Lib.hid (HL.out.kept q); clear q; obtain ⟨d0', d1', d2', dR'⟩ := CE.out _ HL.out))
          | (go_at_call 30; ((with_reducible refine (SA.out _ HL.out).mono ?_); rintro e w'' ⟨rfl, q⟩; replace HL := Lib.hid (HL.out.kept q); clear q)))
        clear c0 c1 c2 cR d0' d1' d2' dR'
        go_loopw [7] (fun iv wr => ∃ i : Nat, i ≤ l.length ∧ iv = .int .i64 (i : Int) ∧ Hid (Lm w R ba bc pa pc ma mc l s S a cap wr)) (fun iv _ => l.length - (intOf iv).toNat)
        case atStart => exact ⟨0, by omega, rfl, HL⟩
        case round =>
          clear HL
          obtain ⟨i, hi, rfl, HL⟩ := hrel
          obtain ⟨c0, c1, c2, cR⟩ := CE.out _ HL.out
          have hRn : R ≠ wr.heap.size := by omega
          have h63 : (i : Int) ≤ 9223372036854775806 := by omega
          by_cases hlt : i < l.length
          · have hlt' : (i : Int) < (l.length : Int) := by omega
            obtain ⟨gb, off, rfl, gbl, ck, cn⟩ := HL.out.blk hlt
            obtain ⟨gm, rfl, gml, cm⟩ := HL.out.mat (by rw [HML.out]; exact hlt)
            rcases Lb.mates_at MI.out OP.out hlt with ⟨h45, m, hm, hmi, e1, e2, nn, kk, hw, hcx⟩ | ⟨h4, h5, e1⟩
            · obtain ⟨gb', off', eg, _, ckm, cnm⟩ := HL.out.blk hm
              obtain ⟨rfl, rfl⟩ : gb = gb' ∧ off = off' := by simpa using eg
              obtain ⟨gm', eg', _, cmm⟩ := HL.out.mat (by rw [HML.out]; exact hm)
              obtain rfl : gm = gm' := by simpa using eg'
              rw [e1] at cm
              rw [e2] at cmm
              rw [nn] at cnm
              have hm' : (m : Int) < (l.length : Int) := by omega
              have hm0 : (0 : Int) ≤ (m : Int) := by omega
              have hml' : ¬ (l.length : Int) ≤ (m : Int) := by omega
              generalize Lb.kdL l i = kd at *
              generalize Lb.kdL l m = km at *
              generalize Lb.nnL l i = nv at *
              have kb : (km == kd) = false := beq_eq_false_iff_ne.2 kk
              rcases h45 with rfl | rfl
              · have him : (i : Int) < (m : Int) := by have := hw.2 rfl; omega
                have dim : decide ((i : Int) < (m : Int)) = true := decide_eq_true him
                have HCX := Lib.hid hcx
                clear e1 e2 nn hcx
                have kc2 : ∀ q : Kept wr, q.v.cell? ⟨R, 2, none⟩ = some (.slice (some ⟨gm, 0, none⟩) l.length mc) := fun q => (CE.out _ (HL.out.kept q.h)).2.2.1
                have kx1 : ∀ q : Kept wr, q.v.cell? ⟨gb, off + i * 11, none⟩ = some (.int .i64 4) := fun q => (q.h.cell (p := ⟨gb, off + i * 11, none⟩) gbl).trans ck
                have kx2 : ∀ q : Kept wr, q.v.cell? ⟨gb, off + i * 11 + 10, none⟩ = some (.int .i64 nv) := fun q => (q.h.cell (p := ⟨gb, off + i * 11 + 10, none⟩) gbl).trans cn
                have kx3 : ∀ q : Kept wr, q.v.cell? ⟨gb, off + m * 11, none⟩ = some (.int .i64 km) := fun q => (q.h.cell (p := ⟨gb, off + m * 11, none⟩) gbl).trans ckm
                have kx4 : ∀ q : Kept wr, q.v.cell? ⟨gb, off + m * 11 + 10, none⟩ = some (.int .i64 nv) := fun q => (q.h.cell (p := ⟨gb, off + m * 11 + 10, none⟩) gbl).trans cnm
                have kx5 : ∀ q : Kept wr, q.v.cell? ⟨gm, m, none⟩ = some (.int .i64 (i : Int)) := fun q => (q.h.cell (p := ⟨gm, m, none⟩) gml).trans cmm
                go_wp2
                refine region_kept (by kernel_rfl) (by kernel_rfl) ?_
                repeat (go_big_quiet_step (fail))
                refine wpQuiet_nil ?_
                intro w2 q2
                replace HL := Lib.hid (HL.out.kept q2)
                clear kc2 kx1 kx2 kx3 kx4 kx5 q2
                go_wp2
                go_loopw [10] (fun kv wq => ∃ k : Nat, i + 1 ≤ k ∧ (k ≤ m ∨ k = i + 1) ∧ kv = .int .i64 (k : Int) ∧ Hid (Lm w R ba bc pa pc (some ⟨gm, 0, none⟩) mc l s S (some ⟨gb, off, none⟩) cap wq)) (fun kv _ => m - (intOf kv).toNat)
                case atStart => exact ⟨i + 1, by omega, by omega, by go_num, HL⟩
                case round =>
                  clear HL c0 c1 c2 cR ck cn cm ckm cnm cmm
                  obtain ⟨k, hk1, hk2, rfl, HL⟩ := hrel
                  obtain ⟨c0, c1, c2, cR⟩ := CE.out _ HL.out
                  have k63 : (k : Int) ≤ 9223372036854775806 := by omega
                  by_cases hkm : k < m
                  · have hkm' : (k : Int) < (m : Int) := by omega
                    have hkl : (k : Int) < (l.length : Int) := by omega
                    obtain ⟨gm'', eg'', gkl, ckk⟩ := HL.out.mat (k := k) (by rw [HML.out]; omega)
                    obtain rfl : gm = gm'' := by simpa using eg''
                    have hcx := HCX.out k (by omega) hkm
                    generalize Lb.mt s k = mk at *
                    by_cases hmk : 0 ≤ mk
                    · obtain ⟨x1, x2⟩ := hcx hmk
                      have y1 : ¬ mk < (i : Int) := by omega
                      have y2 : ¬ (m : Int) < mk := by omega
                      go_wp2
                      go_roundw
                      case measure => simp [intOf]; omega
                      case rel => exact ⟨k + 1, by omega, by omega, by go_num, HL⟩
                    · go_wp2
                      go_roundw
                      case measure => simp [intOf]; omega
                      case rel => exact ⟨k + 1, by omega, by omega, by go_num, HL⟩
                  · have hkm' : ¬ (k : Int) < (m : Int) := by omega
                    go_wp2
                    go_roundw
                    case measure => simp [intOf]; omega
                    case rel => exact ⟨i + 1, by omega, by go_num, HL⟩
              · have him : ¬ (i : Int) < (m : Int) := fun g => absurd (hw.1 (by omega)) (by decide)
                have dim : decide ((i : Int) < (m : Int)) = false := decide_eq_false him
                have HCX := Lib.hid hcx
                clear e1 e2 nn hcx
                have kc2 : ∀ q : Kept wr, q.v.cell? ⟨R, 2, none⟩ = some (.slice (some ⟨gm, 0, none⟩) l.length mc) := fun q => (CE.out _ (HL.out.kept q.h)).2.2.1
                have kx1 : ∀ q : Kept wr, q.v.cell? ⟨gb, off + i * 11, none⟩ = some (.int .i64 5) := fun q => (q.h.cell (p := ⟨gb, off + i * 11, none⟩) gbl).trans ck
                have kx2 : ∀ q : Kept wr, q.v.cell? ⟨gb, off + i * 11 + 10, none⟩ = some (.int .i64 nv) := fun q => (q.h.cell (p := ⟨gb, off + i * 11 + 10, none⟩) gbl).trans cn
                have kx3 : ∀ q : Kept wr, q.v.cell? ⟨gb, off + m * 11, none⟩ = some (.int .i64 km) := fun q => (q.h.cell (p := ⟨gb, off + m * 11, none⟩) gbl).trans ckm
                have kx4 : ∀ q : Kept wr, q.v.cell? ⟨gb, off + m * 11 + 10, none⟩ = some (.int .i64 nv) := fun q => (q.h.cell (p := ⟨gb, off + m * 11 + 10, none⟩) gbl).trans cnm
                have kx5 : ∀ q : Kept wr, q.v.cell? ⟨gm, m, none⟩ = some (.int .i64 (i : Int)) := fun q => (q.h.cell (p := ⟨gm, m, none⟩) gml).trans cmm
                go_wp2
                refine region_kept (by kernel_rfl) (by kernel_rfl) ?_
                repeat (go_big_quiet_step (fail))
                refine wpQuiet_nil ?_
                intro w2 q2
                replace HL := Lib.hid (HL.out.kept q2)
                clear kc2 kx1 kx2 kx3 kx4 kx5 q2
                go_wp2
                go_loopw [10] (fun kv wq => ∃ k : Nat, i + 1 ≤ k ∧ (k ≤ m ∨ k = i + 1) ∧ kv = .int .i64 (k : Int) ∧ Hid (Lm w R ba bc pa pc (some ⟨gm, 0, none⟩) mc l s S (some ⟨gb, off, none⟩) cap wq)) (fun kv _ => m - (intOf kv).toNat)
                case atStart => exact ⟨i + 1, by omega, by omega, by go_num, HL⟩
                case round =>
                  clear HL c0 c1 c2 cR ck cn cm ckm cnm cmm
                  obtain ⟨k, hk1, hk2, rfl, HL⟩ := hrel
                  obtain ⟨c0, c1, c2, cR⟩ := CE.out _ HL.out
                  have k63 : (k : Int) ≤ 9223372036854775806 := by omega
                  by_cases hkm : k < m
                  · exfalso; omega
                  · have hkm' : ¬ (k : Int) < (m : Int) := by omega
                    go_wp2
                    go_roundw
                    case measure => simp [intOf]; omega
                    case rel => exact ⟨i + 1, by omega, by go_num, HL⟩
            · rw [e1] at cm
              clear e1 cn
              generalize Lb.kdL l i = kd at *
              have k4 : (kd == 4) = false := beq_eq_false_iff_ne.2 h4
              have k5 : (kd == 5) = false := beq_eq_false_iff_ne.2 h5
              go_wp2
              go_roundw
              case measure => simp [intOf]; omega
              case rel => exact ⟨i + 1, by omega, by go_num, HL⟩
          · obtain rfl : i = l.length := by omega
            have hb : ¬ (l.length : Int) < (l.length : Int) := by omega
            go_wp2
            go_ret
            exact ⟨rfl, HL.out.L.Q⟩
  · have d0 : decide (z0.length ≤ 120) = false := decide_eq_false l0
    have AW := Lib.hid (awake9 w HT.out)
    go_enter Tryd.func7, Tryd.ntmps7
    go_wp2_with (first
      | (go_at_call 10; ((with_reducible refine (lightF _ _ _ _ HV0.out).mono ?_); rintro e w' ⟨rfl, rfl⟩))
      | (go_at_call 11; ((with_reducible refine AW.out.mono ?_); rintro e w' ⟨rfl, q⟩)))
    go_ret
    exact ⟨rfl, q⟩
/-! ### the row and the card -/
theorem reads_libraryMates (os : Os) {H : Type} (enc : TypeId × Value → H) : ∃ places, DataW.whole enc Tryd.prog ((laidWorldO os).forCall (fun _ _ => 0) ⟨#[], #[.slice none 0 0], []⟩).memory Tryd.f7.params.toList Rows.libraryMatesSpec.vars false #[(.slice none 0 0 : Value)].toList 8 = some ([.nil], [], places) :=
  ⟨[], by kernel_rfl⟩
set_option maxRecDepth 100000 in
theorem lifted_libraryMates (os : Os) (started : os.Started) (H : Type) (enc : TypeId × Value → H) (F : Stop.Interp) :
    ReturnsInHanded {} Tryd.checked os 7 .any ((OpenSpec.ofChange Rows.libraryMatesSpec).preRow enc Tryd.prog Tryd.f7 Rows.libraryMatesRow.domain false Rows.libraryMatesRow.laid) (((OpenSpec.ofChange Rows.libraryMatesSpec).at F).post enc Tryd.prog Tryd.f7 false true false false) := by
  obtain ⟨places, hx⟩ := reads_libraryMates os enc
  refine returnsInHanded_of_row (C := Tryd.checked) (s := OpenSpec.ofChange Rows.libraryMatesSpec) ownO started (by kernel_rfl) Tryd.func7
    (witness_row_at (enc := enc) (C := Tryd.checked) false (laidWorldO os) #[.slice none 0 0] rfl (by kernel_rfl) (by kernel_rfl) (by kernel_rfl)
      (OpenSpec.preRow_of_cond 8 hx (by kernel_rfl) (fun k hk => by cases hk) (by kernel_rfl) (laid_metO os _))) ?_
  intro W base args ds gs before hval0 hW _ _ _ hL _ _
  have ht : Ow W := tableO hL
  have hval : ∀ (j : Nat) t v, Tryd.f7.params[j]? = some t → args[j]? = some v → Value.okWide Tryd.prog W .any base t v := hval0
  have hW' := hW
  obtain ⟨p, q, hA0, hV, rfl, hfz, hnd⟩ := hW
  have hA : DataW.TrodAll enc Tryd.prog W 0 (fun _ => true) true Tryd.f7.params.toList args.toList ds p := hA0
  rw [Tryd.params7] at hA hval
  obtain ⟨v0, vs0, d0, ds0, p0, q0, hargs, rfl, rfl, h0, r0⟩ := trodAll_cons hA
  obtain ⟨rfl, rfl, rfl⟩ := trodAll_nil r0
  obtain rfl : args = #[v0] := by cases args; simp_all
  obtain ⟨rfl, rfl⟩ := trodVars_none hV
  obtain ⟨u0, hu0⟩ := in_ints (hval 0 23 v0 rfl rfl) h0
  clear hA0 hval0 hL
  simp only [List.append_nil] at hW'
  refine (walk_libraryMates v0 u0 W hu0 ht).mono fun e W' ⟨he, bel⟩ => ?_
  subst he
  exact ⟨_, rfl, _, _, _, [], _, [], hW', trodAll_mk1 (shut_bool Tryd.underlying4 _), (trodAll_cons_mk (out_ints h0 bel (fun x hx => hW'.lt x (by first | exact hx | simp [hx]))) trodAll_mk0), rfl, Below.frame bel _, fun h => by cases h⟩
theorem libraryMates_said : Rows.LibraryMatesSaid :=
  OpenClaim.holds_of_cond 7 Tryd.f7 rfl rfl rfl rfl rfl rfl rfl ⟨rfl, rfl, rfl, rfl, rfl⟩ rfl rfl rfl rfl rfl (by kernel_rfl) Tryd.func7 (by kernel_rfl)
    (of_decide_eq_true (by kernel_rfl)) (by unfold Func.isWrapper; first | (rw [if_pos (by decide +kernel)]; kernel_rfl) | (rw [if_neg (by decide +kernel)]; exact ⟨rfl, rfl⟩))
    (fun os started H enc _ F => by rw [OpenClaim.pre_eq_preRow]; exact lifted_libraryMates os started H enc F)
theorem plain_libraryMates (f : FuncId) (fn : Func) (hf : Tryd.pinned.checked.prog.funcNamed "cnc/cnclaw09.LibraryMates" = some f) (hfn : Tryd.pinned.checked.prog.funcs[f]? = some fn) :
    false = Tryd.pinned.checked.prog.looks [] ∧ ∀ (j : Nat) t, fn.params[j]? = some t → Tryd.pinned.checked.prog.wantsStandIn t = false := by
  obtain rfl : f = 7 := Option.some.inj ((show Tryd.prog.funcNamed "cnc/cnclaw09.LibraryMates" = some 7 by kernel_rfl).symm.trans hf) |>.symm
  obtain rfl : fn = Tryd.f7 := (Option.some.inj (Tryd.func7.symm.trans hfn)).symm
  refine ⟨by kernel_rfl, fun j t ht => ?_⟩
  rw [Tryd.params7] at ht
  obtain rfl : t = 23 := by simpa using Array.mem_of_getElem? ht
  exact (show Tryd.prog.wantsStandIn 23 = false by kernel_rfl)
/-- The statement. -/
theorem libraryMates_card : Rows.LibraryMatesCardSaid :=
  Claim7.holds_tied_plain_at .later [] _ _ _ _ libraryMates_said (fun _ h => by cases h) (by kernel_rfl) (fun _ h => by cases h) libraryMates_row_tie rfl ⟨rfl, rfl⟩ (by kernel_rfl) rfl plain_libraryMates (by kernel_rfl)
end Go.Proofs.YtlgdjbabbfdngaaDoor

