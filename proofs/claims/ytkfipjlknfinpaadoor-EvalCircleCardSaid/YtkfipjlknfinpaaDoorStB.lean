
/- An expression that is drawn from a tape. -/
import Derived.Test.YtkfipjlknfinpaaDoorStA
import Derived.Deep.Cut
import Derived.IntWalk
import Derived.Test.YtkfipjlknfinpaaDoorSvA
import Derived.Deep.RegionLaw
set_option linter.unusedVariables false
set_option linter.unusedSimpArgs false
namespace Go.Proofs.YtkfipjlknfinpaaDoor
open Go.RowKit

/-- What Expr leaves. -/
def ExA (B : Nat) (v : Value) (zs : List Int) (d : Nat) (w : World) (e : Ending) (w' : World) : Prop :=
  ∃ (x : Sy.Ex) (ka : Option Addr) (kc : Nat), e = .returned (.agg #[.int .i64 x.op, .int .i64 x.n, .slice ka x.ks.length kc]) ∧ Sy.okx x = true ∧ Sy.dpt x ≤ d ∧ KidsB w' (fun b => w.heap.size ≤ b) ka kc x.ks ∧ TpB w' B v zs ∧ Px B w w'

/-- Behind the stores of an expression into the block of the result. -/
theorem exaEnd {B : Nat} {v : Value} {zs : List Int} {d : Nat} {w w' : World} {fn : Func} {s : Nat} {act : Act} (hr : fn.results = #[.cell s 31]) (hs : act.tmps[s]?.getD undef = .pointer (some ⟨w.heap.size, 0, none⟩)) (hd : act.defers = [])
    {x : Sy.Ex} {ka : Option Addr} {kc : Nat} {o n : Int} {l : Nat} (xo : x.op = o) (xn : x.n = n) (xl : x.ks.length = l) (ok : Sy.okx x = true) (dp : Sy.dpt x ≤ d) (hB : B < w.heap.size)
    (R : Bx w' w.heap.size exZ 31) (K : KidsB w' (fun b => w.heap.size < b) ka kc x.ks) (T : TpB w' B v zs) (q : Px B w w') :
    bodyPost Tryd.prog fn (ExA B v zs d w) .ret act (((w'.setCell ⟨w.heap.size, 0, none⟩ (.int .i64 o)).setCell ⟨w.heap.size, 1, none⟩ (.int .i64 n)).setCell ⟨w.heap.size, 2, none⟩ (.slice ka l kc)) := by
  subst xo xn xl
  have n : ¬ w.heap.size < w.heap.size := Nat.lt_irrefl _
  refine bodyPost_ret (ret_ex hr hs (((R.set 0 _).set 1 _).set 2 _)) hd ⟨x, ka, kc, rfl, ok, dp, KidsB.mono (((K.set n _).set n _).set n _) (fun b hb => Nat.le_of_lt hb), ((T.other hB _ _).other hB _ _).other hB _ _, ((q.setNew (Nat.le_refl _) _).setNew (Nat.le_refl _) _).setNew (Nat.le_refl _) _⟩

/-- The same, where the block of the Kids was made behind the stores. -/
theorem exaEnd2 {B : Nat} {v : Value} {zs : List Int} {d : Nat} {w w' : World} {fn : Func} {s : Nat} {act : Act} (hr : fn.results = #[.cell s 31]) (hs : act.tmps[s]?.getD undef = .pointer (some ⟨w.heap.size, 0, none⟩)) (hd : act.defers = [])
    {x : Sy.Ex} {ka : Option Addr} {kc : Nat} {o n : Int} {l : Nat} (xo : x.op = o) (xn : x.n = n) (xl : x.ks.length = l) (ok : Sy.okx x = true) (dp : Sy.dpt x ≤ d) (hB : B < w.heap.size) (ob : Obj)
    (R : Bx w' w.heap.size exZ 31) (K : KidsB (w'.alloc ob) (fun b => w.heap.size < b) ka kc x.ks) (T : TpB w' B v zs) (q : Px B w w') :
    bodyPost Tryd.prog fn (ExA B v zs d w) .ret act ((((w'.setCell ⟨w.heap.size, 0, none⟩ (.int .i64 o)).setCell ⟨w.heap.size, 1, none⟩ (.int .i64 n)).setCell ⟨w.heap.size, 2, none⟩ (.slice ka l kc)).alloc ob) := by
  have k := exaEnd hr hs hd xo xn xl ok dp hB (R.alloc ob) K (T.kept ((Below.refl _ _).alloc (Nat.le_refl _) ob)) (q.alloc ob)
  have hl := R.lt
  rw [World.setCell_alloc_past _ _ _ _ hl, World.setCell_alloc_past _ _ _ _ (by simpa [World.setCell] using hl), World.setCell_alloc_past _ _ _ _ (by simpa [World.setCell] using hl)] at k
  exact k

/-- A literal list of numbers in memory. -/
theorem lit_cell {w : World} {b : Nat} {cs : Array Value} {t : TypeId} (X : Bx w b cs t) (r : Int) (l : List Int) (hc : cs.toList = l.map (fun o => Value.int .i64 o)) (h0 : 0 ≤ r) (h1 : r < l.length) : ∃ o, w.cell? ⟨b, r.toNat, none⟩ = some (.int .i64 o) ∧ o ∈ l := by
  have hr : r.toNat < l.length := by omega
  refine ⟨l[r.toNat], ?_, List.getElem_mem hr⟩
  rw [X.cell, ← Array.getElem?_toList, hc, List.getElem?_map, List.getElem?_eq_getElem hr]
  rfl
theorem lit_all {cs : Array Value} (r : Int) (l : List Int) (hc : cs.toList = l.map (fun o => Value.int .i64 o)) (h0 : 0 ≤ r) (h1 : r < l.length) : ∃ o, o ∈ l ∧ ∀ (w : World) (b : Nat) (t : TypeId), Bx w b cs t → w.cell? ⟨b, r.toNat, none⟩ = some (.int .i64 o) := by
  have hr : r.toNat < l.length := by omega
  refine ⟨l[r.toNat], List.getElem_mem hr, fun w b t X => ?_⟩
  rw [X.cell, ← Array.getElem?_toList, hc, List.getElem?_map, List.getElem?_eq_getElem hr]
  rfl
theorem Bx.kept2 {P : Nat} {w w1 w' : World} {b : Nat} {cs : Array Value} {t : TypeId} (h : Bx w b cs t) (q1 : Qw w w1) (q : Px P w1 w') (hb : b ≠ P) : Bx w' b cs t := (h.kept q1).px q hb
def opsU : List Int := [2, 8, 9, 10, 12, 13, 14, 15, 16]
def opsB : List Int := [3, 4, 5, 6, 7, 11, 17, 18, 19, 20, 21, 22, 23, 24, 25, 3, 4, 5]
theorem opsU_ok {o : Int} (h : o ∈ opsU) : (0 ≤ o ∧ o ≤ 25) ∧ Sy.kds o.toNat = 1 := by
  have : ∀ o ∈ opsU, (0 ≤ o ∧ o ≤ 25) ∧ Sy.kds o.toNat = 1 := by decide
  exact this o h
theorem opsB_ok {o : Int} (h : o ∈ opsB) : (0 ≤ o ∧ o ≤ 25) ∧ Sy.kds o.toNat = 2 := by
  have : ∀ o ∈ opsB, (0 ≤ o ∧ o ≤ 25) ∧ Sy.kds o.toNat = 2 := by decide
  exact this o h

set_option maxRecDepth 100000 in
set_option maxHeartbeats 4000000 in
theorem exprA {B : Nat} {v : Value} {zs : List Int} (d : Nat) : ∀ w, 1 ≤ d → d ≤ 6 → TpB w B v zs → Calls Tryd.prog 12 #[.pointer (some ⟨B, 0, none⟩), .int .i64 (d : Int)] w (ExA B v zs d w) := by
  induction d with
  | zero => intro w h; omega
  | succ d ih =>
    intro w _ hd6 hT
    have hB := hT.lt
    have k1 : ((d + 1 : Nat) : Int) = (d : Int) + 1 := by omega
    rw [k1]
    have c := fun n n1 n2 w h => nextA (B := B) (v := v) (zs := zs) n n1 n2 w h
    have cn := fun w h => numberA (B := B) (v := v) (zs := zs) w h
    have cv := fun w h => variableA (B := B) (v := v) (zs := zs) w h
    have TP := Lib.hid hT
    have C := Lib.hid c
    have CN := Lib.hid cn
    have CV := Lib.hid cv
    have IH := Lib.hid ih
    clear hT c cn cv ih k1
    have R : Hid (Bx (w.alloc (.cells exZ 31)) w.heap.size exZ 31) := Lib.hid (Bx.new w _ _)
    have q0 : Hid (Px B w w) := Lib.hid (Px.refl B w)
    go_enter Tryd.func12, Tryd.ntmps12
    go_upto_region 2 with (first | (go_at_call 30; ((with_reducible refine (C.out _ (by decide) (by decide) _ (TP.out.kept (by unfold Qw; repeat (first | exact Below.refl _ _ | refine Below.setCell ?_ (by first | (simp; done) | (simp; omega)) _ | refine Below.alloc ?_ (by first | (simp; done) | (simp; omega)) _ | refine bel_drewN ?_ _ | refine Below.drew ?_)))).mono ?_); rintro e w' ⟨r, rfl, r0, r1, tp, q⟩; replace TP := Lib.hid tp; replace R : Hid (Bx w' w.heap.size exZ 31) := Lib.hid (Bx.px (by repeat (first | exact R.out | refine Bx.alloc ?_ _ | refine Bx.drew ?_)) q (by omega)); have rl := R.out.lt; have s0 := R.out.free 0; have s1 := R.out.free 1; have s2 := R.out.free 2; have u0 := R.out.cell' 0 _ rfl; have u1 := R.out.cell' 1 _ rfl; have u2 := R.out.cell' 2 _ rfl; replace q0 : Hid (Px B w w') := Lib.hid (Px.trans (by repeat (first | exact q0.out | exact Px.of q0.out | exact Px.refl _ _ | refine Px.setP ?_ _ _ | refine Px.alloc ?_ _ | refine Px.drewN ?_ _ | refine Px.drew ?_ | refine Px.setNew ?_ (by first | (simp; done) | omega | (have := q0.out.size; first | omega | (simp; omega))) _)) q); clear tp q)))
    by_cases ha : d = 0 ∨ r < 3
    · have num : ∀ m : Int, 0 ≤ m → m < 1000000000000000 → Sy.okx (Sy.num m) = true ∧ Sy.dpt (Sy.num m) ≤ d + 1 := fun m h0 h1 => ⟨Sy.okx_num' h0 h1, by rw [Sy.dpt_num]; omega⟩
      have NUM := Lib.hid num
      clear num IH
      by_cases hd : d = 0
      · subst hd
        go_wp2_with (go_at_call 29; ((with_reducible refine (CN.out _ TP.out).mono ?_); rintro e w' ⟨m, rfl, m0, m1, tp, q⟩; replace TP := Lib.hid tp; replace R : Hid (Bx w' w.heap.size exZ 31) := Lib.hid (Bx.px (by repeat (first | exact R.out | refine Bx.alloc ?_ _ | refine Bx.drew ?_)) q (by omega)); have rl := R.out.lt; have s0 := R.out.free 0; have s1 := R.out.free 1; have s2 := R.out.free 2; have u0 := R.out.cell' 0 _ rfl; have u1 := R.out.cell' 1 _ rfl; have u2 := R.out.cell' 2 _ rfl; replace q0 : Hid (Px B w w') := Lib.hid (Px.trans (by repeat (first | exact q0.out | exact Px.of q0.out | exact Px.refl _ _ | refine Px.setP ?_ _ _ | refine Px.alloc ?_ _ | refine Px.drewN ?_ _ | refine Px.drew ?_ | refine Px.setNew ?_ (by first | (simp; done) | omega | (have := q0.out.size; first | omega | (simp; omega))) _)) q); clear tp q))
        obtain ⟨ok, dp⟩ := NUM.out m m0 m1
        exact exaEnd (x := Sy.num m) Tryd.results12 rfl rfl rfl rfl rfl ok dp hB R.out (KidsB.nl none 0 (by decide)) TP.out q0.out
      · have hd2 : ¬ (d : Int) + 1 < 2 := by omega
        have hr3 : r < 3 := by omega
        go_wp2_with (go_at_call 29; ((with_reducible refine (CN.out _ TP.out).mono ?_); rintro e w' ⟨m, rfl, m0, m1, tp, q⟩; replace TP := Lib.hid tp; replace R : Hid (Bx w' w.heap.size exZ 31) := Lib.hid (Bx.px (by repeat (first | exact R.out | refine Bx.alloc ?_ _ | refine Bx.drew ?_)) q (by omega)); have rl := R.out.lt; have s0 := R.out.free 0; have s1 := R.out.free 1; have s2 := R.out.free 2; have u0 := R.out.cell' 0 _ rfl; have u1 := R.out.cell' 1 _ rfl; have u2 := R.out.cell' 2 _ rfl; replace q0 : Hid (Px B w w') := Lib.hid (Px.trans (by repeat (first | exact q0.out | exact Px.of q0.out | exact Px.refl _ _ | refine Px.setP ?_ _ _ | refine Px.alloc ?_ _ | refine Px.drewN ?_ _ | refine Px.drew ?_ | refine Px.setNew ?_ (by first | (simp; done) | omega | (have := q0.out.size; first | omega | (simp; omega))) _)) q); clear tp q))
        obtain ⟨ok, dp⟩ := NUM.out m m0 m1
        exact exaEnd (x := Sy.num m) Tryd.results12 rfl rfl rfl rfl rfl ok dp hB R.out (KidsB.nl none 0 (by decide)) TP.out q0.out
    · obtain ⟨hd0, hr3⟩ : ¬ d = 0 ∧ ¬ r < 3 := ⟨fun h => ha (.inl h), fun h => ha (.inr h)⟩
      have hd2 : ¬ (d : Int) + 1 < 2 := by omega
      clear ha CN
      by_cases h5 : r < 5
      · go_upto_region 8 with (first
          | (go_at_call 28; ((with_reducible refine (CV.out _ TP.out).mono ?_); rintro e w6 ⟨m, rfl, m0, m1, tp, q⟩; replace TP := Lib.hid tp; replace R : Hid (Bx w6 w.heap.size exZ 31) := Lib.hid (Bx.px (by repeat (first | exact R.out | refine Bx.alloc ?_ _ | refine Bx.drew ?_)) q (by omega)); replace q0 : Hid (Px B w w6) := Lib.hid (Px.trans (by repeat (first | exact q0.out | exact Px.of q0.out | exact Px.refl _ _ | refine Px.setP ?_ _ _ | refine Px.alloc ?_ _ | refine Px.drewN ?_ _ | refine Px.drew ?_ | refine Px.setNew ?_ (by first | (simp; done) | omega | (have := q0.out.size; first | omega | (simp; omega))) _)) q); have X : Hid (Bx (w6.alloc (.cells #[.int .i64 0, .int .i64 (m * 1000000), .slice none 0 0] 31)) w6.heap.size #[.int .i64 0, .int .i64 (m * 1000000), .slice none 0 0] 31) := Lib.hid (Bx.new _ _ _); have xB : B < w6.heap.size := TP.out.lt; have xr : w.heap.size < w6.heap.size := R.out.lt; clear tp q))
          | (go_at_call 30; ((with_reducible refine (C.out _ (by decide) (by decide) _ (TP.out.kept (by unfold Qw; repeat (first | exact Below.refl _ _ | refine Below.setCell ?_ (by first | (simp; done) | (simp; omega)) _ | refine Below.alloc ?_ (by first | (simp; done) | (simp; omega)) _ | refine bel_drewN ?_ _ | refine Below.drew ?_)))).mono ?_); rintro e w' ⟨r2, rfl, r20, r21, tp, q⟩; replace TP := Lib.hid tp; replace R : Hid (Bx w' w.heap.size exZ 31) := Lib.hid (Bx.px (by repeat (first | exact R.out | refine Bx.alloc ?_ _ | refine Bx.drew ?_)) q (by omega)); have rl := R.out.lt; have s0 := R.out.free 0; have s1 := R.out.free 1; have s2 := R.out.free 2; have u0 := R.out.cell' 0 _ rfl; have u1 := R.out.cell' 1 _ rfl; have u2 := R.out.cell' 2 _ rfl; replace X := Lib.hid (Bx.px (by repeat (first | exact X.out | refine Bx.alloc ?_ _ | refine Bx.drew ?_)) q (by omega)); replace q0 : Hid (Px B w w') := Lib.hid (Px.trans (by repeat (first | exact q0.out | exact Px.of q0.out | exact Px.refl _ _ | refine Px.setP ?_ _ _ | refine Px.alloc ?_ _ | refine Px.drewN ?_ _ | refine Px.drew ?_ | refine Px.setNew ?_ (by first | (simp; done) | omega | (have := q0.out.size; first | omega | (simp; omega))) _)) q); clear tp q; have xl := X.out.lt; have x0 := X.out.cell' 0 _ rfl; have x1 := X.out.cell' 1 _ rfl; have x2 := X.out.cell' 2 _ rfl; have t0 := X.out.free 0; have t1 := X.out.free 1; have t2 := X.out.free 2))
          | (go_at_call 12; ((with_reducible refine (IH.out _ (by omega) (by omega) TP.out).mono ?_); rintro e w' ⟨y, ka, kc, rfl, ok, dp, K, tp, q⟩; have KH : Hid (KidsB w' (fun b => w.heap.size < b ∧ b ≠ w6.heap.size) ka kc y.ks) := Lib.hid (K.mono fun b hb => ⟨by omega, by omega⟩); replace TP := Lib.hid tp; replace R : Hid (Bx w' w.heap.size exZ 31) := Lib.hid (Bx.px (by repeat (first | exact R.out | refine Bx.alloc ?_ _ | refine Bx.drew ?_)) q (by omega)); have rl := R.out.lt; have s0 := R.out.free 0; have s1 := R.out.free 1; have s2 := R.out.free 2; have u0 := R.out.cell' 0 _ rfl; have u1 := R.out.cell' 1 _ rfl; have u2 := R.out.cell' 2 _ rfl; replace X := Lib.hid (Bx.px (by repeat (first | exact X.out | refine Bx.alloc ?_ _ | refine Bx.drew ?_)) q (by omega)); have xl := X.out.lt; have x0 := X.out.cell' 0 _ rfl; have x1 := X.out.cell' 1 _ rfl; have x2 := X.out.cell' 2 _ rfl; have t0 := X.out.free 0; have t1 := X.out.free 1; have t2 := X.out.free 2; replace q0 : Hid (Px B w w') := Lib.hid (Px.trans (by repeat (first | exact q0.out | exact Px.of q0.out | exact Px.refl _ _ | refine Px.setP ?_ _ _ | refine Px.alloc ?_ _ | refine Px.drewN ?_ _ | refine Px.drew ?_ | refine Px.setNew ?_ (by first | (simp; done) | omega | (have := q0.out.size; first | omega | (simp; omega))) _)) q); clear tp q K)))
        · refine code_of (fun w2 => Hid (Bx w2 w.heap.size exZ 31) ∧ Hid (Bx w2 w6.heap.size #[.int .i64 y.op, .int .i64 y.n, .slice ka y.ks.length kc] 31) ∧ Hid (KidsB w2 (fun b => w.heap.size < b ∧ b ≠ w6.heap.size) ka kc y.ks) ∧ Hid (TpB w2 B v zs) ∧ Hid (Px B w w2))
            ⟨Lib.hid (((R.out.other (by show w.heap.size ≠ w6.heap.size; omega) _).other (by show w.heap.size ≠ w6.heap.size; omega) _).other (by show w.heap.size ≠ w6.heap.size; omega) _), Lib.hid (((X.out.set 0 _).set 1 _).set 2 _), Lib.hid (((KH.out.set (fun h => h.2 rfl) _).set (fun h => h.2 rfl) _).set (fun h => h.2 rfl) _), Lib.hid (((TP.out.other xB _ _).other xB _ _).other xB _ _), Lib.hid (((q0.out.setNew (by show w.heap.size ≤ w6.heap.size; omega) _).setNew (by show w.heap.size ≤ w6.heap.size; omega) _).setNew (by show w.heap.size ≤ w6.heap.size; omega) _)⟩ ?_
          clear R X KH TP q0 x0 x1 x2 u0 u1 u2 s0 s1 s2 t0 t1 t2 rl xl
          rintro w2 ⟨R, X, K, TP, q0⟩
          have rl := R.out.lt
          have s0 := R.out.free 0
          have s1 := R.out.free 1
          have s2 := R.out.free 2
          have u0 := R.out.cell' 0 _ rfl
          have u1 := R.out.cell' 1 _ rfl
          have u2 := R.out.cell' 2 _ rfl
          have xl := X.out.lt
          have x0 := X.out.cell' 0 _ rfl
          have x1 := X.out.cell' 1 _ rfl
          have x2 := X.out.cell' 2 _ rfl
          have t0 := X.out.free 0
          have t1 := X.out.free 1
          have t2 := X.out.free 2
          have xr2 := X.out.lt
          go_wp2_with fail
          exact exaEnd2 (d := d + 1) (x := Sy.un 1 y) Tryd.results12 rfl rfl rfl rfl rfl (Sy.okx_un' (by decide) rfl ok) (by rw [Sy.dpt_un]; omega) hB _ R.out (KidsB.one (x := y) (Bx.new _ _ _) (by show w.heap.size < w2.heap.size; omega) ((K.out.alloc _).mono fun b hb => hb.1)) TP.out q0.out
        · have K : Hid (KidsB w' (fun b => w.heap.size < b ∧ b ≠ w6.heap.size) none 0 (Sy.num (m * 1000000)).ks) := Lib.hid (KidsB.nl none 0 (by decide))
          have ok : Sy.okx (Sy.num (m * 1000000)) = true := Sy.okx_num' (by omega) (by omega)
          have dp : Sy.dpt (Sy.num (m * 1000000)) ≤ d := by rw [Sy.dpt_num]; omega
          have xr2 := X.out.lt
          go_wp2_with fail
          exact exaEnd2 (d := d + 1) (x := Sy.un 1 (Sy.num (m * 1000000))) Tryd.results12 rfl rfl rfl rfl rfl (Sy.okx_un' (by decide) rfl ok) (by rw [Sy.dpt_un]; omega) hB _ R.out (KidsB.one (x := (Sy.num (m * 1000000))) (Bx.new _ _ _) (by show w.heap.size < w'.heap.size; omega) ((K.out.alloc _).mono fun b hb => hb.1)) TP.out q0.out
      · by_cases h6 : r < 6
        · go_upto_region 11 with fail
          refine code_of (fun w2 => Hid (Bx w2 w.heap.size exZ 31) ∧ (∃ T, Hid (Bx w2 w'.heap.size #[.int .i64 2, .int .i64 8, .int .i64 9, .int .i64 10, .int .i64 12, .int .i64 13, .int .i64 14, .int .i64 15, .int .i64 16] T)) ∧ Hid (TpB w2 B v zs) ∧ Hid (Px B w w2)) ⟨Lib.hid (R.out.alloc _), ⟨_, Lib.hid (Bx.new _ _ _)⟩, Lib.hid (TP.out.kept ((Below.refl _ _).alloc (Nat.le_refl _) _)), Lib.hid (q0.out.alloc _)⟩ ?_
          have lB : B < w'.heap.size := TP.out.lt
          clear R TP q0 u0 u1 u2 s0 s1 s2 rl
          rintro w2 ⟨R, ⟨T, L⟩, TP, q0⟩
          have rl := R.out.lt
          have s0 := R.out.free 0
          have s1 := R.out.free 1
          have s2 := R.out.free 2
          have u0 := R.out.cell' 0 _ rfl
          have u1 := R.out.cell' 1 _ rfl
          have u2 := R.out.cell' 2 _ rfl
          have hwd : IntKind.i64.wrap (d : Int) = (d : Int) := IntWalk.i64_in _ (by omega)
          go_region_law ((try go_simp); go_wp2_with (first
            | (go_at_call 30; ((with_reducible refine (C.out _ (by decide) (by decide) _ (TP.out.kept (show Qw _ _ by repeat (first | exact Qw.refl _ | refine Qw.al ?_ _ | refine Qw.dr ?_ | refine Qw.dn ?_ _)))).mono ?_); rintro e w' ⟨r2, rfl, r20, r21, tp, q⟩; replace TP := Lib.hid tp; replace R : Hid (Bx w' w.heap.size exZ 31) := Lib.hid (Bx.kept2 R.out (show Qw _ _ by repeat (first | exact Qw.refl _ | refine Qw.al ?_ _ | refine Qw.dr ?_ | refine Qw.dn ?_ _)) q (by omega)); have rl := R.out.lt; have s0 := R.out.free 0; have s1 := R.out.free 1; have s2 := R.out.free 2; have u0 := R.out.cell' 0 _ rfl; have u1 := R.out.cell' 1 _ rfl; have u2 := R.out.cell' 2 _ rfl; replace L := Lib.hid (Bx.kept2 L.out (show Qw _ _ by repeat (first | exact Qw.refl _ | refine Qw.al ?_ _ | refine Qw.dr ?_ | refine Qw.dn ?_ _)) q (by omega)); obtain ⟨o, hm, hl⟩ := lit_all (cs := #[.int .i64 2, .int .i64 8, .int .i64 9, .int .i64 10, .int .i64 12, .int .i64 13, .int .i64 14, .int .i64 15, .int .i64 16]) r2 opsU rfl r20 r21; have ho := hl _ _ _ L.out; have HL := Lib.hid hl; replace q0 : Hid (Px B w w') := Lib.hid (Px.trans (Px.trans q0.out (Px.of (show Qw _ _ by repeat (first | exact Qw.refl _ | refine Qw.al ?_ _ | refine Qw.dr ?_ | refine Qw.dn ?_ _)))) q); clear tp q hl))
            | (go_at_call 12; ((with_reducible refine (IH.out _ (by omega) (by omega) (TP.out.kept (show Qw _ _ by repeat (first | exact Qw.refl _ | refine Qw.al ?_ _ | refine Qw.dr ?_ | refine Qw.dn ?_ _)))).mono ?_); rintro e w' ⟨y, ka, kc, rfl, ok, dp, K, tp, q⟩; have KH : Hid (KidsB w' (fun b => w.heap.size < b) ka kc y.ks) := Lib.hid (K.mono fun b hb => Nat.lt_of_lt_of_le R.out.lt hb); replace TP := Lib.hid tp; replace R : Hid (Bx w' w.heap.size exZ 31) := Lib.hid (Bx.kept2 R.out (show Qw _ _ by repeat (first | exact Qw.refl _ | refine Qw.al ?_ _ | refine Qw.dr ?_ | refine Qw.dn ?_ _)) q (by omega)); have rl := R.out.lt; have s0 := R.out.free 0; have s1 := R.out.free 1; have s2 := R.out.free 2; have u0 := R.out.cell' 0 _ rfl; have u1 := R.out.cell' 1 _ rfl; have u2 := R.out.cell' 2 _ rfl; replace L := Lib.hid (Bx.kept2 L.out (show Qw _ _ by repeat (first | exact Qw.refl _ | refine Qw.al ?_ _ | refine Qw.dr ?_ | refine Qw.dn ?_ _)) q (by omega)); have ho := HL.out _ _ _ L.out; have Ll := L.out.lt; have Ln := Nat.ne_of_lt Ll; replace q0 : Hid (Px B w w') := Lib.hid (Px.trans (Px.trans q0.out (Px.of (show Qw _ _ by repeat (first | exact Qw.refl _ | refine Qw.al ?_ _ | refine Qw.dr ?_ | refine Qw.dn ?_ _)))) q); clear tp q K))))
          all_goals go_wp2_with fail
          all_goals exact exaEnd2 (d := d + 1) (x := Sy.un o y) Tryd.results12 rfl rfl rfl rfl rfl (Sy.okx_un' (opsU_ok hm).1 (opsU_ok hm).2 ok) (by rw [Sy.dpt_un]; omega) hB _ R.out (KidsB.one (x := y) (Bx.new _ _ _) R.out.lt (KH.out.alloc _)) TP.out q0.out
        · go_upto_region 15 with (first
            | (go_at_call 30; ((with_reducible refine (C.out _ (by decide) (by decide) _ (TP.out.kept (show Qw _ _ by repeat (first | exact Qw.refl _ | refine Qw.al ?_ _ | refine Qw.dr ?_ | refine Qw.dn ?_ _)))).mono ?_); rintro e w5 ⟨r2, rfl, r20, r21, tp, q⟩; obtain ⟨o, hm, hl⟩ := lit_all (cs := #[.int .i64 3, .int .i64 4, .int .i64 5, .int .i64 6, .int .i64 7, .int .i64 11, .int .i64 17, .int .i64 18, .int .i64 19, .int .i64 20, .int .i64 21, .int .i64 22, .int .i64 23, .int .i64 24, .int .i64 25, .int .i64 3, .int .i64 4, .int .i64 5]) r2 opsB rfl r20 r21; have ho := hl _ _ _ (Bx.kept2 (Bx.new _ _ _) (show Qw _ _ by repeat (first | exact Qw.refl _ | refine Qw.al ?_ _ | refine Qw.dr ?_ | refine Qw.dn ?_ _)) q (Nat.ne_of_gt TP.out.lt)); replace TP := Lib.hid tp; replace R : Hid (Bx w5 w.heap.size exZ 31) := Lib.hid (Bx.kept2 R.out (show Qw _ _ by repeat (first | exact Qw.refl _ | refine Qw.al ?_ _ | refine Qw.dr ?_ | refine Qw.dn ?_ _)) q (by omega)); have rl := R.out.lt; have s0 := R.out.free 0; have s1 := R.out.free 1; have s2 := R.out.free 2; have u0 := R.out.cell' 0 _ rfl; have u1 := R.out.cell' 1 _ rfl; have u2 := R.out.cell' 2 _ rfl; replace q0 : Hid (Px B w w5) := Lib.hid (Px.trans (Px.trans q0.out (Px.of (show Qw _ _ by repeat (first | exact Qw.refl _ | refine Qw.al ?_ _ | refine Qw.dr ?_ | refine Qw.dn ?_ _)))) q); clear tp q hl))
            | (go_at_call 12; ((with_reducible refine (IH.out _ (by omega) (by omega) (TP.out.kept (show Qw _ _ by repeat (first | exact Qw.refl _ | refine Qw.al ?_ _ | refine Qw.dr ?_ | refine Qw.dn ?_ _)))).mono ?_); rintro e w6 ⟨y, ka, kc, rfl, ok, dp, K, tp, q⟩; have KH : Hid (KidsB w6 (fun b => w.heap.size < b) ka kc y.ks) := Lib.hid (K.mono fun b hb => Nat.lt_of_lt_of_le R.out.lt hb); replace TP := Lib.hid tp; replace R : Hid (Bx w6 w.heap.size exZ 31) := Lib.hid (Bx.kept2 R.out (show Qw _ _ by repeat (first | exact Qw.refl _ | refine Qw.al ?_ _ | refine Qw.dr ?_ | refine Qw.dn ?_ _)) q (by omega)); have rl := R.out.lt; have s0 := R.out.free 0; have s1 := R.out.free 1; have s2 := R.out.free 2; have u0 := R.out.cell' 0 _ rfl; have u1 := R.out.cell' 1 _ rfl; have u2 := R.out.cell' 2 _ rfl; replace q0 : Hid (Px B w w6) := Lib.hid (Px.trans (Px.trans q0.out (Px.of (show Qw _ _ by repeat (first | exact Qw.refl _ | refine Qw.al ?_ _ | refine Qw.dr ?_ | refine Qw.dn ?_ _)))) q); clear tp q K)))
          have lB : B < w6.heap.size := TP.out.lt
          refine code_of (fun w2 => Hid (Bx w2 w.heap.size exZ 31) ∧ Hid (Bx w2 w6.heap.size #[.int .i64 y.op, .int .i64 y.n, .slice ka y.ks.length kc] 31) ∧ Hid (KidsB w2 (fun b => w.heap.size < b) ka kc y.ks) ∧ Hid (TpB w2 B v zs) ∧ Hid (Px B w w2)) ⟨Lib.hid (R.out.alloc _), Lib.hid (Bx.new _ _ _), Lib.hid (KH.out.alloc _), Lib.hid (TP.out.kept ((Below.refl _ _).alloc (Nat.le_refl _) _)), Lib.hid (q0.out.alloc _)⟩ ?_
          clear R TP q0 KH u0 u1 u2 s0 s1 s2 rl
          rintro w2 ⟨R, X, KH, TP, q0⟩
          have rl := R.out.lt
          have s0 := R.out.free 0
          have s1 := R.out.free 1
          have s2 := R.out.free 2
          have u0 := R.out.cell' 0 _ rfl
          have u1 := R.out.cell' 1 _ rfl
          have u2 := R.out.cell' 2 _ rfl
          have xl := X.out.lt
          have x0 := X.out.cell' 0 _ rfl
          have x1 := X.out.cell' 1 _ rfl
          have x2 := X.out.cell' 2 _ rfl
          have hwd : IntKind.i64.wrap (d : Int) = (d : Int) := IntWalk.i64_in _ (by omega)
          go_region_law (go_simp; go_wp2_with (go_at_call 12; ((with_reducible refine (IH.out _ (by omega) (by omega) (TP.out.kept (show Qw _ _ by repeat (first | exact Qw.refl _ | refine Qw.al ?_ _ | refine Qw.dr ?_ | refine Qw.dn ?_ _)))).mono ?_); rintro e w' ⟨z, kb, kd, rfl, ok2, dp2, K, tp, q⟩; have KH2 : Hid (KidsB w' (fun b => w.heap.size < b) kb kd z.ks) := Lib.hid (K.mono fun b hb => Nat.lt_of_lt_of_le R.out.lt hb); replace KH : Hid (KidsB w' (fun b => w.heap.size < b) ka kc y.ks) := Lib.hid ((KH.out.kept (show Qw _ _ by repeat (first | exact Qw.refl _ | refine Qw.al ?_ _ | refine Qw.dr ?_ | refine Qw.dn ?_ _))).px (fun b hb => by omega) q); replace TP := Lib.hid tp; replace R : Hid (Bx w' w.heap.size exZ 31) := Lib.hid (Bx.kept2 R.out (show Qw _ _ by repeat (first | exact Qw.refl _ | refine Qw.al ?_ _ | refine Qw.dr ?_ | refine Qw.dn ?_ _)) q (by omega)); have rl := R.out.lt; have s0 := R.out.free 0; have s1 := R.out.free 1; have s2 := R.out.free 2; have u0 := R.out.cell' 0 _ rfl; have u1 := R.out.cell' 1 _ rfl; have u2 := R.out.cell' 2 _ rfl; replace X := Lib.hid (Bx.kept2 X.out (show Qw _ _ by repeat (first | exact Qw.refl _ | refine Qw.al ?_ _ | refine Qw.dr ?_ | refine Qw.dn ?_ _)) q (by omega)); have xl := X.out.lt; have x0 := X.out.cell' 0 _ rfl; have x1 := X.out.cell' 1 _ rfl; have x2 := X.out.cell' 2 _ rfl; replace q0 : Hid (Px B w w') := Lib.hid (Px.trans (Px.trans q0.out (Px.of (show Qw _ _ by repeat (first | exact Qw.refl _ | refine Qw.al ?_ _ | refine Qw.dr ?_ | refine Qw.dn ?_ _)))) q); clear tp q K)))
          all_goals go_wp2_with fail
          all_goals exact exaEnd2 (d := d + 1) (x := Sy.bin o y z) Tryd.results12 rfl rfl rfl rfl rfl (Sy.okx_bin' (opsB_ok hm).1 (opsB_ok hm).2 ok ok2) (by rw [Sy.dpt_bin]; omega) hB _ R.out (KidsB.two (x := y) (y := z) (Bx.new _ _ _) R.out.lt (KH.out.alloc _) (KH2.out.alloc _)) TP.out q0.out
end Go.Proofs.YtkfipjlknfinpaaDoor
