import Derived.Test.YtciglhecjkeogaaGreatDoorZTX1
import Derived.Test.YtciglhecjkeogaaGreatDoorZTX3
import Derived.Test.YtciglhecjkeogaaGreatDoorZTX9
import Derived.Test.YtciglhecjkeogaaGreatDoorZTX10
import Derived.ArgAppend
import Derived.OwnWalk
import Derived.OneCell
import Derived.IntWalk
import Derived.Deep.QuietTactic
import Derived.BigQuiet
import Derived.StillTailTactics
import Derived.WalkLawsBesides
import Derived.Outline
set_option linter.unusedVariables false
set_option linter.unusedSimpArgs false
namespace Go.Proofs.YtciglhecjkeogaaGreatDoor
open Go.RowKit
theorem ret_nb {a b : Int} {c d : Bool} (h : a = b) (g : c = d) : Ending.returned (.tuple #[.int .i64 a, .bool c]) = .returned (.tuple #[.int .i64 b, .bool d]) := by rw [h, g]
theorem run_field_z (a b c : Int) (w : World) : (Instr.field 113 (.agg #[.int .i64 a, .int .i64 b, .int .i64 c]) 2).run Tryz.prog w = .ok (.int .i64 c) w := by kernel_rfl
theorem an_no {x y : Int} (h : (x = 0 ∧ y = 0) ∨ x < -1099511627776 ∨ 1099511627776 < x ∨ y < -1099511627776 ∨ 1099511627776 < y) : Cm.angv x y = 0 ∧ Cm.aok x y = false := by
  have e := Cm.aok_f h
  exact ⟨by unfold Cm.angv; rw [e]; rfl, e⟩
set_option maxRecDepth 100000 in
set_option maxHeartbeats 1000000 in
theorem co_angle (x y : Int) (w : World) (ht : Tc w) :
    Calls Tryz.prog 121 #[.int .i64 x, .int .i64 y] w fun e w' => e = .returned (.tuple #[.int .i64 (Cm.angv x y), .bool (Cm.aok x y)]) ∧ Qw w w' := by
  have b1 := fun w => co_beyond x 1099511627776 (by decide) (by decide) w
  have b2 := fun w => co_beyond y 1099511627776 (by decide) (by decide) w
  have HT := Lib.hid ht
  have q0 := Qw.refl w
  clear ht
  by_cases h0 : x = 0 ∧ y = 0
  · obtain ⟨e1, e2⟩ := an_no (.inl h0)
    rw [e1, e2]
    obtain ⟨rfl, rfl⟩ := h0
    clear e1 e2 b1 b2
    go_enter Tryz.func121, Tryz.ntmps121
    go_wp2
    go_ret2
    exact ⟨rfl, q0⟩
  · have gd : ((x == 0) = false) ∨ ((x == 0) = true ∧ (y == 0) = false) := by
      by_cases c : x = 0
      · right; exact ⟨by rw [beq_iff_eq]; exact c, beq_eq_false_iff_ne.2 (fun e => h0 ⟨c, e⟩)⟩
      · left; exact beq_eq_false_iff_ne.2 c
    cases hx : bey x 1099511627776
    · cases hy : bey y 1099511627776
      · have xb : -1099511627776 ≤ x ∧ x ≤ 1099511627776 := by unfold bey at hx; simp at hx; omega
        have yb : -1099511627776 ≤ y ∧ y ≤ 1099511627776 := by unfold bey at hy; simp at hy; omega
        have ao := Cm.aok_t h0 xb.1 xb.2 yb.1 yb.2
        have av : Cm.angv x y = ((Cm.qn x y : Int) * 90000000 + Cm.rr x y) % 360000000 := by unfold Cm.angv; rw [ao]; rfl
        have nl := Cm.qn_le x y
        have inq := Cm.qn_in x y h0
        have bef := fun j hj => Cm.qn_before x y j hj
        have bb := fun j => Cm.bk_bd x y 1099511627776 xb.1 xb.2 yb.1 yb.2 j
        have er : Cm.rr x y = if (Cm.bk (Cm.qn x y) (x, y)).2 = 0 then 0 else rd (Cm.rz x y) 1000 := rfl
        have ez : Cm.rz x y = (Cm.vs ((Cm.bk (Cm.qn x y) (x, y)).1 * 1048576) ((Cm.bk (Cm.qn x y) (x, y)).2 * 1048576) 26).2.2 := rfl
        rw [av, ao]
        rw [hx] at b1
        rw [hy] at b2
        have B1 := Lib.hid b1
        have B2 := Lib.hid b2
        clear b1 b2 hx hy av ao h0 xb yb
        generalize Cm.rr x y = RR at *
        generalize Cm.rz x y = RZ at *
        generalize Cm.qn x y = n at *
        have INQ := Lib.hid inq
        have BEF := Lib.hid bef
        have BB := Lib.hid bb
        have ER := Lib.hid er
        have EZ := Lib.hid ez
        clear inq bef bb er ez
        rcases gd with g1 | ⟨g1, g2⟩
        all_goals
          go_enter Tryz.func121, Tryz.ntmps121
          go_wp2_with (first | (go_at_call 132; ((with_reducible refine (B1.out _).mono ?_); rintro e w' ⟨rfl, rfl⟩)) | (go_at_call 132; ((with_reducible refine (B2.out _).mono ?_); rintro e w' ⟨rfl, rfl⟩)))
          go_loop [0, 1, 6] (fun a b q => ∃ j : Nat, j ≤ n ∧ q = .int .i64 j ∧ a = .int .i64 (Cm.bk j (x, y)).1 ∧ b = .int .i64 (Cm.bk j (x, y)).2) (fun _ _ q => n - (intOf q).toNat)
          case atStart => exact ⟨0, by omega, rfl, rfl, rfl⟩
          case round =>
            obtain ⟨j, hj, rfl, rfl, rfl⟩ := hrel
            obtain ⟨x1, x2, y1, y2⟩ := BB.out j
            by_cases c : j < n
            · have s1 : (Cm.bk (j + 1) (x, y)).1 = (Cm.bk j (x, y)).2 := rfl
              have s2 : (Cm.bk (j + 1) (x, y)).2 = -(Cm.bk j (x, y)).1 := rfl
              have S1 := Lib.hid s1
              have S2 := Lib.hid s2
              have no := Cm.inQ_no (BEF.out j c)
              clear s1 s2
              generalize (Cm.bk j (x, y)).1 = X at *
              generalize (Cm.bk j (x, y)).2 = Y at *
              by_cases d : Y < -X
              · go_wp2
                go_round
                case rel => exact ⟨j + 1, by omega, by go_num, by rw [S1.out], by rw [S2.out]⟩
                case measure => simp [intOf]; omega
              · have d' : decide (Y < -X) = false := decide_eq_false d
                have d2 : decide (X ≤ Y) = true := decide_eq_true (by omega)
                go_wp2
                go_round
                case rel => exact ⟨j + 1, by omega, by go_num, by rw [S1.out], by rw [S2.out]⟩
                case measure => simp [intOf]; omega
            · obtain rfl : j = n := by omega
              obtain ⟨i1, i2⟩ := Cm.inQ_bd INQ.out
              generalize (Cm.bk j (x, y)).1 = X at *
              generalize (Cm.bk j (x, y)).2 = Y at *
              have d' : decide (Y < -X) = false := decide_eq_false (by omega)
              have d2 : decide (X ≤ Y) = false := decide_eq_false (by omega)
              by_cases hv : Y = 0
              · have r0 : RR = 0 := by rw [ER.out, if_pos hv]
                have hv' : (Y != 0) = false := by rw [hv]; rfl
                clear hv
                subst r0
                have c3 := fun w => co_rem ((j : Int) * 90000000) 360000000 (by omega) (by omega) (by decide) (by decide) w
                have C3 := Lib.hid c3
                clear c3
                go_wp2_with (go_at_call 79; ((with_reducible refine (C3.out _).mono ?_); rintro e w' ⟨rfl, rfl⟩))
                go_ret2
                exact ⟨ret_nb (by omega) rfl, q0⟩
              · have r0 : RR = rd RZ 1000 := by rw [ER.out, if_neg hv]
                have hv' : (Y != 0) = true := by rw [bne_iff_ne]; exact hv
                have zb := Cm.vs_bd (X * 1048576) (Y * 1048576) (by omega) (by omega) (by omega) (by omega) 26 (by decide)
                have c3 := fun w ht => co_toAxis (X * 1048576) (Y * 1048576) (by omega) (by omega) (by omega) (by omega) w ht
                rw [← EZ.out] at c3 zb
                have zb1 := zb.2.2.2.2.1
                have zb2 := zb.2.2.2.2.2
                have c4 := fun w => co_near RZ 1000 (by omega) (by omega) (by decide) (by decide) w
                rw [← r0] at c4
                have rb : -100000001 ≤ RR ∧ RR ≤ 100000001 := by unfold rd at r0; omega
                obtain ⟨rb1, rb2⟩ := rb
                have c5 := fun w => co_rem ((j : Int) * 90000000 + RR) 360000000 (by omega) (by omega) (by decide) (by decide) w
                have C3 := Lib.hid c3
                have C4 := Lib.hid c4
                have C5 := Lib.hid c5
                have kf := fun w a b c => run_field_z a b c w
                clear c3 c4 c5 hv r0 zb
                generalize (Cm.vs (X * 1048576) (Y * 1048576) 26).1 = V1 at *
                generalize (Cm.vs (X * 1048576) (Y * 1048576) 26).2.1 = V2 at *
                go_wp2_with (first | (go_at_call 134; ((with_reducible refine (C3.out _ HT.out).mono ?_); rintro e w' ⟨rfl, h⟩; replace q0 := Qw.trans q0 h; clear h)) | (go_at_call 133; ((with_reducible refine (C4.out _).mono ?_); rintro e w' ⟨rfl, rfl⟩)) | (go_at_call 79; ((with_reducible refine (C5.out _).mono ?_); rintro e w' ⟨rfl, rfl⟩)))
                go_ret2
                exact ⟨rfl, q0⟩
      · have far : y < -1099511627776 ∨ 1099511627776 < y := by unfold bey at hy; simpa using hy
        obtain ⟨e1, e2⟩ := an_no (x := x) (y := y) (by omega)
        rw [e1, e2]
        rw [hx] at b1
        rw [hy] at b2
        have B1 := Lib.hid b1
        have B2 := Lib.hid b2
        clear b1 b2 hx hy e1 e2 far h0
        rcases gd with g1 | ⟨g1, g2⟩
        all_goals
          go_enter Tryz.func121, Tryz.ntmps121
          go_wp2_with (first | (go_at_call 132; ((with_reducible refine (B1.out _).mono ?_); rintro e w' ⟨rfl, rfl⟩)) | (go_at_call 132; ((with_reducible refine (B2.out _).mono ?_); rintro e w' ⟨rfl, rfl⟩)))
          go_ret2
          exact ⟨rfl, q0⟩
    · have far : x < -1099511627776 ∨ 1099511627776 < x := by unfold bey at hx; simpa using hx
      obtain ⟨e1, e2⟩ := an_no (x := x) (y := y) (by omega)
      rw [e1, e2]
      rw [hx] at b1
      have B1 := Lib.hid b1
      clear b1 b2 hx e1 e2 far h0
      rcases gd with g1 | ⟨g1, g2⟩
      all_goals
        go_enter Tryz.func121, Tryz.ntmps121
        go_wp2_with (go_at_call 132; ((with_reducible refine (B1.out _).mono ?_); rintro e w' ⟨rfl, rfl⟩))
        go_ret2
        exact ⟨rfl, q0⟩
end Go.Proofs.YtciglhecjkeogaaGreatDoor
set_option linter.unusedVariables false
set_option linter.unusedSimpArgs false
namespace Go.Proofs.YtciglhecjkeogaaGreatDoor
open Go.RowKit
structure Ty (B L : Nat) (w w' : World) : Prop where
  os : w'.os = w.os
  tape : w'.tape = w.tape
  output : w'.output = w.output
  size : w.heap.size ≤ w'.heap.size
  block : ∀ k, k < w.heap.size → k ≠ B → k ≠ L → w'.heap[k]? = w.heap[k]?
theorem Ty.refl (B L : Nat) (w : World) : Ty B L w w := ⟨rfl, rfl, rfl, Nat.le_refl _, fun _ _ _ _ => rfl⟩
theorem Ty.of {B L : Nat} {w w' : World} (q : Qw w w') : Ty B L w w' := ⟨q.os, q.tape, q.output, q.size, fun k h _ _ => q.block k h⟩
theorem Ty.trans {B L : Nat} {a b c : World} (h : Ty B L a b) (k : Ty B L b c) : Ty B L a c :=
  ⟨k.os.trans h.os, k.tape.trans h.tape, k.output.trans h.output, Nat.le_trans h.size k.size, fun i hi h1 h2 => (k.block i (Nat.lt_of_lt_of_le hi h.size) h1 h2).trans (h.block i hi h1 h2)⟩
theorem Ty.setB (B L : Nat) (w : World) (o : Nat) (u : Value) : Ty B L w (w.setCell ⟨B, o, none⟩ u) :=
  ⟨rfl, rfl, rfl, by simp [World.setCell], fun k _ h _ => Below.heap_setCell _ _ _ _ h⟩
theorem Ty.setL (B L : Nat) (w : World) (o : Nat) (u : Value) : Ty B L w (w.setCell ⟨L, o, none⟩ u) :=
  ⟨rfl, rfl, rfl, by simp [World.setCell], fun k _ _ h => Below.heap_setCell _ _ _ _ h⟩
theorem Ty.setNew {B L : Nat} {a w : World} (h : Ty B L a w) {p : Addr} (hp : a.heap.size ≤ p.block) (u : Value) : Ty B L a (w.setCell p u) :=
  ⟨h.os, h.tape, h.output, by have := h.size; simpa [World.setCell] using this, fun k hk h1 h2 => (Below.heap_setCell _ _ _ _ (by omega)).trans (h.block k hk h1 h2)⟩
theorem Ty.below {B L C : Nat} {w w' : World} (h : Ty B L w w') (hB : C ≤ B) (hL : C ≤ L) (hC : C ≤ w.heap.size) : Below C w w' := ⟨h.os, h.tape, h.output, h.size, fun k hk => h.block k (by omega) (by omega) (by omega)⟩
theorem Bx.ty {B L : Nat} {w w' : World} {b : Nat} {cs : Array Value} {t : TypeId} (h : Bx w b cs t) (q : Ty B L w w') (h1 : b ≠ B) (h2 : b ≠ L) : Bx w' b cs t := (q.block b h.lt h1 h2).trans h
def stc (v : Value) (s : Vs.St) : Array Value := (v :: (s.cm ++ s.sy).map (Value.int .i64)).toArray
theorem stc_0 (v : Value) (s : Vs.St) : (stc v s)[0]? = some v := rfl
theorem stc_c (v : Value) {s : Vs.St} (h : s.ok) {k : Nat} (hk : k < 100) : (stc v s)[1 + k]? = some (.int .i64 (s.cm.getD k 0)) := by
  have l := h.hc
  have e : (stc v s)[1 + k]? = ((s.cm ++ s.sy).map (Value.int .i64))[k]? := by unfold stc; rw [Nat.add_comm]; simp
  rw [e, List.getElem?_map, List.getElem?_append_left (by omega), List.getD_eq_getElem?_getD, List.getElem?_eq_getElem (by omega)]
  rfl
theorem stc_s (v : Value) {s : Vs.St} (h : s.ok) {k : Nat} (hk : k < 1000) : (stc v s)[101 + k]? = some (.int .i64 (s.sy.getD k 0)) := by
  have l := h.hc
  have l2 := h.hs
  have e : (stc v s)[101 + k]? = ((s.cm ++ s.sy).map (Value.int .i64))[100 + k]? := by unfold stc; rw [show 101 + k = 100 + k + 1 by omega]; simp
  rw [e, List.getElem?_map, List.getElem?_append_right (by omega), List.getD_eq_getElem?_getD, List.getElem?_eq_getElem (by omega), List.getElem?_eq_getElem (by omega)]
  simp [l]
theorem stc_setc (v : Value) {s : Vs.St} (h : s.ok) {k : Nat} (hk : k < 100) (n : Int) : (stc v s).setIfInBounds (1 + k) (.int .i64 n) = stc v { s with cm := s.cm.set k n } := by
  have l := h.hc
  apply Array.ext'
  unfold stc
  rw [Nat.add_comm]
  simp [List.set_append, l, hk, ← List.map_set]
theorem stc_sets (v : Value) {s : Vs.St} (h : s.ok) {k : Nat} (hk : k < 1000) (n : Int) : (stc v s).setIfInBounds (101 + k) (.int .i64 n) = stc v { s with sy := s.sy.set k n } := by
  have l := h.hc
  apply Array.ext'
  unfold stc
  rw [show 101 + k = 100 + k + 1 by omega]
  simp [List.set_append, l, hk, ← List.map_set]
def Lvl (E : TypeId) (w : World) (L cap : Nat) (s : Vs.St) : Prop :=
  ∃ cur : Array Value, w.heap[L]? = some (.cells cur E (0, 0)) ∧ cur.size = cap * 33 ∧ cur.toList.take (s.n * 33) = s.ls.map (Value.int .i64)
theorem Lvl.lt {E : TypeId} {w : World} {L cap : Nat} {s : Vs.St} (h : Lvl E w L cap s) : L < w.heap.size := by
  obtain ⟨cur, hg, _⟩ := h
  exact (Array.getElem?_eq_some_iff.1 hg).1
theorem Lvl.same {E : TypeId} {w w' : World} {L cap : Nat} {s : Vs.St} (h : Lvl E w L cap s) (e : w'.heap[L]? = w.heap[L]?) : Lvl E w' L cap s := by
  obtain ⟨cur, hg, r⟩ := h
  exact ⟨cur, e.trans hg, r⟩
structure Stb (T E : TypeId) (w : World) (B L cap : Nat) (s : Vs.St) : Prop where
  bx : Bx w B (stc (.slice (some ⟨L, 0, none⟩) s.n cap) s) T
  lv : Lvl E w L cap s
  ne : L ≠ B
  c1 : s.n ≤ cap
  c2 : cap ≤ maxLen
  ok : s.ok
section
variable {T E : TypeId} {w w' : World} {B L cap : Nat} {s : Vs.St}
theorem Stb.ltB (h : Stb T E w B L cap s) : B < w.heap.size := h.bx.lt
theorem Stb.ltL (h : Stb T E w B L cap s) : L < w.heap.size := h.lv.lt
theorem Stb.kept (h : Stb T E w B L cap s) (q : Qw w w') : Stb T E w' B L cap s :=
  ⟨h.bx.kept q, h.lv.same (q.block L h.ltL), h.ne, h.c1, h.c2, h.ok⟩
theorem Stb.ty {B' L' : Nat} (h : Stb T E w B L cap s) (q : Ty B' L' w w') (h1 : B ≠ B') (h2 : B ≠ L') (h3 : L ≠ B') (h4 : L ≠ L') : Stb T E w' B L cap s :=
  ⟨h.bx.ty q h1 h2, h.lv.same (q.block L h.ltL h3 h4), h.ne, h.c1, h.c2, h.ok⟩
theorem Stb.cell0 (h : Stb T E w B L cap s) : w.cell? ⟨B, 0, none⟩ = some (.slice (some ⟨L, 0, none⟩) s.n cap) := h.bx.cell' 0 _ (stc_0 _ _)
theorem Stb.cellC (h : Stb T E w B L cap s) {k : Nat} (hk : k < 100) : w.cell? ⟨B, 1 + k, none⟩ = some (.int .i64 (s.cm.getD k 0)) := h.bx.cell' _ _ (stc_c _ h.ok hk)
theorem Stb.cellS (h : Stb T E w B L cap s) {k : Nat} (hk : k < 1000) : w.cell? ⟨B, 101 + k, none⟩ = some (.int .i64 (s.sy.getD k 0)) := h.bx.cell' _ _ (stc_s _ h.ok hk)
theorem Stb.cellL (h : Stb T E w B L cap s) {k : Nat} (hk : k < s.n * 33) : w.cell? ⟨L, k, none⟩ = some (.int .i64 (s.ls.getD k 0)) := by
  obtain ⟨cur, hg, hs, ht⟩ := h.lv
  have l := h.ok.hl
  rw [cell_of_row w L k cur E (0, 0) hg]
  have e : (cur.toList.take (s.n * 33))[k]? = (s.ls.map (Value.int .i64))[k]? := by rw [ht]
  rw [List.getElem?_take_of_lt hk, List.getElem?_map, List.getElem?_eq_getElem (l := s.ls) (by omega)] at e
  rw [List.getD_eq_getElem?_getD, List.getElem?_eq_getElem (by omega)]
  simpa using e
theorem Stb.freeB (h : Stb T E w B L cap s) (o : Nat) : w.frozen? ⟨B, o, none⟩ = false := h.bx.free o
theorem Stb.freeL (h : Stb T E w B L cap s) (o : Nat) : w.frozen? ⟨L, o, none⟩ = false := by
  obtain ⟨cur, hg, _⟩ := h.lv
  exact frozen_of_row w L o cur E hg
theorem Stb.setC (h : Stb T E w B L cap s) {k : Nat} (hk : k < 100) (n : Int) : Stb T E (w.setCell ⟨B, 1 + k, none⟩ (.int .i64 n)) B L cap { s with cm := s.cm.set k n } := by
  have b := h.bx.set (1 + k) (.int .i64 n)
  rw [stc_setc _ h.ok hk] at b
  obtain ⟨o1, o2, o3, o4, o5⟩ := h.ok
  exact ⟨b, h.lv.same (Below.heap_setCell _ _ _ _ h.ne), h.ne, h.c1, h.c2, ⟨o1, o2, o3, by simpa using o4, o5⟩⟩
theorem Stb.setS (h : Stb T E w B L cap s) {k : Nat} (hk : k < 1000) (n : Int) : Stb T E (w.setCell ⟨B, 101 + k, none⟩ (.int .i64 n)) B L cap { s with sy := s.sy.set k n } := by
  have b := h.bx.set (101 + k) (.int .i64 n)
  rw [stc_sets _ h.ok hk] at b
  obtain ⟨o1, o2, o3, o4, o5⟩ := h.ok
  exact ⟨b, h.lv.same (Below.heap_setCell _ _ _ _ h.ne), h.ne, h.c1, h.c2, ⟨o1, o2, o3, o4, by simpa using o5⟩⟩
theorem Stb.setL (h : Stb T E w B L cap s) {k : Nat} (hk : k < s.n * 33) (n : Int) : Stb T E (w.setCell ⟨L, k, none⟩ (.int .i64 n)) B L cap { s with ls := s.ls.set k n } := by
  obtain ⟨cur, hg, hs, ht⟩ := h.lv
  have g := heap_setCell_same w L k cur E (.int .i64 n) hg
  obtain ⟨o1, o2, o3, o4, o5⟩ := h.ok
  refine ⟨(Below.heap_setCell _ _ _ _ (Ne.symm h.ne)).trans h.bx, ⟨_, g, by simpa using hs, ?_⟩, h.ne, h.c1, h.c2, ⟨o1, o2, by simpa using o3, o4, o5⟩⟩
  show (cur.setIfInBounds k (.int .i64 n)).toList.take (s.n * 33) = (s.ls.set k n).map _
  rw [Array.toList_setIfInBounds, List.take_set, ht, ← List.map_set]
end
abbrev Pst := Stb 70 103
abbrev Rst := Stb 73 79
end Go.Proofs.YtciglhecjkeogaaGreatDoor
set_option linter.unusedVariables false
set_option linter.unusedSimpArgs false
namespace Go.Proofs.YtciglhecjkeogaaGreatDoor
open Go.RowKit
theorem ret_bb {a b : Bool} (h : a = b) : Ending.returned (.bool a) = .returned (.bool b) := by rw [h]
theorem vaValid (n : Int) (w : World) : Calls Tryz.prog 33 #[.int .i64 n] w fun e w' => e = .returned (.bool (decide (Vs.vld n))) ∧ w = w' := by
  rcases (show n < -1000000000000000 ∨ 1000000000000000 < n ∨ Vs.vld n by unfold Vs.vld; omega) with h | h | h
  · rw [decide_eq_false (show ¬ Vs.vld n by unfold Vs.vld; omega)]
    go_enter Tryz.func33, Tryz.ntmps33
    go_wp2
    go_ret
    exact ⟨ret_bb (by first | rfl | (simp; omega)), rfl⟩
  · rw [decide_eq_false (show ¬ Vs.vld n by unfold Vs.vld; omega)]
    go_enter Tryz.func33, Tryz.ntmps33
    go_wp2
    go_ret
    exact ⟨ret_bb (by first | rfl | (simp; omega)), rfl⟩
  · rw [decide_eq_true h]
    obtain ⟨h1, h2⟩ := h
    go_enter Tryz.func33, Tryz.ntmps33
    go_wp2
    go_ret
    exact ⟨ret_bb (by first | rfl | (simp; omega)), rfl⟩
theorem vrValid (n : Int) (w : World) : Calls Tryz.prog 37 #[.int .i64 n] w fun e w' => e = .returned (.bool (decide (Vs.vld n))) ∧ w = w' := by
  rcases (show n < -1000000000000000 ∨ 1000000000000000 < n ∨ Vs.vld n by unfold Vs.vld; omega) with h | h | h
  · rw [decide_eq_false (show ¬ Vs.vld n by unfold Vs.vld; omega)]
    go_enter Tryz.func37, Tryz.ntmps37
    go_wp2
    go_ret
    exact ⟨ret_bb (by first | rfl | (simp; omega)), rfl⟩
  · rw [decide_eq_false (show ¬ Vs.vld n by unfold Vs.vld; omega)]
    go_enter Tryz.func37, Tryz.ntmps37
    go_wp2
    go_ret
    exact ⟨ret_bb (by first | rfl | (simp; omega)), rfl⟩
  · rw [decide_eq_true h]
    obtain ⟨h1, h2⟩ := h
    go_enter Tryz.func37, Tryz.ntmps37
    go_wp2
    go_ret
    exact ⟨ret_bb (by first | rfl | (simp; omega)), rfl⟩
theorem vaSystem (n : Int) (w : World) : Calls Tryz.prog 32 #[.int .i64 n] w fun e w' => e = .returned (.bool (decide (Vs.isS n))) ∧ w = w' := by
  rcases (show n < 5000 ∨ 5999 < n ∨ Vs.isS n by unfold Vs.isS; omega) with h | h | h
  · rw [decide_eq_false (show ¬ Vs.isS n by unfold Vs.isS; omega)]
    go_enter Tryz.func32, Tryz.ntmps32
    go_wp2
    go_ret
    exact ⟨ret_bb (by first | rfl | (simp; omega)), rfl⟩
  · rw [decide_eq_false (show ¬ Vs.isS n by unfold Vs.isS; omega)]
    go_enter Tryz.func32, Tryz.ntmps32
    go_wp2
    go_ret
    exact ⟨ret_bb (by first | rfl | (simp; omega)), rfl⟩
  · rw [decide_eq_true h]
    obtain ⟨h1, h2⟩ := h
    go_enter Tryz.func32, Tryz.ntmps32
    go_wp2
    go_ret
    exact ⟨ret_bb (by first | rfl | (simp; omega)), rfl⟩
theorem vrSystem (n : Int) (w : World) : Calls Tryz.prog 34 #[.int .i64 n] w fun e w' => e = .returned (.bool (decide (Vs.isS n))) ∧ w = w' := by
  rcases (show n < 5000 ∨ 5999 < n ∨ Vs.isS n by unfold Vs.isS; omega) with h | h | h
  · rw [decide_eq_false (show ¬ Vs.isS n by unfold Vs.isS; omega)]
    go_enter Tryz.func34, Tryz.ntmps34
    go_wp2
    go_ret
    exact ⟨ret_bb (by first | rfl | (simp; omega)), rfl⟩
  · rw [decide_eq_false (show ¬ Vs.isS n by unfold Vs.isS; omega)]
    go_enter Tryz.func34, Tryz.ntmps34
    go_wp2
    go_ret
    exact ⟨ret_bb (by first | rfl | (simp; omega)), rfl⟩
  · rw [decide_eq_true h]
    obtain ⟨h1, h2⟩ := h
    go_enter Tryz.func34, Tryz.ntmps34
    go_wp2
    go_ret
    exact ⟨ret_bb (by first | rfl | (simp; omega)), rfl⟩
theorem vrCommon (n : Int) (w : World) : Calls Tryz.prog 36 #[.int .i64 n] w fun e w' => e = .returned (.bool (decide (Vs.isC n))) ∧ w = w' := by
  rcases (show n < 100 ∨ 199 < n ∨ Vs.isC n by unfold Vs.isC; omega) with h | h | h
  · rw [decide_eq_false (show ¬ Vs.isC n by unfold Vs.isC; omega)]
    go_enter Tryz.func36, Tryz.ntmps36
    go_wp2
    go_ret
    exact ⟨ret_bb (by first | rfl | (simp; omega)), rfl⟩
  · rw [decide_eq_false (show ¬ Vs.isC n by unfold Vs.isC; omega)]
    go_enter Tryz.func36, Tryz.ntmps36
    go_wp2
    go_ret
    exact ⟨ret_bb (by first | rfl | (simp; omega)), rfl⟩
  · rw [decide_eq_true h]
    obtain ⟨h1, h2⟩ := h
    go_enter Tryz.func36, Tryz.ntmps36
    go_wp2
    go_ret
    exact ⟨ret_bb (by first | rfl | (simp; omega)), rfl⟩
theorem vrLocal (n : Int) (w : World) : Calls Tryz.prog 35 #[.int .i64 n] w fun e w' => e = .returned (.bool (decide (Vs.isL n))) ∧ w = w' := by
  rcases (show n < 1 ∨ 33 < n ∨ Vs.isL n by unfold Vs.isL; omega) with h | h | h
  · rw [decide_eq_false (show ¬ Vs.isL n by unfold Vs.isL; omega)]
    go_enter Tryz.func35, Tryz.ntmps35
    go_wp2
    go_ret
    exact ⟨ret_bb (by first | rfl | (simp; omega)), rfl⟩
  · rw [decide_eq_false (show ¬ Vs.isL n by unfold Vs.isL; omega)]
    go_enter Tryz.func35, Tryz.ntmps35
    go_wp2
    go_ret
    exact ⟨ret_bb (by first | rfl | (simp; omega)), rfl⟩
  · rw [decide_eq_true h]
    obtain ⟨h1, h2⟩ := h
    go_enter Tryz.func35, Tryz.ntmps35
    go_wp2
    go_ret
    exact ⟨ret_bb (by first | rfl | (simp; omega)), rfl⟩
theorem vaLevel {w : World} {B L cap : Nat} {s : Vs.St} (h : Pst w B L cap s) : Calls Tryz.prog 59 #[.pointer (some ⟨B, 0, none⟩)] w fun e w' => e = .returned (.int .i64 ((s.n : Int) - 1)) ∧ w = w' := by
  have c0 := h.cell0
  have h1 := h.ok.n1
  have h2 := h.ok.n2
  clear h
  go_enter Tryz.func59, Tryz.ntmps59
  go_wp2
  go_ret
  exact ⟨rfl, rfl⟩
end Go.Proofs.YtciglhecjkeogaaGreatDoor
set_option linter.unusedVariables false
set_option linter.unusedSimpArgs false
namespace Go.Proofs.YtciglhecjkeogaaGreatDoor
open Go.RowKit
def place (B L : Nat) (s : Vs.St) (n : Int) : Option Addr :=
  if Vs.isL n then some ⟨L, s.at n, none⟩ else if Vs.isC n then some ⟨B, 1 + (n - 100).toNat, none⟩ else if Vs.isS n then some ⟨B, 101 + (n - 5000).toNat, none⟩ else none
theorem at_lt {s : Vs.St} (h : s.ok) {n : Int} (hn : Vs.isL n) : s.at n < s.n * 33 := by
  have h1 := h.n1
  unfold Vs.isL at hn
  unfold Vs.St.at
  omega
theorem ret_ptr {b x y : Nat} (h : x = y) : Ending.returned (.pointer (some ⟨b, x, none⟩)) = .returned (.pointer (some ⟨b, y, none⟩)) := by rw [h]
set_option maxRecDepth 100000 in
set_option maxHeartbeats 4000000 in
theorem vaFind {w : World} {B L cap : Nat} {s : Vs.St} (h : Pst w B L cap s) (n : Int) : Calls Tryz.prog 31 #[.pointer (some ⟨B, 0, none⟩), .int .i64 n] w fun e w' => e = .returned (.pointer (place B L s n)) ∧ Qw w w' := by
  unfold place
  by_cases hL : Vs.isL n
  · rw [if_pos hL]
    have c0 := h.cell0
    have h1 := h.ok.n1
    have h2 := h.ok.n2
    have h3 := h.c1
    have hcap := h.c2
    unfold maxLen at hcap
    obtain ⟨k1, k2⟩ := hL
    have hlv : ∀ w', Qw w w' → Calls Tryz.prog 59 #[.pointer (some ⟨B, 0, none⟩)] w' fun e w'' => e = .returned (.int .i64 ((s.n : Int) - 1)) ∧ w' = w'' := fun w' q => vaLevel (h.kept q)
    obtain ⟨m, hm⟩ : ∃ m : Nat, s.n = m + 1 := ⟨s.n - 1, by omega⟩
    obtain ⟨j, rfl⟩ : ∃ j : Nat, n = 1 + (j : Int) := ⟨(n - 1).toNat, by omega⟩
    have eat : s.at (1 + (j : Int)) = m * 33 + j := by unfold Vs.St.at; omega
    rw [eat]
    have en : ((s.n : Int) - 1) = (m : Int) := by omega
    rw [en] at hlv
    have HL := Lib.hid hlv
    have e1 : IntKind.i64.wrap (1 + (j : Int) - 1) = j := (IntWalk.i64_in _ (by omega)).trans (by omega)
    generalize s.n = N at *
    subst hm
    have b1 : (m : Int) < ((m + 1 : Nat) : Int) := by omega
    have b2 : 0 ≤ (m : Int) := by omega
    have b3 : (j : Int) < 33 := by omega
    clear hlv en eat h
    go_enter Tryz.func31, Tryz.ntmps31
    go_wp2
    go_quiet ((go_at_call 59; exact Calls.quiet_of_same ((HL.out _ (Qw.dn (Qw.refl _) _)).mono fun _ _ ⟨h1, h2⟩ => ⟨h1, h2.symm⟩)))
    go_wp2
    go_ret
    exact ⟨ret_ptr (by omega), Qw.dn (Qw.refl _) _⟩
  · rw [if_neg hL]
    by_cases hC : Vs.isC n
    · rw [if_pos hC]
      obtain ⟨k1, k2⟩ := hC
      clear hL h
      obtain ⟨j, rfl⟩ : ∃ j : Nat, n = 100 + (j : Int) := ⟨(n - 100).toNat, by omega⟩
      have e1 : IntKind.i64.wrap (100 + (j : Int) - 100) = j := (IntWalk.i64_in _ (by omega)).trans (by omega)
      have b3 : (j : Int) < 100 := by omega
      have e2 : (100 + (j : Int) - 100).toNat = j := by omega
      rw [e2]
      clear e2
      go_enter Tryz.func31, Tryz.ntmps31
      go_wp2
      go_ret
      exact ⟨ret_ptr (by omega), Qw.refl _⟩
    · rw [if_neg hC]
      by_cases hS : Vs.isS n
      · rw [if_pos hS]
        have hs := vaSystem n
        rw [decide_eq_true hS] at hs
        obtain ⟨k1, k2⟩ := hS
        have hs := Lib.hid hs
        clear hL hC h
        obtain ⟨j, rfl⟩ : ∃ j : Nat, n = 5000 + (j : Int) := ⟨(n - 5000).toNat, by omega⟩
        have e1 : IntKind.i64.wrap (5000 + (j : Int) - 5000) = j := (IntWalk.i64_in _ (by omega)).trans (by omega)
        have b3 : (j : Int) < 1000 := by omega
        have e2 : (5000 + (j : Int) - 5000).toNat = j := by omega
        rw [e2]
        clear e2
        go_enter Tryz.func31, Tryz.ntmps31
        go_wp2_with (go_at_call 32; ((with_reducible refine (hs.out _).mono ?_); rintro e w' ⟨rfl, rfl⟩))
        go_ret
        exact ⟨ret_ptr (by omega), Qw.refl _⟩
      · rw [if_neg hS]
        have hs := vaSystem n
        rw [decide_eq_false hS] at hs
        have hs := Lib.hid hs
        unfold Vs.isL at hL
        unfold Vs.isC at hC
        clear h hS
        rcases (show n < 1 ∨ (33 < n ∧ n < 100) ∨ 199 < n by omega) with k | k | k
        · clear hL hC
          go_enter Tryz.func31, Tryz.ntmps31
          go_wp2_with (go_at_call 32; ((with_reducible refine (hs.out _).mono ?_); rintro e w' ⟨rfl, rfl⟩))
          go_ret
          exact ⟨rfl, Qw.refl _⟩
        · clear hL hC
          obtain ⟨k1, k2⟩ := k
          go_enter Tryz.func31, Tryz.ntmps31
          go_wp2_with (go_at_call 32; ((with_reducible refine (hs.out _).mono ?_); rintro e w' ⟨rfl, rfl⟩))
          go_ret
          exact ⟨rfl, Qw.refl _⟩
        · clear hL hC
          go_enter Tryz.func31, Tryz.ntmps31
          go_wp2_with (go_at_call 32; ((with_reducible refine (hs.out _).mono ?_); rintro e w' ⟨rfl, rfl⟩))
          go_ret
          exact ⟨rfl, Qw.refl _⟩
theorem place_none {B L : Nat} {s : Vs.St} {n : Int} (h : place B L s n = none) : ¬ Vs.isL n ∧ ¬ Vs.isC n ∧ ¬ Vs.isS n := by
  unfold place at h
  by_cases h1 : Vs.isL n
  · rw [if_pos h1] at h; cases h
  · rw [if_neg h1] at h
    by_cases h2 : Vs.isC n
    · rw [if_pos h2] at h; cases h
    · rw [if_neg h2] at h
      by_cases h3 : Vs.isS n
      · rw [if_pos h3] at h; cases h
      · exact ⟨h1, h2, h3⟩
theorem disjoint (n : Int) : (Vs.isL n → ¬ Vs.isC n ∧ ¬ Vs.isS n) ∧ (Vs.isC n → ¬ Vs.isL n ∧ ¬ Vs.isS n) ∧ (Vs.isS n → ¬ Vs.isL n ∧ ¬ Vs.isC n) := by
  unfold Vs.isL Vs.isC Vs.isS; omega
theorem place_some {T E : TypeId} {w : World} {B L cap : Nat} {s : Vs.St} (h : Stb T E w B L cap s) {n : Int} {a : Addr} (e : place B L s n = some a) :
    ∃ b o, a = ⟨b, o, none⟩ ∧ (b = B ∨ b = L) ∧ w.cell? ⟨b, o, none⟩ = some (.int .i64 (s.get n)) ∧ w.frozen? ⟨b, o, none⟩ = false ∧ b < w.heap.size ∧ Vs.gerr n = 0 ∧
      (∀ v, ¬ Vs.isS n → Vs.vld v → Stb T E (w.setCell ⟨b, o, none⟩ (.int .i64 v)) B L cap (s.set n v) ∧ Vs.serr n v = 0) ∧
      (∀ v, Vs.isS n → Vs.vld v → Stb T E (w.setCell ⟨b, o, none⟩ (.int .i64 v)) B L cap (s.host n v) ∧ Vs.herr n v = 0) := by
  obtain ⟨d1, d2, d3⟩ := disjoint n
  unfold place at e
  by_cases h1 : Vs.isL n
  · rw [if_pos h1] at e
    injection e with e
    subst e
    have lt := at_lt h.ok h1
    have sl := h.setL lt
    refine ⟨L, s.at n, rfl, .inr rfl, ?_, h.freeL _, h.ltL, ?_, ?_, ?_⟩
    · unfold Vs.St.get; rw [if_pos h1]; exact h.cellL lt
    · unfold Vs.gerr; rw [if_pos (.inl h1)]
    · intro v hs hv
      have e0 : Vs.serr n v = 0 := by unfold Vs.serr; rw [if_neg hs, if_neg (fun k => k.1 h1), if_pos hv]
      refine ⟨?_, e0⟩
      unfold Vs.St.set
      rw [if_neg (fun k => k e0), if_pos h1]
      exact sl v
    · intro v hs; exact absurd hs (d1 h1).2
  · rw [if_neg h1] at e
    by_cases h2 : Vs.isC n
    · rw [if_pos h2] at e
      injection e with e
      subst e
      have lt : (n - 100).toNat < 100 := by unfold Vs.isC at h2; omega
      refine ⟨B, 1 + (n - 100).toNat, rfl, .inl rfl, ?_, h.freeB _, h.ltB, ?_, ?_, ?_⟩
      · unfold Vs.St.get; rw [if_neg h1, if_pos h2]; exact h.cellC lt
      · unfold Vs.gerr; rw [if_pos (.inr (.inl h2))]
      · intro v hs hv
        have e0 : Vs.serr n v = 0 := by unfold Vs.serr; rw [if_neg hs, if_neg (fun k => k.2 h2), if_pos hv]
        refine ⟨?_, e0⟩
        unfold Vs.St.set
        rw [if_neg (fun k => k e0), if_neg h1]
        exact h.setC lt v
      · intro v hs; exact absurd hs (d2 h2).2
    · rw [if_neg h2] at e
      by_cases h3 : Vs.isS n
      · rw [if_pos h3] at e
        injection e with e
        subst e
        have lt : (n - 5000).toNat < 1000 := by unfold Vs.isS at h3; omega
        refine ⟨B, 101 + (n - 5000).toNat, rfl, .inl rfl, ?_, h.freeB _, h.ltB, ?_, ?_, ?_⟩
        · unfold Vs.St.get; rw [if_neg h1, if_neg h2, if_pos h3]; exact h.cellS lt
        · unfold Vs.gerr; rw [if_pos (.inr (.inr h3))]
        · intro v hs; exact absurd h3 hs
        · intro v hs hv
          have e0 : Vs.herr n v = 0 := by unfold Vs.herr; rw [if_neg (fun k => k h3), if_pos hv]
          refine ⟨?_, e0⟩
          unfold Vs.St.host
          rw [if_neg (fun k => k e0)]
          exact h.setS lt v
      · rw [if_neg h3] at e; cases e
theorem Ty.drewN {B L : Nat} {a w : World} (h : Ty B L a w) (n : Nat) : Ty B L a (w.drewN n) := h.trans ⟨rfl, rfl, rfl, Nat.le_refl _, fun _ _ _ _ => rfl⟩
theorem Ty.one {B L b : Nat} {w w1 : World} (q : Qw w w1) (hb : b = B ∨ b = L) (o : Nat) (u : Value) : Ty B L w (w1.setCell ⟨b, o, none⟩ u) := by
  refine Ty.trans (Ty.of q) ?_
  rcases hb with rfl | rfl
  · exact Ty.setB _ _ _ _ _
  · exact Ty.setL _ _ _ _ _
set_option maxRecDepth 100000 in
set_option maxHeartbeats 4000000 in
theorem vaGet {w : World} {B L cap : Nat} {s : Vs.St} (h : Pst w B L cap s) (n : Int) : Calls Tryz.prog 78 #[.pointer (some ⟨B, 0, none⟩), .int .i64 n] w fun e w' => e = .returned (.tuple #[.int .i64 (s.get n), .int .i64 (Vs.gerr n)]) ∧ Qw w w' := by
  have hf := vaFind h n
  cases e : place B L s n with
  | none =>
    obtain ⟨h1, h2, h3⟩ := place_none e
    have e1 : s.get n = 0 := by unfold Vs.St.get; rw [if_neg h1, if_neg h2, if_neg h3]
    have e2 : Vs.gerr n = 6 := by unfold Vs.gerr; rw [if_neg (by intro k; rcases k with k | k | k; exact h1 k; exact h2 k; exact h3 k)]
    rw [e1, e2]
    rw [e] at hf
    have HF := Lib.hid hf
    clear hf e e1 e2 h1 h2 h3 h
    go_enter Tryz.func78, Tryz.ntmps78
    go_wp2_with (go_at_call 31; ((with_reducible refine HF.out.mono ?_); rintro e w' ⟨rfl, q⟩; have q0 := Lib.hid q; clear q))
    go_ret2
    exact ⟨rfl, q0.out⟩
  | some a =>
    obtain ⟨b, o, rfl, _, hc, hz, hb, hg, _⟩ := place_some h e
    rw [e] at hf
    rw [hg]
    have HF := Lib.hid hf
    generalize s.get n = x at *
    clear hf e hg h
    go_enter Tryz.func78, Tryz.ntmps78
    go_wp2_with (go_at_call 31; ((with_reducible refine HF.out.mono ?_); rintro e w' ⟨rfl, q⟩; have hc' : w'.cell? ⟨b, o, none⟩ = some (.int .i64 x) := (q.cell (p := ⟨b, o, none⟩) hb).trans hc; have q0 := Lib.hid q; clear q))
    go_ret2
    exact ⟨rfl, q0.out⟩
set_option maxRecDepth 100000 in
set_option maxHeartbeats 4000000 in
theorem vaSet {w : World} {B L cap : Nat} {s : Vs.St} (h : Pst w B L cap s) (n v : Int) : Calls Tryz.prog 20 #[.pointer (some ⟨B, 0, none⟩), .int .i64 n, .int .i64 v] w fun e w' => e = .returned (.int .i64 (Vs.serr n v)) ∧ Pst w' B L cap (s.set n v) ∧ Ty B L w w' := by
  have hf := vaFind h n
  have hs := vaSystem n
  have hv := vaValid v
  cases e : place B L s n with
  | none =>
    obtain ⟨h1, h2, h3⟩ := place_none e
    have e2 : Vs.serr n v = 6 := by unfold Vs.serr; rw [if_neg h3, if_pos ⟨h1, h2⟩]
    have e1 : s.set n v = s := by unfold Vs.St.set; rw [if_pos (by rw [e2]; decide)]
    rw [e1, e2]
    rw [e] at hf
    have HF := Lib.hid hf
    have H := Lib.hid h
    clear hf e e1 e2 h1 h2 h3 h hs hv
    go_enter Tryz.func20, Tryz.ntmps20
    go_wp2_with (go_at_call 31; ((with_reducible refine HF.out.mono ?_); rintro e w' ⟨rfl, q⟩; have q0 := Lib.hid q; clear q))
    go_ret
    exact ⟨rfl, H.out.kept q0.out, Ty.of q0.out⟩
  | some a =>
    have H := Lib.hid h
    obtain ⟨b, o, rfl, hbb, hc, hz, hb, hg, hset, _⟩ := place_some h e
    rw [e] at hf
    by_cases h3 : Vs.isS n
    · have e2 : Vs.serr n v = 13 := by unfold Vs.serr; rw [if_pos h3]
      have e1 : s.set n v = s := by unfold Vs.St.set; rw [if_pos (by rw [e2]; decide)]
      rw [e1, e2]
      rw [decide_eq_true h3] at hs
      have HF := Lib.hid hf
      have HS := Lib.hid hs
      clear hf e e1 e2 h3 h hs hv hset hg hc
      go_enter Tryz.func20, Tryz.ntmps20
      go_wp2_with (first | (go_at_call 31; ((with_reducible refine HF.out.mono ?_); rintro e w' ⟨rfl, q⟩; have q0 := Lib.hid q; clear q)) | (go_at_call 32; ((with_reducible refine (HS.out _).mono ?_); rintro e w' ⟨rfl, rfl⟩)))
      go_ret
      exact ⟨rfl, H.out.kept q0.out, Ty.of q0.out⟩
    · rw [decide_eq_false h3] at hs
      by_cases h4 : Vs.vld v
      · rw [decide_eq_true h4] at hv
        have e2 := (hset v h3 h4).2
        rw [e2]
        have HF := Lib.hid hf
        have HS := Lib.hid hs
        have HV := Lib.hid hv
        have HB := Lib.hid hbb
        have HP : Hid (∀ w', Qw w w' → Pst (w'.setCell ⟨b, o, none⟩ (.int .i64 v)) B L cap (s.set n v)) := Lib.hid fun w' q => by
          obtain ⟨b', o', e', _, _, _, _, _, k, _⟩ := place_some (h.kept q) e
          injection e' with x1 x2
          subst x1 x2
          exact (k v h3 h4).1
        generalize s.get n = x at *
        clear hf e e2 h3 h4 h hs hv hset hg hbb
        go_enter Tryz.func20, Tryz.ntmps20
        go_wp2_with (first | (go_at_call 31; ((with_reducible refine HF.out.mono ?_); rintro e w' ⟨rfl, q⟩; have hc' : w'.cell? ⟨b, o, none⟩ = some (.int .i64 x) := (q.cell (p := ⟨b, o, none⟩) hb).trans hc; have hz' : w'.frozen? ⟨b, o, none⟩ = false := (q.frozen (p := ⟨b, o, none⟩) hb).trans hz; have q0 := Lib.hid q; clear q)) | (go_at_call 32; ((with_reducible refine (HS.out _).mono ?_); rintro e w' ⟨rfl, rfl⟩)) | (go_at_call 33; ((with_reducible refine (HV.out _).mono ?_); rintro e w' ⟨rfl, rfl⟩)))
        go_ret
        exact ⟨rfl, HP.out _ q0.out, Ty.one q0.out HB.out _ _⟩
      · rw [decide_eq_false h4] at hv
        have e2 : Vs.serr n v = 3 := by
          have k : ¬ (¬ Vs.isL n ∧ ¬ Vs.isC n) := fun k => by
            unfold place at e
            rw [if_neg k.1, if_neg k.2, if_neg h3] at e
            cases e
          unfold Vs.serr; rw [if_neg h3, if_neg k, if_neg h4]
        have e1 : s.set n v = s := by unfold Vs.St.set; rw [if_pos (by rw [e2]; decide)]
        rw [e1, e2]
        have HF := Lib.hid hf
        have HS := Lib.hid hs
        have HV := Lib.hid hv
        clear hf e e1 e2 h3 h4 h hs hv hset hg hc
        go_enter Tryz.func20, Tryz.ntmps20
        go_wp2_with (first | (go_at_call 31; ((with_reducible refine HF.out.mono ?_); rintro e w' ⟨rfl, q⟩; have q0 := Lib.hid q; clear q)) | (go_at_call 32; ((with_reducible refine (HS.out _).mono ?_); rintro e w' ⟨rfl, rfl⟩)) | (go_at_call 33; ((with_reducible refine (HV.out _).mono ?_); rintro e w' ⟨rfl, rfl⟩)))
        go_ret
        exact ⟨rfl, H.out.kept q0.out, Ty.of q0.out⟩
end Go.Proofs.YtciglhecjkeogaaGreatDoor

