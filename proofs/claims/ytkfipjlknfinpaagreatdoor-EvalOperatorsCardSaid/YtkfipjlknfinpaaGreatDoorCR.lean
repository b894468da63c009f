import Derived.Test.YtkfipjlknfinpaaGreatDoorCO

/- The walks of the specification's small, near, turned and table, and of the laws' near. -/
set_option linter.unusedVariables false
set_option linter.unusedSimpArgs false
namespace Go.Proofs.YtkfipjlknfinpaaGreatDoor
open Go.RowKit

theorem cr_turned (x y k : Int) (x1 : -4000000000000000000 ≤ x) (x2 : x ≤ 4000000000000000000) (y1 : -4000000000000000000 ≤ y) (y2 : y ≤ 4000000000000000000) (k0 : 0 ≤ k) (k1 : k ≤ 1000) (w : World) :
    Calls Tryz.prog 115 #[.int .i64 x, .int .i64 y, .int .i64 k] w fun e w' => e = .returned (.tuple #[.int .i64 (Cm.qt k.toNat (x, y)).1, .int .i64 (Cm.qt k.toNat (x, y)).2]) ∧ w = w' := by
  have QB := Lib.hid (fun j => qt_bd (x, y) j x1 x2 y1 y2)
  clear x1 x2 y1 y2
  go_enter Tryz.func115, Tryz.ntmps115
  go_wp2
  go_loop [0, 1, 8] (fun a b i => ∃ j : Nat, j ≤ k.toNat ∧ i = .int .i64 j ∧ a = .int .i64 (Cm.qt j (x, y)).1 ∧ b = .int .i64 (Cm.qt j (x, y)).2) (fun _ _ i => k.toNat - (intOf i).toNat)
  case atStart => exact ⟨0, by omega, rfl, rfl, rfl⟩
  case round =>
    obtain ⟨j, hj, rfl, rfl, rfl⟩ := hrel
    obtain ⟨a1, a2, b1, b2⟩ := QB.out j
    by_cases c : j < k.toNat
    · have s1 : (Cm.qt (j + 1) (x, y)).1 = -(Cm.qt j (x, y)).2 := rfl
      have s2 : (Cm.qt (j + 1) (x, y)).2 = (Cm.qt j (x, y)).1 := rfl
      have S1 := Lib.hid s1
      have S2 := Lib.hid s2
      clear s1 s2
      generalize (Cm.qt j (x, y)).1 = X at *
      generalize (Cm.qt j (x, y)).2 = Y at *
      have lt : (j : Int) < k := by omega
      go_wp2
      go_round
      case rel => exact ⟨j + 1, by omega, by go_num, by rw [S1.out], by rw [S2.out]⟩
      case measure => simp [intOf]; omega
    · obtain rfl : j = k.toNat := by omega
      have ge : ¬ ((k.toNat : Nat) : Int) < k := by omega
      go_wp2
      go_ret2
      exact ⟨rfl, rfl⟩

/-- The specification's table in block b. -/
def TabR (w : World) (b : Nat) : Prop := b < w.heap.size ∧ ∀ i : Nat, i < 26 → w.cell? ⟨b, i, none⟩ = some (.int .i64 (Cm.T i))
theorem TabR.kept {w w' : World} {b : Nat} (h : TabR w b) (q : Qw w w') : TabR w' b := ⟨Nat.lt_of_lt_of_le h.1 q.size, fun i hi => by
  have := q.cell (p := ⟨b, i, none⟩) h.1
  rw [this]; exact h.2 i hi⟩

theorem tab_cells (i : Nat) (hi : i < 26) : (Cm.tabT.map fun z => Value.int .i64 z).toArray[i]? = some (.int .i64 (Cm.T i)) := by
  have h : i < Cm.tabT.length := hi
  simp [Cm.T, List.getD, h]
theorem tab_cell (w : World) (i : Nat) (hi : i < 26) : (w.alloc (.cells (Cm.tabT.map fun z => Value.int .i64 z).toArray 3)).cell? ⟨w.heap.size, i, none⟩ = some (.int .i64 (Cm.T i)) := by
  have h := heap_alloc_new w (.cells (Cm.tabT.map fun z => Value.int .i64 z).toArray 3)
  have t := tab_cells i hi
  generalize (Cm.tabT.map fun z => Value.int .i64 z).toArray = cs at *
  unfold World.cell?
  simp only [h]
  exact t

theorem cr_table (w : World) : Calls Tryz.prog 114 #[] w fun e w' => e = .returned (.slice (some ⟨w.heap.size, 0, none⟩) 26 26) ∧ TabR w' w.heap.size ∧ Qw w w' := by
  go_enter Tryz.func114, Tryz.ntmps114
  go_wp2
  go_ret
  refine ⟨rfl, ?_, (Below.refl _ _).alloc (Nat.le_refl _) _⟩
  exact ⟨by simp, fun i hi => tab_cell w i hi⟩

end Go.Proofs.YtkfipjlknfinpaaGreatDoor

/- The walk of the specification's SinCos. -/
set_option linter.unusedVariables false
set_option linter.unusedSimpArgs false
namespace Go.Proofs.YtkfipjlknfinpaaGreatDoor
open Go.RowKit

set_option maxRecDepth 100000 in
set_option maxHeartbeats 1000000 in
theorem cr_sincos (a : Int) (a1 : -9223372036854775808 ≤ a) (a2 : a ≤ 9223372036854775807) (w : World) :
    Calls Tryz.prog 91 #[.int .i64 a] w fun e w' => e = .returned (.tuple #[.int .i64 (Cm.sc a).2, .int .i64 (Cm.sc a).1]) ∧ Qw w w' := by
  obtain ⟨k0, k1, r0, r1, kr⟩ := Cm.kk_bd a
  have bb := bs_bd (Cm.rest a) r0 (by omega)
  have ek : (a % 360000000 + 45000000) / 90000000 = Cm.kk a := rfl
  have er : a % 360000000 - Cm.kk a * 90000000 = Cm.rest a := rfl
  have es : Cm.sc a = Cm.qt (Cm.kk a).toNat (Cm.bs (Cm.rest a)) := rfl
  rw [es]
  have b0 : 0 ≤ a % 360000000 := by omega
  have b1 : a % 360000000 < 360000000 := by omega
  have c1 := fun w => modW a 360000000 a1 a2 (by decide) (by decide) w
  generalize a % 360000000 = R at *
  have C1 := Lib.hid c1
  clear c1 es kr
  generalize Cm.kk a = k at *
  have z0 : Cm.rest a = 0 → (Cm.bs (Cm.rest a)).1 = 1073741824 ∧ (Cm.bs (Cm.rest a)).2 = 0 := fun h => by rw [h]; exact ⟨rfl, rfl⟩
  have z1 : Cm.rest a ≠ 0 → (Cm.rs (Cm.rest a) 26).1 = (Cm.bs (Cm.rest a)).1 ∧ (Cm.rs (Cm.rest a) 26).2.1 = (Cm.bs (Cm.rest a)).2 := fun h => by unfold Cm.bs; rw [if_neg h]; exact ⟨rfl, rfl⟩
  generalize Cm.rest a = r at *
  have ct := fun x y x1 x2 y1 y2 w => cr_turned x y k x1 x2 y1 y2 k0 (by omega) w
  obtain ⟨p, hp⟩ : ∃ p, Cm.bs r = p := ⟨_, rfl⟩
  rw [hp] at z0 z1 bb ⊢
  clear hp
  obtain ⟨p1, p2⟩ := p
  dsimp only at z0 z1 bb
  have c2 := fun w => ct p1 p2 bb.1 bb.2.1 bb.2.2.1 bb.2.2.2 w
  clear a1 a2 bb ct
  have C2 := Lib.hid c2
  have q0 := Qw.refl w
  clear c2
  by_cases c : r = 0
  · obtain ⟨rfl, rfl⟩ := z0 c
    have c' : (r != 0) = false := by rw [c]; rfl
    clear z0 z1 c
    go_enter Tryz.func91, Tryz.ntmps91
    go_wp2_with (first | (go_at_call 30; ((with_reducible refine (C1.out _).mono ?_); rintro e w' ⟨rfl, rfl⟩)) | (go_at_call 115; ((with_reducible refine (C2.out _).mono ?_); rintro e w' ⟨rfl, rfl⟩)))
    go_ret2
    exact ⟨rfl, q0⟩
  · have Z1 := Lib.hid (z1 c)
    have c' : (r != 0) = true := by rw [bne_iff_ne]; exact c
    clear z0 z1 c
    go_enter Tryz.func91, Tryz.ntmps91
    go_wp2_with (first | (go_at_call 30; ((with_reducible refine (C1.out _).mono ?_); rintro e w' ⟨rfl, rfl⟩)) | (go_at_call 114; ((with_reducible refine (cr_table _).mono ?_); rintro e w1 ⟨rfl, ht, h⟩; have HT := Lib.hid ht; clear ht; replace q0 := Qw.trans q0 h; clear h)))
    go_loopw [7, 8, 9, 11] (fun x y z i wr => ∃ k : Nat, k ≤ 26 ∧ i = .int .i64 k ∧ x = .int .i64 (Cm.rs r k).1 ∧ y = .int .i64 (Cm.rs r k).2.1 ∧ z = .int .i64 (Cm.rs r k).2.2 ∧ Qw w1 wr) (fun _ _ _ i _ => 26 - (intOf i).toNat)
    case atStart => exact ⟨0, by omega, rfl, rfl, rfl, rfl, Qw.refl _⟩
    case round =>
      obtain ⟨j, hj, rfl, rfl, rfl, rfl, hb⟩ := hrel
      by_cases c : j < 26
      · obtain ⟨a1, a2, b1, b2, e1, e2⟩ := Cm.rs_bd r r0 (by omega) j hj
        have rs1 := Cm.rs_succ r j
        have hc := (HT.out.kept hb).2 j c
        generalize hx : (Cm.rs r j).1 = x at *
        generalize hy : (Cm.rs r j).2.1 = y at *
        generalize hzz : (Cm.rs r j).2.2 = z at *
        obtain ⟨d1, d2⟩ := sh_bd y j b1 b2
        obtain ⟨d3, d4⟩ := sh_bd x j a1 a2
        have bt := Cm.bd_T j c
        have RS := Lib.hid rs1
        have j0 : (0 : Int) ≤ j := by omega
        have j1 : (j : Int) < 26 := by omega
        by_cases d : 0 ≤ z
        · have f1 : IntKind.i64.wrap (x - y / 2 ^ j) = Cm.lx j x y := IntWalk.i64_in _ (by omega)
          have f2 : IntKind.i64.wrap (y + x / 2 ^ j) = Cm.ly j x y := IntWalk.i64_in _ (by omega)
          have f3 : IntKind.i64.wrap (z - Cm.T j) = z - Cm.T j := IntWalk.i64_in _ (by omega)
          clear rs1 hx hy hzz bt d1 d2 d3 d4 a1 a2 b1 b2 e1 e2
          go_wp2
          go_quiet (fail)
          go_wp2
          exact ⟨⟨j + 1, by omega, by go_num, by rw [RS.out, if_pos d], by rw [RS.out, if_pos d], by rw [RS.out, if_pos d], Qw.trans hb (Qw.drewN _ _)⟩, by simp [intOf]; omega⟩
        · have f1 : IntKind.i64.wrap (x + y / 2 ^ j) = Cm.rx j x y := IntWalk.i64_in _ (by omega)
          have f2 : IntKind.i64.wrap (y - x / 2 ^ j) = Cm.ry j x y := IntWalk.i64_in _ (by omega)
          have f3 : IntKind.i64.wrap (z + Cm.T j) = z + Cm.T j := IntWalk.i64_in _ (by omega)
          clear rs1 hx hy hzz bt d1 d2 d3 d4 a1 a2 b1 b2 e1 e2
          go_wp2
          go_quiet (fail)
          go_wp2
          exact ⟨⟨j + 1, by omega, by go_num, by rw [RS.out, if_neg (by omega)], by rw [RS.out, if_neg (by omega)], by rw [RS.out, if_neg (by omega)], Qw.trans hb (Qw.drewN _ _)⟩, by simp [intOf]; omega⟩
      · obtain rfl : j = 26 := by omega
        obtain ⟨e1, e2⟩ := Z1.out
        have q1 := Qw.trans q0 hb
        clear hb q0
        go_wp2_with (go_at_call 115; ((with_reducible refine (C2.out _).mono ?_); rintro e w' ⟨rfl, rfl⟩))
        go_ret2
        exact ⟨rfl, q1⟩

end Go.Proofs.YtkfipjlknfinpaaGreatDoor

/- The walk of the specification's Angle. -/
set_option linter.unusedVariables false
set_option linter.unusedSimpArgs false
namespace Go.Proofs.YtkfipjlknfinpaaGreatDoor
open Go.RowKit

set_option maxRecDepth 100000 in
set_option maxHeartbeats 1000000 in
theorem cr_angle_no (x y : Int) (h : (x = 0 ∧ y = 0) ∨ x < -1099511627776 ∨ 1099511627776 < x ∨ y < -1099511627776 ∨ 1099511627776 < y) (w : World) :
    Calls Tryz.prog 88 #[.int .i64 x, .int .i64 y] w fun e w' => e = .returned (.tuple #[.int .i64 0, .bool false]) ∧ w = w' := by
  by_cases h0 : x = 0 ∧ y = 0
  · obtain ⟨rfl, rfl⟩ := h0
    clear h
    go_enter Tryz.func88, Tryz.ntmps88
    go_wp2
    go_ret2
    exact ⟨rfl, rfl⟩
  · have gd : ((x == 0) = false) ∨ ((x == 0) = true ∧ (y == 0) = false) := by
      by_cases c : x = 0
      · right; exact ⟨by rw [beq_iff_eq]; exact c, beq_eq_false_iff_ne.2 (fun e => h0 ⟨c, e⟩)⟩
      · left; exact beq_eq_false_iff_ne.2 c
    by_cases c1 : 1099511627776 < x
    · have d1 : decide (1099511627776 < x) = true := decide_eq_true c1
      clear h h0
      rcases gd with g1 | ⟨g1, g2⟩
      all_goals
        go_enter Tryz.func88, Tryz.ntmps88
        go_wp2
        go_ret2
        exact ⟨rfl, rfl⟩
    · have d1 : decide (1099511627776 < x) = false := decide_eq_false c1
      by_cases c2 : x < -1099511627776
      · have d2 : decide (x < -1099511627776) = true := decide_eq_true c2
        clear h h0
        rcases gd with g1 | ⟨g1, g2⟩
        all_goals
          go_enter Tryz.func88, Tryz.ntmps88
          go_wp2
          go_ret2
          exact ⟨rfl, rfl⟩
      · have d2 : decide (x < -1099511627776) = false := decide_eq_false c2
        by_cases c3 : 1099511627776 < y
        · have d3 : decide (1099511627776 < y) = true := decide_eq_true c3
          clear h h0
          rcases gd with g1 | ⟨g1, g2⟩
          all_goals
            go_enter Tryz.func88, Tryz.ntmps88
            go_wp2
            go_ret2
            exact ⟨rfl, rfl⟩
        · have d3 : decide (1099511627776 < y) = false := decide_eq_false c3
          have c4 : y < -1099511627776 := by omega
          have d4 : decide (y < -1099511627776) = true := decide_eq_true c4
          clear h h0
          rcases gd with g1 | ⟨g1, g2⟩
          all_goals
            go_enter Tryz.func88, Tryz.ntmps88
            go_wp2
            go_ret2
            exact ⟨rfl, rfl⟩

set_option maxRecDepth 100000 in
set_option maxHeartbeats 2000000 in
theorem cr_angle_yes (x y : Int) (h0 : ¬ (x = 0 ∧ y = 0)) (xb : -1099511627776 ≤ x ∧ x ≤ 1099511627776) (yb : -1099511627776 ≤ y ∧ y ≤ 1099511627776) (w : World) :
    Calls Tryz.prog 88 #[.int .i64 x, .int .i64 y] w fun e w' => e = .returned (.tuple #[.int .i64 (((Cm.qn x y : Int) * 90000000 + Cm.rr x y) % 360000000), .bool true]) ∧ Qw w w' := by
  have gd : ((x == 0) = false) ∨ ((x == 0) = true ∧ (y == 0) = false) := by
    by_cases c : x = 0
    · right; exact ⟨by rw [beq_iff_eq]; exact c, beq_eq_false_iff_ne.2 (fun e => h0 ⟨c, e⟩)⟩
    · left; exact beq_eq_false_iff_ne.2 c
  have q0 := Qw.refl w
  have nl := Cm.qn_le x y
  have inq := Cm.qn_in x y h0
  have bef := fun j hj => Cm.qn_before x y j hj
  have bb := fun j => Cm.bk_bd x y 1099511627776 xb.1 xb.2 yb.1 yb.2 j
  have er : Cm.rr x y = if (Cm.bk (Cm.qn x y) (x, y)).2 = 0 then 0 else (Cm.rz x y + 500) / 1000 := rfl
  have ez : Cm.rz x y = (Cm.vs ((Cm.bk (Cm.qn x y) (x, y)).1 * 1048576) ((Cm.bk (Cm.qn x y) (x, y)).2 * 1048576) 26).2.2 := rfl
  have d1 : decide (1099511627776 < x) = false := decide_eq_false (by omega)
  have d2 : decide (x < -1099511627776) = false := decide_eq_false (by omega)
  have d3 : decide (1099511627776 < y) = false := decide_eq_false (by omega)
  have d4 : decide (y < -1099511627776) = false := decide_eq_false (by omega)
  clear h0 xb yb
  generalize Cm.rr x y = RR at *
  generalize Cm.rz x y = RZ at *
  generalize Cm.qn x y = n at *
  have INQ := Lib.hid inq
  have BEF := Lib.hid bef
  have BB := Lib.hid bb
  have ER := Lib.hid er
  have EZ := Lib.hid ez
  clear inq bef bb er ez
  rcases gd with g1 | ⟨g1, g2⟩
  all_goals
    go_enter Tryz.func88, Tryz.ntmps88
    go_wp2
    go_loop [6, 7, 8] (fun a b q => ∃ j : Nat, j ≤ n ∧ q = .int .i64 j ∧ a = .int .i64 (Cm.bk j (x, y)).1 ∧ b = .int .i64 (Cm.bk j (x, y)).2) (fun _ _ q => n - (intOf q).toNat)
    case atStart => exact ⟨0, by omega, rfl, rfl, rfl⟩
    case round =>
      obtain ⟨j, hj, rfl, rfl, rfl⟩ := hrel
      obtain ⟨x1, x2, y1, y2⟩ := BB.out j
      by_cases c : j < n
      · have s1 : (Cm.bk (j + 1) (x, y)).1 = (Cm.bk j (x, y)).2 := rfl
        have s2 : (Cm.bk (j + 1) (x, y)).2 = -(Cm.bk j (x, y)).1 := rfl
        have S1 := Lib.hid s1
        have S2 := Lib.hid s2
        have no := Cm.inQ_no (BEF.out j c)
        clear s1 s2
        generalize (Cm.bk j (x, y)).1 = X at *
        generalize (Cm.bk j (x, y)).2 = Y at *
        by_cases d : 0 < X
        · have t1 : decide (0 < X) = true := decide_eq_true d
          by_cases e : -X ≤ Y
          · have t2 : decide (-X ≤ Y) = true := decide_eq_true e
            have t3 : decide (Y < X) = false := decide_eq_false (by omega)
            go_wp2
            go_round
            case rel => exact ⟨j + 1, by omega, by go_num, by rw [S1.out], by rw [S2.out]⟩
            case measure => simp [intOf]; omega
          · have t2 : decide (-X ≤ Y) = false := decide_eq_false e
            go_wp2
            go_round
            case rel => exact ⟨j + 1, by omega, by go_num, by rw [S1.out], by rw [S2.out]⟩
            case measure => simp [intOf]; omega
        · have t1 : decide (0 < X) = false := decide_eq_false d
          go_wp2
          go_round
          case rel => exact ⟨j + 1, by omega, by go_num, by rw [S1.out], by rw [S2.out]⟩
          case measure => simp [intOf]; omega
      · obtain rfl : j = n := by omega
        obtain ⟨i1, i2⟩ := Cm.inQ_bd INQ.out
        generalize (Cm.bk j (x, y)).1 = X at *
        generalize (Cm.bk j (x, y)).2 = Y at *
        have t1 : decide (0 < X) = true := decide_eq_true (by omega)
        have t2 : decide (-X ≤ Y) = true := decide_eq_true (by omega)
        have t3 : decide (Y < X) = true := decide_eq_true (by omega)
        by_cases hv : Y = 0
        · have r0 : RR = 0 := by rw [ER.out, if_pos hv]
          have hv' : (Y != 0) = false := by rw [hv]; rfl
          clear hv
          subst r0
          have c3 := fun w => modW ((j : Int) * 90000000) 360000000 (by omega) (by omega) (by decide) (by decide) w
          have C3 := Lib.hid c3
          clear c3
          go_wp2_with (go_at_call 30; ((with_reducible refine (C3.out _).mono ?_); rintro e w' ⟨rfl, rfl⟩))
          go_ret2
          exact ⟨ret_nb (by omega) rfl, q0⟩
        · have r0 : RR = (RZ + 500) / 1000 := by rw [ER.out, if_neg hv]
          have hv' : (Y != 0) = true := by rw [bne_iff_ne]; exact hv
          have vb := fun i hi => Cm.vs_bd (X * 1048576) (Y * 1048576) (by omega) (by omega) (by omega) (by omega) i hi
          have zb := vb 26 (by decide)
          rw [← EZ.out] at zb
          have zb1 := zb.2.2.2.2.1
          have zb2 := zb.2.2.2.2.2
          have td := tdiv_floor (RZ + 500) 1000 (by decide)
          rw [← r0] at td
          have c4 := fun w => modW (RZ + 500) 1000 (by omega) (by omega) (by decide) (by decide) w
          have mb1 : 0 ≤ (RZ + 500) % 1000 := by omega
          have mb2 : (RZ + 500) % 1000 < 1000 := by omega
          have rb1 : -100000001 ≤ RR := by omega
          have rb2 : RR ≤ 100000001 := by omega
          have c5 := fun w => modW ((j : Int) * 90000000 + RR) 360000000 (by omega) (by omega) (by decide) (by decide) w
          generalize (RZ + 500) % 1000 = MM at *
          have C4 := Lib.hid c4
          have C5 := Lib.hid c5
          have VB := Lib.hid vb
          have TD := Lib.hid td
          clear c4 c5 hv r0 zb vb td
          go_wp2_with (go_at_call 114; ((with_reducible refine (cr_table _).mono ?_); rintro e w1 ⟨rfl, ht, h⟩; have HT := Lib.hid ht; clear ht; replace q0 := Qw.trans q0 h; clear h))
          go_loopw [10, 11, 12, 14] (fun a b z i wr => ∃ k : Nat, k ≤ 26 ∧ i = .int .i64 k ∧ a = .int .i64 (Cm.vs (X * 1048576) (Y * 1048576) k).1 ∧ b = .int .i64 (Cm.vs (X * 1048576) (Y * 1048576) k).2.1 ∧ z = .int .i64 (Cm.vs (X * 1048576) (Y * 1048576) k).2.2 ∧ Qw w1 wr) (fun _ _ _ i _ => 26 - (intOf i).toNat)
          case atStart => exact ⟨0, by omega, rfl, rfl, rfl, rfl, Qw.refl _⟩
          case round =>
            obtain ⟨i, hi, rfl, rfl, rfl, rfl, hb⟩ := hrel
            by_cases c : i < 26
            · obtain ⟨a1, a2, b1, b2, e1, e2⟩ := VB.out i hi
              have rs1 := Cm.vs_succ (X * 1048576) (Y * 1048576) i
              have hc := (HT.out.kept hb).2 i c
              generalize hx : (Cm.vs (X * 1048576) (Y * 1048576) i).1 = a at *
              generalize hy : (Cm.vs (X * 1048576) (Y * 1048576) i).2.1 = b at *
              generalize hzz : (Cm.vs (X * 1048576) (Y * 1048576) i).2.2 = z at *
              obtain ⟨d1, d2⟩ := sh_bd b i b1 b2
              obtain ⟨d3, d4⟩ := sh_bd a i a1 a2
              have bt := Cm.bd_T i c
              have RS := Lib.hid rs1
              have j0 : (0 : Int) ≤ i := by omega
              have j1 : (i : Int) < 26 := by omega
              by_cases d : 0 ≤ b
              · have f1 : IntKind.i64.wrap (a + b / 2 ^ i) = Cm.rx i a b := IntWalk.i64_in _ (by omega)
                have f2 : IntKind.i64.wrap (b - a / 2 ^ i) = Cm.ry i a b := IntWalk.i64_in _ (by omega)
                have f3 : IntKind.i64.wrap (z + Cm.T i) = z + Cm.T i := IntWalk.i64_in _ (by omega)
                clear rs1 hx hy hzz bt d1 d2 d3 d4 a1 a2 b1 b2 e1 e2
                go_wp2
                go_quiet (fail)
                go_wp2
                exact ⟨⟨i + 1, by omega, by go_num, by rw [RS.out, if_pos d], by rw [RS.out, if_pos d], by rw [RS.out, if_pos d], Qw.trans hb (Qw.drewN _ _)⟩, by simp [intOf]; omega⟩
              · have f1 : IntKind.i64.wrap (a - b / 2 ^ i) = Cm.lx i a b := IntWalk.i64_in _ (by omega)
                have f2 : IntKind.i64.wrap (b + a / 2 ^ i) = Cm.ly i a b := IntWalk.i64_in _ (by omega)
                have f3 : IntKind.i64.wrap (z - Cm.T i) = z - Cm.T i := IntWalk.i64_in _ (by omega)
                clear rs1 hx hy hzz bt d1 d2 d3 d4 a1 a2 b1 b2 e1 e2
                go_wp2
                go_quiet (fail)
                go_wp2
                exact ⟨⟨i + 1, by omega, by go_num, by rw [RS.out, if_neg (by omega)], by rw [RS.out, if_neg (by omega)], by rw [RS.out, if_neg (by omega)], Qw.trans hb (Qw.drewN _ _)⟩, by simp [intOf]; omega⟩
            · obtain rfl : i = 26 := by omega
              have ez := EZ.out.symm
              have td := TD.out
              have q1 := Qw.trans q0 hb
              clear hb q0
              go_wp2_with (first | (go_at_call 30; ((with_reducible refine (C4.out _).mono ?_); rintro e w' ⟨rfl, rfl⟩)) | (go_at_call 30; ((with_reducible refine (C5.out _).mono ?_); rintro e w' ⟨rfl, rfl⟩)))
              go_ret2
              exact ⟨rfl, q1⟩

theorem cr_angle (x y : Int) (w : World) :
    Calls Tryz.prog 88 #[.int .i64 x, .int .i64 y] w fun e w' => e = .returned (.tuple #[.int .i64 (Cm.angv x y), .bool (Cm.aok x y)]) ∧ Qw w w' := by
  by_cases h : (x = 0 ∧ y = 0) ∨ x < -1099511627776 ∨ 1099511627776 < x ∨ y < -1099511627776 ∨ 1099511627776 < y
  · obtain ⟨e1, e2⟩ := an_no h
    rw [e1, e2]
    exact (cr_angle_no x y h w).mono fun _ _ ⟨a, b⟩ => ⟨a, b ▸ Qw.refl _⟩
  · have ao := Cm.aok_t (x := x) (y := y) (by omega) (by omega) (by omega) (by omega) (by omega)
    have av : Cm.angv x y = ((Cm.qn x y : Int) * 90000000 + Cm.rr x y) % 360000000 := by unfold Cm.angv; rw [ao]; rfl
    rw [av, ao]
    exact cr_angle_yes x y (by omega) (by omega) (by omega) w

end Go.Proofs.YtkfipjlknfinpaaGreatDoor
