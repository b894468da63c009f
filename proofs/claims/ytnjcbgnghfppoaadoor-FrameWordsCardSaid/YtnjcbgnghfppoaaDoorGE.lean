import Derived.Test.YtnjcbgnghfppoaaDoorGD

/- The walks of the specification's small, near, turned and table, and of the laws' near. -/
set_option linter.unusedVariables false
set_option linter.unusedSimpArgs false
namespace Go.Proofs.YtnjcbgnghfppoaaDoor
open Go.RowKit

theorem cr_small (n : Int) (w : World) : Calls Tryd.prog 76 #[.int .i64 n] w fun e w' => e = .returned (.bool (!bey n 4194304)) ∧ w = w' := by
  unfold bey
  by_cases c : -4194304 ≤ n
  · have c' : decide (-4194304 ≤ n) = true := decide_eq_true c
    go_enter Tryd.func76, Tryd.ntmps76
    go_wp2
    go_ret
    refine ⟨ret_b ?_, rfl⟩
    rw [decide_eq_false (show ¬ n < -4194304 by omega)]
    by_cases d : n ≤ 4194304
    · rw [decide_eq_true d, decide_eq_false (show ¬ 4194304 < n by omega)]; rfl
    · rw [decide_eq_false d, decide_eq_true (show 4194304 < n by omega)]; rfl
  · have c' : decide (-4194304 ≤ n) = false := decide_eq_false c
    go_enter Tryd.func76, Tryd.ntmps76
    go_wp2
    go_ret
    refine ⟨ret_b ?_, rfl⟩
    first
      | rfl
      | (rw [decide_eq_true (show n < -4194304 by omega)]; rfl)

theorem cr_near (n : Int) (n1 : -9000000000000000000 ≤ n) (n2 : n ≤ 9000000000000000000) (w : World) :
    Calls Tryd.prog 78 #[.int .i64 n] w fun e w' => e = .returned (.int .i64 (rd n 1073741824)) ∧ w = w' := by
  go_enter Tryd.func78, Tryd.ntmps78
  go_wp2
  go_ret
  refine ⟨ret_n ?_, rfl⟩
  unfold rd
  first | rfl | (simp; done) | omega

theorem cr_turned (x y k : Int) (x1 : -4000000000000000000 ≤ x) (x2 : x ≤ 4000000000000000000) (y1 : -4000000000000000000 ≤ y) (y2 : y ≤ 4000000000000000000) (k0 : 0 ≤ k) (k1 : k ≤ 1000) (w : World) :
    Calls Tryd.prog 95 #[.int .i64 x, .int .i64 y, .int .i64 k] w fun e w' => e = .returned (.tuple #[.int .i64 (Cm.qt k.toNat (x, y)).1, .int .i64 (Cm.qt k.toNat (x, y)).2]) ∧ w = w' := by
  have QB := Lib.hid (fun j => qt_bd (x, y) j x1 x2 y1 y2)
  clear x1 x2 y1 y2
  go_enter Tryd.func95, Tryd.ntmps95
  go_wp2
  go_loop [0, 1, 8] (fun a b i => ∃ j : Nat, j ≤ k.toNat ∧ i = .int .i64 j ∧ a = .int .i64 (Cm.qt j (x, y)).1 ∧ b = .int .i64 (Cm.qt j (x, y)).2) (fun _ _ i => k.toNat - (intOf i).toNat)
  case atStart => exact ⟨0, by omega, rfl, rfl, rfl⟩
  case round =>
    obtain ⟨j, hj, rfl, rfl, rfl⟩ := hrel
    obtain ⟨a1, a2, b1, b2⟩ := QB.out j
    by_cases c : j < k.toNat
    · have s1 : (Cm.qt (j + 1) (x, y)).1 = -(Cm.qt j (x, y)).2 := rfl
      have s2 : (Cm.qt (j + 1) (x, y)).2 = (Cm.qt j (x, y)).1 := rfl
      have S1 := Lib.hid s1
      have S2 := Lib.hid s2
      clear s1 s2
      generalize (Cm.qt j (x, y)).1 = X at *
      generalize (Cm.qt j (x, y)).2 = Y at *
      have lt : (j : Int) < k := by omega
      go_wp2
      go_round
      case rel => exact ⟨j + 1, by omega, by go_num, by rw [S1.out], by rw [S2.out]⟩
      case measure => simp [intOf]; omega
    · obtain rfl : j = k.toNat := by omega
      have ge : ¬ ((k.toNat : Nat) : Int) < k := by omega
      go_wp2
      go_ret2
      exact ⟨rfl, rfl⟩

/-- The specification's table in block b. -/
def TabR (w : World) (b : Nat) : Prop := b < w.heap.size ∧ ∀ i : Nat, i < 26 → w.cell? ⟨b, i, none⟩ = some (.int .i64 (Cm.T i))
theorem TabR.kept {w w' : World} {b : Nat} (h : TabR w b) (q : Qw w w') : TabR w' b := ⟨Nat.lt_of_lt_of_le h.1 q.size, fun i hi => by
  have := q.cell (p := ⟨b, i, none⟩) h.1
  rw [this]; exact h.2 i hi⟩

theorem tab_cells (i : Nat) (hi : i < 26) : (Cm.tabT.map fun z => Value.int .i64 z).toArray[i]? = some (.int .i64 (Cm.T i)) := by
  have h : i < Cm.tabT.length := hi
  simp [Cm.T, List.getD, h]
theorem tab_cell (w : World) (i : Nat) (hi : i < 26) : (w.alloc (.cells (Cm.tabT.map fun z => Value.int .i64 z).toArray 3)).cell? ⟨w.heap.size, i, none⟩ = some (.int .i64 (Cm.T i)) := by
  have h := heap_alloc_new w (.cells (Cm.tabT.map fun z => Value.int .i64 z).toArray 3)
  have t := tab_cells i hi
  generalize (Cm.tabT.map fun z => Value.int .i64 z).toArray = cs at *
  unfold World.cell?
  simp only [h]
  exact t

theorem cr_table (w : World) : Calls Tryd.prog 94 #[] w fun e w' => e = .returned (.slice (some ⟨w.heap.size, 0, none⟩) 26 26) ∧ TabR w' w.heap.size ∧ Qw w w' := by
  go_enter Tryd.func94, Tryd.ntmps94
  go_wp2
  go_ret
  refine ⟨rfl, ?_, (Below.refl _ _).alloc (Nat.le_refl _) _⟩
  exact ⟨by simp, fun i hi => tab_cell w i hi⟩

end Go.Proofs.YtnjcbgnghfppoaaDoor

/- The walk of the specification's SinCos. -/
set_option linter.unusedVariables false
set_option linter.unusedSimpArgs false
namespace Go.Proofs.YtnjcbgnghfppoaaDoor
open Go.RowKit

set_option maxRecDepth 100000 in
set_option maxHeartbeats 1000000 in
theorem cr_sincos (a : Int) (a1 : -9223372036854775808 ≤ a) (a2 : a ≤ 9223372036854775807) (w : World) :
    Calls Tryd.prog 77 #[.int .i64 a] w fun e w' => e = .returned (.tuple #[.int .i64 (Cm.sc a).2, .int .i64 (Cm.sc a).1]) ∧ Qw w w' := by
  obtain ⟨k0, k1, r0, r1, kr⟩ := Cm.kk_bd a
  have bb := bs_bd (Cm.rest a) r0 (by omega)
  have ek : (a % 360000000 + 45000000) / 90000000 = Cm.kk a := rfl
  have er : a % 360000000 - Cm.kk a * 90000000 = Cm.rest a := rfl
  have es : Cm.sc a = Cm.qt (Cm.kk a).toNat (Cm.bs (Cm.rest a)) := rfl
  rw [es]
  have b0 : 0 ≤ a % 360000000 := by omega
  have b1 : a % 360000000 < 360000000 := by omega
  have c1 := fun w => modW a 360000000 a1 a2 (by decide) (by decide) w
  generalize a % 360000000 = R at *
  have C1 := Lib.hid c1
  clear c1 es kr
  generalize Cm.kk a = k at *
  have z0 : Cm.rest a = 0 → (Cm.bs (Cm.rest a)).1 = 1073741824 ∧ (Cm.bs (Cm.rest a)).2 = 0 := fun h => by rw [h]; exact ⟨rfl, rfl⟩
  have z1 : Cm.rest a ≠ 0 → (Cm.rs (Cm.rest a) 26).1 = (Cm.bs (Cm.rest a)).1 ∧ (Cm.rs (Cm.rest a) 26).2.1 = (Cm.bs (Cm.rest a)).2 := fun h => by unfold Cm.bs; rw [if_neg h]; exact ⟨rfl, rfl⟩
  generalize Cm.rest a = r at *
  have ct := fun x y x1 x2 y1 y2 w => cr_turned x y k x1 x2 y1 y2 k0 (by omega) w
  obtain ⟨p, hp⟩ : ∃ p, Cm.bs r = p := ⟨_, rfl⟩
  rw [hp] at z0 z1 bb ⊢
  clear hp
  obtain ⟨p1, p2⟩ := p
  dsimp only at z0 z1 bb
  have c2 := fun w => ct p1 p2 bb.1 bb.2.1 bb.2.2.1 bb.2.2.2 w
  clear a1 a2 bb ct
  have C2 := Lib.hid c2
  have q0 := Qw.refl w
  clear c2
  by_cases c : r = 0
  · obtain ⟨rfl, rfl⟩ := z0 c
    have c' : (r != 0) = false := by rw [c]; rfl
    clear z0 z1 c
    go_enter Tryd.func77, Tryd.ntmps77
    go_wp2_with (first | (go_at_call 15; ((with_reducible refine (C1.out _).mono ?_); rintro e w' ⟨rfl, rfl⟩)) | (go_at_call 95; ((with_reducible refine (C2.out _).mono ?_); rintro e w' ⟨rfl, rfl⟩)))
    go_ret2
    exact ⟨rfl, q0⟩
  · have Z1 := Lib.hid (z1 c)
    have c' : (r != 0) = true := by rw [bne_iff_ne]; exact c
    clear z0 z1 c
    go_enter Tryd.func77, Tryd.ntmps77
    go_wp2_with (first | (go_at_call 15; ((with_reducible refine (C1.out _).mono ?_); rintro e w' ⟨rfl, rfl⟩)) | (go_at_call 94; ((with_reducible refine (cr_table _).mono ?_); rintro e w1 ⟨rfl, ht, h⟩; have HT := Lib.hid ht; clear ht; replace q0 := Qw.trans q0 h; clear h)))
    go_loopw [7, 8, 9, 11] (fun x y z i wr => ∃ k : Nat, k ≤ 26 ∧ i = .int .i64 k ∧ x = .int .i64 (Cm.rs r k).1 ∧ y = .int .i64 (Cm.rs r k).2.1 ∧ z = .int .i64 (Cm.rs r k).2.2 ∧ Qw w1 wr) (fun _ _ _ i _ => 26 - (intOf i).toNat)
    case atStart => exact ⟨0, by omega, rfl, rfl, rfl, rfl, Qw.refl _⟩
    case round =>
      obtain ⟨j, hj, rfl, rfl, rfl, rfl, hb⟩ := hrel
      by_cases c : j < 26
      · obtain ⟨a1, a2, b1, b2, e1, e2⟩ := Cm.rs_bd r r0 (by omega) j hj
        have rs1 := Cm.rs_succ r j
        have hc := (HT.out.kept hb).2 j c
        generalize hx : (Cm.rs r j).1 = x at *
        generalize hy : (Cm.rs r j).2.1 = y at *
        generalize hzz : (Cm.rs r j).2.2 = z at *
        obtain ⟨d1, d2⟩ := sh_bd y j b1 b2
        obtain ⟨d3, d4⟩ := sh_bd x j a1 a2
        have bt := Cm.bd_T j c
        have RS := Lib.hid rs1
        have j0 : (0 : Int) ≤ j := by omega
        have j1 : (j : Int) < 26 := by omega
        by_cases d : 0 ≤ z
        · have f1 : IntKind.i64.wrap (x - y / 2 ^ j) = Cm.lx j x y := IntWalk.i64_in _ (by omega)
          have f2 : IntKind.i64.wrap (y + x / 2 ^ j) = Cm.ly j x y := IntWalk.i64_in _ (by omega)
          have f3 : IntKind.i64.wrap (z - Cm.T j) = z - Cm.T j := IntWalk.i64_in _ (by omega)
          clear rs1 hx hy hzz bt d1 d2 d3 d4 a1 a2 b1 b2 e1 e2
          go_wp2
          go_quiet (fail)
          go_wp2
          exact ⟨⟨j + 1, by omega, by go_num, by rw [RS.out, if_pos d], by rw [RS.out, if_pos d], by rw [RS.out, if_pos d], Qw.trans hb (Qw.drewN _ _)⟩, by simp [intOf]; omega⟩
        · have f1 : IntKind.i64.wrap (x + y / 2 ^ j) = Cm.rx j x y := IntWalk.i64_in _ (by omega)
          have f2 : IntKind.i64.wrap (y - x / 2 ^ j) = Cm.ry j x y := IntWalk.i64_in _ (by omega)
          have f3 : IntKind.i64.wrap (z + Cm.T j) = z + Cm.T j := IntWalk.i64_in _ (by omega)
          clear rs1 hx hy hzz bt d1 d2 d3 d4 a1 a2 b1 b2 e1 e2
          go_wp2
          go_quiet (fail)
          go_wp2
          exact ⟨⟨j + 1, by omega, by go_num, by rw [RS.out, if_neg (by omega)], by rw [RS.out, if_neg (by omega)], by rw [RS.out, if_neg (by omega)], Qw.trans hb (Qw.drewN _ _)⟩, by simp [intOf]; omega⟩
      · obtain rfl : j = 26 := by omega
        obtain ⟨e1, e2⟩ := Z1.out
        have q1 := Qw.trans q0 hb
        clear hb q0
        go_wp2_with (go_at_call 95; ((with_reducible refine (C2.out _).mono ?_); rintro e w' ⟨rfl, rfl⟩))
        go_ret2
        exact ⟨rfl, q1⟩

end Go.Proofs.YtnjcbgnghfppoaaDoor

/- The walk of the specification's Rotate. -/
set_option linter.unusedVariables false
set_option linter.unusedSimpArgs false
namespace Go.Proofs.YtnjcbgnghfppoaaDoor
open Go.RowKit

set_option maxRecDepth 100000 in
set_option maxHeartbeats 1000000 in
theorem cr_rotate (x y a : Int) (a1 : -9223372036854775808 ≤ a) (a2 : a ≤ 9223372036854775807) (w : World) :
    Calls Tryd.prog 59 #[.int .i64 x, .int .i64 y, .int .i64 a] w fun e w' => e = .returned (.tuple #[.int .i64 (rotv x y a).1, .int .i64 (rotv x y a).2, .bool (rotok x y)]) ∧ Qw w w' := by
  have b1 := fun w => cr_small x w
  have b2 := fun w => cr_small y w
  have c3 := fun w => cr_sincos a a1 a2 w
  have q0 := Qw.refl w
  unfold rotv rotok
  clear a1 a2
  cases hx : bey x 4194304
  · cases hy : bey y 4194304
    · simp only [hx, Bool.not_false, Bool.not_true] at b1
      simp only [hy, Bool.not_false, Bool.not_true] at b2
      have sb := Cm.sc_bd a
      have s1 := Cm.nm_re sb
      have s2 := Cm.nm_im sb
      have xb : -4194304 ≤ x ∧ x ≤ 4194304 := by unfold bey at hx; simp at hx; omega
      have yb : -4194304 ≤ y ∧ y ≤ 4194304 := by unfold bey at hy; simp at hy; omega
      simp only [Bool.or_false, Bool.not_false, Bool.false_eq_true, if_false]
      generalize (Cm.sc a).1 = c at *
      generalize (Cm.sc a).2 = s at *
      obtain ⟨p1, p2⟩ := mul_bd xb.1 xb.2 s1.1 s1.2
      obtain ⟨p3, p4⟩ := mul_bd yb.1 yb.2 s2.1 s2.2
      obtain ⟨p5, p6⟩ := mul_bd xb.1 xb.2 s2.1 s2.2
      obtain ⟨p7, p8⟩ := mul_bd yb.1 yb.2 s1.1 s1.2
      clear sb s1 s2 xb yb hx hy
      have B1 := Lib.hid b1
      have B2 := Lib.hid b2
      have C3 := Lib.hid c3
      clear b1 b2 c3
      generalize e1 : x * c = P1 at *
      generalize e2 : y * s = P2 at *
      generalize e3 : x * s = P3 at *
      generalize e4 : y * c = P4 at *
      have n1 := fun w => cr_near (P1 - P2) (by omega) (by omega) w
      have n2 := fun w => cr_near (P3 + P4) (by omega) (by omega) w
      have N1 := Lib.hid n1
      have N2 := Lib.hid n2
      clear n1 n2
      generalize rd (P1 - P2) 1073741824 = R1 at *
      generalize rd (P3 + P4) 1073741824 = R2 at *
      go_enter Tryd.func59, Tryd.ntmps59
      go_wp2_with (first | (go_at_call 76; ((with_reducible refine (B1.out _).mono ?_); rintro e w' ⟨rfl, rfl⟩)) | (go_at_call 76; ((with_reducible refine (B2.out _).mono ?_); rintro e w' ⟨rfl, rfl⟩)) | (go_at_call 77; ((with_reducible refine (C3.out _).mono ?_); rintro e w' ⟨rfl, h⟩; replace q0 := Qw.trans q0 h; clear h)) | (go_at_call 78; ((with_reducible refine (N1.out _).mono ?_); rintro e w' ⟨rfl, rfl⟩)) | (go_at_call 78; ((with_reducible refine (N2.out _).mono ?_); rintro e w' ⟨rfl, rfl⟩)))
      go_ret3
      exact ⟨rfl, q0⟩
    · simp only [hx, Bool.not_false, Bool.not_true] at b1
      simp only [hy, Bool.not_false, Bool.not_true] at b2
      simp only [Bool.or_true, Bool.not_true, if_true]
      have B1 := Lib.hid b1
      have B2 := Lib.hid b2
      clear b1 b2 c3 hx hy
      go_enter Tryd.func59, Tryd.ntmps59
      go_wp2_with (first | (go_at_call 76; ((with_reducible refine (B1.out _).mono ?_); rintro e w' ⟨rfl, rfl⟩)) | (go_at_call 76; ((with_reducible refine (B2.out _).mono ?_); rintro e w' ⟨rfl, rfl⟩)))
      go_ret3
      exact ⟨rfl, q0⟩
  · simp only [hx, Bool.not_false, Bool.not_true] at b1
    simp only [Bool.true_or, Bool.not_true, if_true]
    have B1 := Lib.hid b1
    clear b1 b2 c3 hx
    go_enter Tryd.func59, Tryd.ntmps59
    go_wp2_with (go_at_call 76; ((with_reducible refine (B1.out _).mono ?_); rintro e w' ⟨rfl, rfl⟩))
    go_ret3
    exact ⟨rfl, q0⟩

end Go.Proofs.YtnjcbgnghfppoaaDoor
