
/- The walk of the specification's SinCos. -/
import Derived.Test.YtkkgjcjjjbikfaaDoorCrA
set_option linter.unusedVariables false
set_option linter.unusedSimpArgs false
namespace Go.Proofs.YtkkgjcjjjbikfaaDoor
open Go.RowKit

set_option maxRecDepth 100000 in
set_option maxHeartbeats 1000000 in
theorem cr_sincos (a : Int) (a1 : -9223372036854775808 ≤ a) (a2 : a ≤ 9223372036854775807) (w : World) :
    Calls Tryd.prog 15 #[.int .i64 a] w fun e w' => e = .returned (.tuple #[.int .i64 (Cm.sc a).2, .int .i64 (Cm.sc a).1]) ∧ Qw w w' := by
  obtain ⟨k0, k1, r0, r1, kr⟩ := Cm.kk_bd a
  have bb := bs_bd (Cm.rest a) r0 (by omega)
  have ek : (a % 360000000 + 45000000) / 90000000 = Cm.kk a := rfl
  have er : a % 360000000 - Cm.kk a * 90000000 = Cm.rest a := rfl
  have es : Cm.sc a = Cm.qt (Cm.kk a).toNat (Cm.bs (Cm.rest a)) := rfl
  rw [es]
  have b0 : 0 ≤ a % 360000000 := by omega
  have b1 : a % 360000000 < 360000000 := by omega
  have c1 := fun w => modW a 360000000 a1 a2 (by decide) (by decide) w
  generalize a % 360000000 = R at *
  have C1 := Lib.hid c1
  clear c1 es kr
  generalize Cm.kk a = k at *
  have z0 : Cm.rest a = 0 → (Cm.bs (Cm.rest a)).1 = 1073741824 ∧ (Cm.bs (Cm.rest a)).2 = 0 := fun h => by rw [h]; exact ⟨rfl, rfl⟩
  have z1 : Cm.rest a ≠ 0 → (Cm.rs (Cm.rest a) 26).1 = (Cm.bs (Cm.rest a)).1 ∧ (Cm.rs (Cm.rest a) 26).2.1 = (Cm.bs (Cm.rest a)).2 := fun h => by unfold Cm.bs; rw [if_neg h]; exact ⟨rfl, rfl⟩
  generalize Cm.rest a = r at *
  have ct := fun x y x1 x2 y1 y2 w => cr_turned x y k x1 x2 y1 y2 k0 (by omega) w
  obtain ⟨p, hp⟩ : ∃ p, Cm.bs r = p := ⟨_, rfl⟩
  rw [hp] at z0 z1 bb ⊢
  clear hp
  obtain ⟨p1, p2⟩ := p
  dsimp only at z0 z1 bb
  have c2 := fun w => ct p1 p2 bb.1 bb.2.1 bb.2.2.1 bb.2.2.2 w
  clear a1 a2 bb ct
  have C2 := Lib.hid c2
  have q0 := Qw.refl w
  clear c2
  by_cases c : r = 0
  · obtain ⟨rfl, rfl⟩ := z0 c
    have c' : (r != 0) = false := by rw [c]; rfl
    clear z0 z1 c
    go_enter Tryd.func15, Tryd.ntmps15
    go_wp2_with (first | (go_at_call 16; ((with_reducible refine (C1.out _).mono ?_); rintro e w' ⟨rfl, rfl⟩)) | (go_at_call 29; ((with_reducible refine (C2.out _).mono ?_); rintro e w' ⟨rfl, rfl⟩)))
    go_ret2
    exact ⟨rfl, q0⟩
  · have Z1 := Lib.hid (z1 c)
    have c' : (r != 0) = true := by rw [bne_iff_ne]; exact c
    clear z0 z1 c
    go_enter Tryd.func15, Tryd.ntmps15
    go_wp2_with (first | (go_at_call 16; ((with_reducible refine (C1.out _).mono ?_); rintro e w' ⟨rfl, rfl⟩)) | (go_at_call 28; ((with_reducible refine (cr_table _).mono ?_); rintro e w1 ⟨rfl, ht, h⟩; have HT := Lib.hid ht; clear ht; replace q0 := Qw.trans q0 h; clear h)))
    go_loopw [7, 8, 9, 11] (fun x y z i wr => ∃ k : Nat, k ≤ 26 ∧ i = .int .i64 k ∧ x = .int .i64 (Cm.rs r k).1 ∧ y = .int .i64 (Cm.rs r k).2.1 ∧ z = .int .i64 (Cm.rs r k).2.2 ∧ Qw w1 wr) (fun _ _ _ i _ => 26 - (intOf i).toNat)
    case atStart => exact ⟨0, by omega, rfl, rfl, rfl, rfl, Qw.refl _⟩
    case round =>
      obtain ⟨j, hj, rfl, rfl, rfl, rfl, hb⟩ := hrel
      by_cases c : j < 26
      · obtain ⟨a1, a2, b1, b2, e1, e2⟩ := Cm.rs_bd r r0 (by omega) j hj
        have rs1 := Cm.rs_succ r j
        have hc := (HT.out.kept hb).2 j c
        generalize hx : (Cm.rs r j).1 = x at *
        generalize hy : (Cm.rs r j).2.1 = y at *
        generalize hzz : (Cm.rs r j).2.2 = z at *
        obtain ⟨d1, d2⟩ := sh_bd y j b1 b2
        obtain ⟨d3, d4⟩ := sh_bd x j a1 a2
        have bt := Cm.bd_T j c
        have RS := Lib.hid rs1
        have j0 : (0 : Int) ≤ j := by omega
        have j1 : (j : Int) < 26 := by omega
        by_cases d : 0 ≤ z
        · have f1 : IntKind.i64.wrap (x - y / 2 ^ j) = Cm.lx j x y := IntWalk.i64_in _ (by omega)
          have f2 : IntKind.i64.wrap (y + x / 2 ^ j) = Cm.ly j x y := IntWalk.i64_in _ (by omega)
          have f3 : IntKind.i64.wrap (z - Cm.T j) = z - Cm.T j := IntWalk.i64_in _ (by omega)
          clear rs1 hx hy hzz bt d1 d2 d3 d4 a1 a2 b1 b2 e1 e2
          go_wp2
          go_quiet (fail)
          go_wp2
          exact ⟨⟨j + 1, by omega, by go_num, by rw [RS.out, if_pos d], by rw [RS.out, if_pos d], by rw [RS.out, if_pos d], Qw.trans hb (Qw.drewN _ _)⟩, by simp [intOf]; omega⟩
        · have f1 : IntKind.i64.wrap (x + y / 2 ^ j) = Cm.rx j x y := IntWalk.i64_in _ (by omega)
          have f2 : IntKind.i64.wrap (y - x / 2 ^ j) = Cm.ry j x y := IntWalk.i64_in _ (by omega)
          have f3 : IntKind.i64.wrap (z + Cm.T j) = z + Cm.T j := IntWalk.i64_in _ (by omega)
          clear rs1 hx hy hzz bt d1 d2 d3 d4 a1 a2 b1 b2 e1 e2
          go_wp2
          go_quiet (fail)
          go_wp2
          exact ⟨⟨j + 1, by omega, by go_num, by rw [RS.out, if_neg (by omega)], by rw [RS.out, if_neg (by omega)], by rw [RS.out, if_neg (by omega)], Qw.trans hb (Qw.drewN _ _)⟩, by simp [intOf]; omega⟩
      · obtain rfl : j = 26 := by omega
        obtain ⟨e1, e2⟩ := Z1.out
        have q1 := Qw.trans q0 hb
        clear hb q0
        go_wp2_with (go_at_call 29; ((with_reducible refine (C2.out _).mono ?_); rintro e w' ⟨rfl, rfl⟩))
        go_ret2
        exact ⟨rfl, q1⟩

end Go.Proofs.YtkkgjcjjjbikfaaDoor
