import Derived.Test.YtnjcbgnghfppoaaDoorGN
import Derived.Test.YtnjcbgnghfppoaaDoorGMa
import Derived.Test.YtnjcbgnghfppoaaDoorGKb
import Derived.Test.YtnjcbgnghfppoaaDoorGE

/- The walks of the specification of frames: Valid, Origin, turned. -/
set_option linter.unusedVariables false
set_option linter.unusedSimpArgs false
namespace Go.Proofs.YtnjcbgnghfppoaaDoor
open Go.RowKit

set_option maxRecDepth 100000 in
set_option maxHeartbeats 8000000 in
theorem rfOrigin (f : Fm.F) (hg : Fm.Gd f) (w : World) : Calls Tryd.prog 19 #[.agg (frc f)] w fun e w' => e = .returned (.agg #[.int .i64 (Fm.ox f), .int .i64 (Fm.oy f), .int .i64 (Fm.oz f)]) ∧ Qw w w' := by
  have key : ∀ k : Nat, k < 6 → f.n = 54 + (k : Int) → Calls Tryd.prog 19 #[.agg (frc f)] w fun e w' => e = .returned (.agg #[.int .i64 (f.c (3 * k) + f.lx + f.sx), .int .i64 (f.c (3 * k + 1) + f.ly + f.sy), .int .i64 (f.c (3 * k + 2) + f.lz + f.sz + f.g)]) ∧ Qw w w' := by
    intro k hk hn
    have b0 := hg.c (3 * k) (by omega)
    have b1 := hg.c (3 * k + 1) (by omega)
    have b2 := hg.c (3 * k + 2) (by omega)
    obtain ⟨l1, l2⟩ := hg.lx
    obtain ⟨l3, l4⟩ := hg.ly
    obtain ⟨l5, l6⟩ := hg.lz
    obtain ⟨l7, l8⟩ := hg.sx
    obtain ⟨l9, la⟩ := hg.sy
    obtain ⟨lb, lc⟩ := hg.sz
    obtain ⟨ld, le⟩ := hg.g
    clear hg
    obtain ⟨X0, e0⟩ : ∃ z, z = f.c (3 * k) := ⟨_, rfl⟩
    obtain ⟨Y0, e1⟩ : ∃ z, z = f.c (3 * k + 1) := ⟨_, rfl⟩
    obtain ⟨Z0, e2⟩ : ∃ z, z = f.c (3 * k + 2) := ⟨_, rfl⟩
    rw [← e0, ← e1, ← e2]
    rw [← e0] at b0
    rw [← e1] at b1
    rw [← e2] at b2
    obtain ⟨b3, b4⟩ := b0
    obtain ⟨b5, b6⟩ := b1
    obtain ⟨b7, b8⟩ := b2
    have AD1 := Lib.hid (fun w => vr_add X0 Y0 Z0 f.lx f.ly f.lz (by omega) (by omega) (by omega) (by omega) (by omega) (by omega) (by omega) (by omega) (by omega) (by omega) (by omega) (by omega) w)
    have AD2 := Lib.hid (fun w => vr_add (X0 + f.lx) (Y0 + f.ly) (Z0 + f.lz) f.sx f.sy f.sz (by omega) (by omega) (by omega) (by omega) (by omega) (by omega) (by omega) (by omega) (by omega) (by omega) (by omega) (by omega) w)
    have E := Lib.hid (And.intro hk (And.intro hn (And.intro e0 (And.intro e1 e2))))
    clear hn e0 e1 e2 hk
    go_enter Tryd.func19, Tryd.ntmps19
    go_upto_region 1 with (refine box_fr 0 rfl ?_; intro w0 P hp X q; have X0 := Lib.hid X; have Q0 := Lib.hid q; clear X q)
    refine code_of (fun w' => Bx w' P (frc f) FT ∧ Bx w' w0.heap.size #[.int .i64 0, .int .i64 0, .int .i64 0] 23 ∧ Qw w w') ⟨X0.out.alloc _, Bx.new _ _ _, Qw.al Q0.out _⟩ ?_
    have hR : w.heap.size ≤ w0.heap.size := Q0.out.size
    clear X0 Q0 hp
    generalize w0.heap.size = R at *
    rintro w1 ⟨F, RR, q1⟩
    have FX := Lib.hid (fun (w' : World) (q : Qw w1 w') => F.kept q)
    have RX := Lib.hid (fun (w' : World) (q : Qw w1 w') => RR.kept q)
    have Q1 := Lib.hid q1
    clear F RR q1
    go_cut [3] (fun pv wx => ∃ N : Nat, pv = .pointer (some ⟨N, 0, none⟩) ∧ w1.heap.size ≤ N ∧ Hid (Bx wx N #[.int .i64 (X0 + f.lx + f.sx), .int .i64 (Y0 + f.ly + f.sy), .int .i64 (Z0 + f.lz + f.sz)] 23) ∧ Hid (Qw w1 wx))
    case first =>
      obtain ⟨hk, hn, e0, e1, e2⟩ := E.out
      have hk6 : k = 0 ∨ k = 1 ∨ k = 2 ∨ k = 3 ∨ k = 4 ∨ k = 5 := by omega
      clear E hk
      rcases hk6 with rfl | rfl | rfl | rfl | rfl | rfl
      · have G18 : Hid ((frc f)[18]? = some (.int .i64 54)) := Lib.hid (by show some (Value.int .i64 f.n) = _; rw [hn]; rfl)
        have G0 : Hid ((frc f)[0]? = some (.int .i64 X0)) := Lib.hid (by rw [e0]; rfl)
        have G1 : Hid ((frc f)[1]? = some (.int .i64 Y0)) := Lib.hid (by rw [e1]; rfl)
        have G2 : Hid ((frc f)[2]? = some (.int .i64 Z0)) := Lib.hid (by rw [e2]; rfl)
        have WK : Hid (IntKind.i64.wrap 0 = 0) := Lib.hid (IntWalk.i64_in _ (by decide))
        clear hn e0 e1 e2
        refine wp_region_M (fun wS => Qw w1 wS) 13 (by kernel_rfl) ?_
        have hSS : Qw w1 (World.drew w1) := qw_drew1 w1
        generalize World.drew w1 = wd at *
        refine wpAnyM_take (i := 0) (v := ?_) rfl (by kernel_rfl) (fun _ _ _ h => h) (Or.inl ⟨by rfl, ?_⟩) hSS ?_
        rotate_left 1
        · intro wS hwS
          go_simp
          try with_reducible rfl
        simp only [List.getElem_toArray, List.getElem_cons_succ, List.getElem_cons_zero, Act.put, List.setIfInBounds_toArray, List.set_cons_zero, List.set_cons_succ]
        refine wpAnyM_take (i := 1) (v := ?_) rfl (by kernel_rfl) (fun _ _ _ h => h) (Or.inl ⟨by rfl, ?_⟩) hSS ?_
        rotate_left 1
        · intro wS hwS
          have y := (FX.out wS hwS).cell' 18 (.int .i64 54) G18.out; go_simp
          try with_reducible rfl
        simp only [List.getElem_toArray, List.getElem_cons_succ, List.getElem_cons_zero, Act.put, List.setIfInBounds_toArray, List.set_cons_zero, List.set_cons_succ]
        refine wpAnyM_take (i := 2) (v := ?_) rfl (by kernel_rfl) (fun _ _ _ h => h) (Or.inl ⟨by rfl, ?_⟩) hSS ?_
        rotate_left 1
        · intro wS hwS
          have ew := WK.out; go_simp
          try with_reducible rfl
        simp only [List.getElem_toArray, List.getElem_cons_succ, List.getElem_cons_zero, Act.put, List.setIfInBounds_toArray, List.set_cons_zero, List.set_cons_succ]
        refine wpAnyM_take (i := 3) (v := ?_) rfl (by kernel_rfl) (fun _ _ _ h => h) (Or.inl ⟨by rfl, ?_⟩) hSS ?_
        rotate_left 1
        · intro wS hwS
          go_simp
          try with_reducible rfl
        simp only [List.getElem_toArray, List.getElem_cons_succ, List.getElem_cons_zero, Act.put, List.setIfInBounds_toArray, List.set_cons_zero, List.set_cons_succ]
        refine wpAnyM_take (i := 4) (v := ?_) rfl (by kernel_rfl) (fun _ _ _ h => h) (Or.inl ⟨by rfl, ?_⟩) hSS ?_
        rotate_left 1
        · intro wS hwS
          have ew := WK.out; go_simp
          try with_reducible rfl
        simp only [List.getElem_toArray, List.getElem_cons_succ, List.getElem_cons_zero, Act.put, List.setIfInBounds_toArray, List.set_cons_zero, List.set_cons_succ]
        refine wpAnyM_take (i := 5) (v := ?_) rfl (by kernel_rfl) (fun _ _ _ h => h) (Or.inl ⟨by rfl, ?_⟩) hSS ?_
        rotate_left 1
        · intro wS hwS
          have y0 := (FX.out wS hwS).cell' 0 (.int .i64 X0) G0.out; have y1 := (FX.out wS hwS).cell' 1 (.int .i64 Y0) G1.out; have y2 := (FX.out wS hwS).cell' 2 (.int .i64 Z0) G2.out; go_simp
          try with_reducible rfl
        simp only [List.getElem_toArray, List.getElem_cons_succ, List.getElem_cons_zero, Act.put, List.setIfInBounds_toArray, List.set_cons_zero, List.set_cons_succ]
        refine wpAnyM_take (i := 6) (v := ?_) rfl (by kernel_rfl) (fun _ _ _ h => h) (Or.inl ⟨by rfl, ?_⟩) hSS ?_
        rotate_left 1
        · intro wS hwS
          go_simp
          try with_reducible rfl
        simp only [List.getElem_toArray, List.getElem_cons_succ, List.getElem_cons_zero, Act.put, List.setIfInBounds_toArray, List.set_cons_zero, List.set_cons_succ]
        refine wpAnyM_take (i := 7) (v := ?_) rfl (by kernel_rfl) (fun _ _ _ h => h) (Or.inl ⟨by rfl, ?_⟩) hSS ?_
        rotate_left 1
        · intro wS hwS
          have y0 := (FX.out wS hwS).cell' 19 (.int .i64 f.lx) rfl; have y1 := (FX.out wS hwS).cell' 20 (.int .i64 f.ly) rfl; have y2 := (FX.out wS hwS).cell' 21 (.int .i64 f.lz) rfl; go_simp
          try with_reducible rfl
        simp only [List.getElem_toArray, List.getElem_cons_succ, List.getElem_cons_zero, Act.put, List.setIfInBounds_toArray, List.set_cons_zero, List.set_cons_succ]
        refine wpAnyM_take (i := 9) (v := ?_) rfl (by kernel_rfl) (fun _ _ _ h => h) (Or.inl ⟨by rfl, ?_⟩) hSS ?_
        rotate_left 1
        · intro wS hwS
          go_simp
          try with_reducible rfl
        simp only [List.getElem_toArray, List.getElem_cons_succ, List.getElem_cons_zero, Act.put, List.setIfInBounds_toArray, List.set_cons_zero, List.set_cons_succ]
        refine wpAnyM_take (i := 10) (v := ?_) rfl (by kernel_rfl) (fun _ _ _ h => h) (Or.inl ⟨by rfl, ?_⟩) hSS ?_
        rotate_left 1
        · intro wS hwS
          have y0 := (FX.out wS hwS).cell' 22 (.int .i64 f.sx) rfl; have y1 := (FX.out wS hwS).cell' 23 (.int .i64 f.sy) rfl; have y2 := (FX.out wS hwS).cell' 24 (.int .i64 f.sz) rfl; go_simp
          try with_reducible rfl
        simp only [List.getElem_toArray, List.getElem_cons_succ, List.getElem_cons_zero, Act.put, List.setIfInBounds_toArray, List.set_cons_zero, List.set_cons_succ]
        refine wpAnyM_two (i := 8) (j := 12) rfl rfl (by kernel_rfl) rfl rfl (fun K hK => ?_) (fun K hK => ?_)
        · go_simp
          refine (AD1.out _).mono ?_
          rintro e w5 ⟨rfl, m⟩
          have m2 := Qw.trans hSS m
          refine hK _ _ (fun _ => m2) ?_
          clear hK K hSS m
          have hSS := m2
          clear m2
          try simp only [List.getElem_toArray, List.getElem_cons_succ, List.getElem_cons_zero, Act.put, List.setIfInBounds_toArray, List.set_cons_zero, List.set_cons_succ]
          refine wpAnyM_two (i := 11) (j := 12) rfl rfl (by kernel_rfl) rfl rfl (fun K hK => ?_) (fun K hK => ?_)
          · go_simp
            refine (AD2.out _).mono ?_
            rintro e w6 ⟨rfl, m⟩
            have m2 := Qw.trans hSS m
            refine hK _ _ (fun _ => m2) ?_
            clear hK K hSS m
            have hSS := m2
            clear m2
            try simp only [List.getElem_toArray, List.getElem_cons_succ, List.getElem_cons_zero, Act.put, List.setIfInBounds_toArray, List.set_cons_zero, List.set_cons_succ]
            refine wpAnyM_one (i := 12) rfl (by kernel_rfl) rfl (fun K hK => ?_)
            go_simp
            refine hK _ _ (fun _ => Qw.al hSS _) ?_
            obtain ⟨wn, N, en, eN, hN, m2, Z, mm⟩ := al_named hSS #[.int .i64 0, .int .i64 0, .int .i64 0] 23
            rw [en, eN]
            replace Z := Lib.hid Z
            clear hK K hSS en eN mm
            have hSS := m2
            clear m2
            try simp only [List.getElem_toArray, List.getElem_cons_succ, List.getElem_cons_zero, Act.put, List.setIfInBounds_toArray, List.set_cons_zero, List.set_cons_succ]
            refine wpAnyM_one (i := 13) rfl (by kernel_rfl) rfl (fun K hK => ?_)
            have z0 := Z.out.cell' 0 (.int .i64 0) rfl
            have z1 := Z.out.cell' 1 (.int .i64 0) rfl
            have z2 := Z.out.cell' 2 (.int .i64 0) rfl
            have y0 := Z.out.free 0
            have y1 := Z.out.free 1
            have y2 := Z.out.free 2
            go_simp
            have hZ := Z.out.st3 (.int .i64 (X0 + f.lx + f.sx)) (.int .i64 (Y0 + f.ly + f.sy)) (.int .i64 (Z0 + f.lz + f.sz))
            have m2 := Qw.st3 hSS hN (.int .i64 (X0 + f.lx + f.sx)) (.int .i64 (Y0 + f.ly + f.sy)) (.int .i64 (Z0 + f.lz + f.sz))
            refine hK _ _ (fun h => absurd h (by decide)) ?_
            clear hK K hSS z0 z1 z2 y0 y1 y2
            try simp only [List.getElem_toArray, List.getElem_cons_succ, List.getElem_cons_zero, Act.put, List.setIfInBounds_toArray, List.set_cons_zero, List.set_cons_succ]
            refine wpAnyM_done (by kernel_rfl) ?_ _
            go_wp2
            go_meet
            exact ⟨_, rfl, hN, Lib.hid hZ, Lib.hid m2⟩
          · go_simp
            refine hK _ _ (fun _ => Qw.al hSS _) ?_
            obtain ⟨wn, N, en, eN, hN, m2, Z, mm⟩ := al_named hSS #[.int .i64 0, .int .i64 0, .int .i64 0] 23
            rw [en, eN]
            replace Z := Lib.hid Z
            clear hK K hSS en eN mm
            have hSS := m2
            clear m2
            try simp only [List.getElem_toArray, List.getElem_cons_succ, List.getElem_cons_zero, Act.put, List.setIfInBounds_toArray, List.set_cons_zero, List.set_cons_succ]
            refine wpAnyM_one (i := 11) rfl (by kernel_rfl) rfl (fun K hK => ?_)
            go_simp
            refine (AD2.out _).mono ?_
            rintro e w6 ⟨rfl, m⟩
            have Z2 := Lib.hid (Z.out.kept m)
            clear Z
            have Z := Z2
            clear Z2
            have m2 := Qw.trans hSS m
            refine hK _ _ (fun _ => m2) ?_
            clear hK K hSS m
            have hSS := m2
            clear m2
            try simp only [List.getElem_toArray, List.getElem_cons_succ, List.getElem_cons_zero, Act.put, List.setIfInBounds_toArray, List.set_cons_zero, List.set_cons_succ]
            refine wpAnyM_one (i := 13) rfl (by kernel_rfl) rfl (fun K hK => ?_)
            have z0 := Z.out.cell' 0 (.int .i64 0) rfl
            have z1 := Z.out.cell' 1 (.int .i64 0) rfl
            have z2 := Z.out.cell' 2 (.int .i64 0) rfl
            have y0 := Z.out.free 0
            have y1 := Z.out.free 1
            have y2 := Z.out.free 2
            go_simp
            have hZ := Z.out.st3 (.int .i64 (X0 + f.lx + f.sx)) (.int .i64 (Y0 + f.ly + f.sy)) (.int .i64 (Z0 + f.lz + f.sz))
            have m2 := Qw.st3 hSS hN (.int .i64 (X0 + f.lx + f.sx)) (.int .i64 (Y0 + f.ly + f.sy)) (.int .i64 (Z0 + f.lz + f.sz))
            refine hK _ _ (fun h => absurd h (by decide)) ?_
            clear hK K hSS z0 z1 z2 y0 y1 y2
            try simp only [List.getElem_toArray, List.getElem_cons_succ, List.getElem_cons_zero, Act.put, List.setIfInBounds_toArray, List.set_cons_zero, List.set_cons_succ]
            refine wpAnyM_done (by kernel_rfl) ?_ _
            go_wp2
            go_meet
            exact ⟨_, rfl, hN, Lib.hid hZ, Lib.hid m2⟩
        · go_simp
          refine hK _ _ (fun _ => Qw.al hSS _) ?_
          obtain ⟨wn, N, en, eN, hN, m2, Z, mm⟩ := al_named hSS #[.int .i64 0, .int .i64 0, .int .i64 0] 23
          rw [en, eN]
          replace Z := Lib.hid Z
          clear hK K hSS en eN mm
          have hSS := m2
          clear m2
          try simp only [List.getElem_toArray, List.getElem_cons_succ, List.getElem_cons_zero, Act.put, List.setIfInBounds_toArray, List.set_cons_zero, List.set_cons_succ]
          refine wpAnyM_one (i := 8) rfl (by kernel_rfl) rfl (fun K hK => ?_)
          go_simp
          refine (AD1.out _).mono ?_
          rintro e w5 ⟨rfl, m⟩
          have Z2 := Lib.hid (Z.out.kept m)
          clear Z
          have Z := Z2
          clear Z2
          have m2 := Qw.trans hSS m
          refine hK _ _ (fun _ => m2) ?_
          clear hK K hSS m
          have hSS := m2
          clear m2
          try simp only [List.getElem_toArray, List.getElem_cons_succ, List.getElem_cons_zero, Act.put, List.setIfInBounds_toArray, List.set_cons_zero, List.set_cons_succ]
          refine wpAnyM_one (i := 11) rfl (by kernel_rfl) rfl (fun K hK => ?_)
          go_simp
          refine (AD2.out _).mono ?_
          rintro e w6 ⟨rfl, m⟩
          have Z2 := Lib.hid (Z.out.kept m)
          clear Z
          have Z := Z2
          clear Z2
          have m2 := Qw.trans hSS m
          refine hK _ _ (fun _ => m2) ?_
          clear hK K hSS m
          have hSS := m2
          clear m2
          try simp only [List.getElem_toArray, List.getElem_cons_succ, List.getElem_cons_zero, Act.put, List.setIfInBounds_toArray, List.set_cons_zero, List.set_cons_succ]
          refine wpAnyM_one (i := 13) rfl (by kernel_rfl) rfl (fun K hK => ?_)
          have z0 := Z.out.cell' 0 (.int .i64 0) rfl
          have z1 := Z.out.cell' 1 (.int .i64 0) rfl
          have z2 := Z.out.cell' 2 (.int .i64 0) rfl
          have y0 := Z.out.free 0
          have y1 := Z.out.free 1
          have y2 := Z.out.free 2
          go_simp
          have hZ := Z.out.st3 (.int .i64 (X0 + f.lx + f.sx)) (.int .i64 (Y0 + f.ly + f.sy)) (.int .i64 (Z0 + f.lz + f.sz))
          have m2 := Qw.st3 hSS hN (.int .i64 (X0 + f.lx + f.sx)) (.int .i64 (Y0 + f.ly + f.sy)) (.int .i64 (Z0 + f.lz + f.sz))
          refine hK _ _ (fun h => absurd h (by decide)) ?_
          clear hK K hSS z0 z1 z2 y0 y1 y2
          try simp only [List.getElem_toArray, List.getElem_cons_succ, List.getElem_cons_zero, Act.put, List.setIfInBounds_toArray, List.set_cons_zero, List.set_cons_succ]
          refine wpAnyM_done (by kernel_rfl) ?_ _
          go_wp2
          go_meet
          exact ⟨_, rfl, hN, Lib.hid hZ, Lib.hid m2⟩
      · have G18 : Hid ((frc f)[18]? = some (.int .i64 55)) := Lib.hid (by show some (Value.int .i64 f.n) = _; rw [hn]; rfl)
        have G0 : Hid ((frc f)[3]? = some (.int .i64 X0)) := Lib.hid (by rw [e0]; rfl)
        have G1 : Hid ((frc f)[4]? = some (.int .i64 Y0)) := Lib.hid (by rw [e1]; rfl)
        have G2 : Hid ((frc f)[5]? = some (.int .i64 Z0)) := Lib.hid (by rw [e2]; rfl)
        have WK : Hid (IntKind.i64.wrap 1 = 1) := Lib.hid (IntWalk.i64_in _ (by decide))
        clear hn e0 e1 e2
        refine wp_region_M (fun wS => Qw w1 wS) 13 (by kernel_rfl) ?_
        have hSS : Qw w1 (World.drew w1) := qw_drew1 w1
        generalize World.drew w1 = wd at *
        refine wpAnyM_take (i := 0) (v := ?_) rfl (by kernel_rfl) (fun _ _ _ h => h) (Or.inl ⟨by rfl, ?_⟩) hSS ?_
        rotate_left 1
        · intro wS hwS
          go_simp
          try with_reducible rfl
        simp only [List.getElem_toArray, List.getElem_cons_succ, List.getElem_cons_zero, Act.put, List.setIfInBounds_toArray, List.set_cons_zero, List.set_cons_succ]
        refine wpAnyM_take (i := 1) (v := ?_) rfl (by kernel_rfl) (fun _ _ _ h => h) (Or.inl ⟨by rfl, ?_⟩) hSS ?_
        rotate_left 1
        · intro wS hwS
          have y := (FX.out wS hwS).cell' 18 (.int .i64 55) G18.out; go_simp
          try with_reducible rfl
        simp only [List.getElem_toArray, List.getElem_cons_succ, List.getElem_cons_zero, Act.put, List.setIfInBounds_toArray, List.set_cons_zero, List.set_cons_succ]
        refine wpAnyM_take (i := 2) (v := ?_) rfl (by kernel_rfl) (fun _ _ _ h => h) (Or.inl ⟨by rfl, ?_⟩) hSS ?_
        rotate_left 1
        · intro wS hwS
          have ew := WK.out; go_simp
          try with_reducible rfl
        simp only [List.getElem_toArray, List.getElem_cons_succ, List.getElem_cons_zero, Act.put, List.setIfInBounds_toArray, List.set_cons_zero, List.set_cons_succ]
        refine wpAnyM_take (i := 3) (v := ?_) rfl (by kernel_rfl) (fun _ _ _ h => h) (Or.inl ⟨by rfl, ?_⟩) hSS ?_
        rotate_left 1
        · intro wS hwS
          go_simp
          try with_reducible rfl
        simp only [List.getElem_toArray, List.getElem_cons_succ, List.getElem_cons_zero, Act.put, List.setIfInBounds_toArray, List.set_cons_zero, List.set_cons_succ]
        refine wpAnyM_take (i := 4) (v := ?_) rfl (by kernel_rfl) (fun _ _ _ h => h) (Or.inl ⟨by rfl, ?_⟩) hSS ?_
        rotate_left 1
        · intro wS hwS
          have ew := WK.out; go_simp
          try with_reducible rfl
        simp only [List.getElem_toArray, List.getElem_cons_succ, List.getElem_cons_zero, Act.put, List.setIfInBounds_toArray, List.set_cons_zero, List.set_cons_succ]
        refine wpAnyM_take (i := 5) (v := ?_) rfl (by kernel_rfl) (fun _ _ _ h => h) (Or.inl ⟨by rfl, ?_⟩) hSS ?_
        rotate_left 1
        · intro wS hwS
          have y0 := (FX.out wS hwS).cell' 3 (.int .i64 X0) G0.out; have y1 := (FX.out wS hwS).cell' 4 (.int .i64 Y0) G1.out; have y2 := (FX.out wS hwS).cell' 5 (.int .i64 Z0) G2.out; go_simp
          try with_reducible rfl
        simp only [List.getElem_toArray, List.getElem_cons_succ, List.getElem_cons_zero, Act.put, List.setIfInBounds_toArray, List.set_cons_zero, List.set_cons_succ]
        refine wpAnyM_take (i := 6) (v := ?_) rfl (by kernel_rfl) (fun _ _ _ h => h) (Or.inl ⟨by rfl, ?_⟩) hSS ?_
        rotate_left 1
        · intro wS hwS
          go_simp
          try with_reducible rfl
        simp only [List.getElem_toArray, List.getElem_cons_succ, List.getElem_cons_zero, Act.put, List.setIfInBounds_toArray, List.set_cons_zero, List.set_cons_succ]
        refine wpAnyM_take (i := 7) (v := ?_) rfl (by kernel_rfl) (fun _ _ _ h => h) (Or.inl ⟨by rfl, ?_⟩) hSS ?_
        rotate_left 1
        · intro wS hwS
          have y0 := (FX.out wS hwS).cell' 19 (.int .i64 f.lx) rfl; have y1 := (FX.out wS hwS).cell' 20 (.int .i64 f.ly) rfl; have y2 := (FX.out wS hwS).cell' 21 (.int .i64 f.lz) rfl; go_simp
          try with_reducible rfl
        simp only [List.getElem_toArray, List.getElem_cons_succ, List.getElem_cons_zero, Act.put, List.setIfInBounds_toArray, List.set_cons_zero, List.set_cons_succ]
        refine wpAnyM_take (i := 9) (v := ?_) rfl (by kernel_rfl) (fun _ _ _ h => h) (Or.inl ⟨by rfl, ?_⟩) hSS ?_
        rotate_left 1
        · intro wS hwS
          go_simp
          try with_reducible rfl
        simp only [List.getElem_toArray, List.getElem_cons_succ, List.getElem_cons_zero, Act.put, List.setIfInBounds_toArray, List.set_cons_zero, List.set_cons_succ]
        refine wpAnyM_take (i := 10) (v := ?_) rfl (by kernel_rfl) (fun _ _ _ h => h) (Or.inl ⟨by rfl, ?_⟩) hSS ?_
        rotate_left 1
        · intro wS hwS
          have y0 := (FX.out wS hwS).cell' 22 (.int .i64 f.sx) rfl; have y1 := (FX.out wS hwS).cell' 23 (.int .i64 f.sy) rfl; have y2 := (FX.out wS hwS).cell' 24 (.int .i64 f.sz) rfl; go_simp
          try with_reducible rfl
        simp only [List.getElem_toArray, List.getElem_cons_succ, List.getElem_cons_zero, Act.put, List.setIfInBounds_toArray, List.set_cons_zero, List.set_cons_succ]
        refine wpAnyM_two (i := 8) (j := 12) rfl rfl (by kernel_rfl) rfl rfl (fun K hK => ?_) (fun K hK => ?_)
        · go_simp
          refine (AD1.out _).mono ?_
          rintro e w5 ⟨rfl, m⟩
          have m2 := Qw.trans hSS m
          refine hK _ _ (fun _ => m2) ?_
          clear hK K hSS m
          have hSS := m2
          clear m2
          try simp only [List.getElem_toArray, List.getElem_cons_succ, List.getElem_cons_zero, Act.put, List.setIfInBounds_toArray, List.set_cons_zero, List.set_cons_succ]
          refine wpAnyM_two (i := 11) (j := 12) rfl rfl (by kernel_rfl) rfl rfl (fun K hK => ?_) (fun K hK => ?_)
          · go_simp
            refine (AD2.out _).mono ?_
            rintro e w6 ⟨rfl, m⟩
            have m2 := Qw.trans hSS m
            refine hK _ _ (fun _ => m2) ?_
            clear hK K hSS m
            have hSS := m2
            clear m2
            try simp only [List.getElem_toArray, List.getElem_cons_succ, List.getElem_cons_zero, Act.put, List.setIfInBounds_toArray, List.set_cons_zero, List.set_cons_succ]
            refine wpAnyM_one (i := 12) rfl (by kernel_rfl) rfl (fun K hK => ?_)
            go_simp
            refine hK _ _ (fun _ => Qw.al hSS _) ?_
            obtain ⟨wn, N, en, eN, hN, m2, Z, mm⟩ := al_named hSS #[.int .i64 0, .int .i64 0, .int .i64 0] 23
            rw [en, eN]
            replace Z := Lib.hid Z
            clear hK K hSS en eN mm
            have hSS := m2
            clear m2
            try simp only [List.getElem_toArray, List.getElem_cons_succ, List.getElem_cons_zero, Act.put, List.setIfInBounds_toArray, List.set_cons_zero, List.set_cons_succ]
            refine wpAnyM_one (i := 13) rfl (by kernel_rfl) rfl (fun K hK => ?_)
            have z0 := Z.out.cell' 0 (.int .i64 0) rfl
            have z1 := Z.out.cell' 1 (.int .i64 0) rfl
            have z2 := Z.out.cell' 2 (.int .i64 0) rfl
            have y0 := Z.out.free 0
            have y1 := Z.out.free 1
            have y2 := Z.out.free 2
            go_simp
            have hZ := Z.out.st3 (.int .i64 (X0 + f.lx + f.sx)) (.int .i64 (Y0 + f.ly + f.sy)) (.int .i64 (Z0 + f.lz + f.sz))
            have m2 := Qw.st3 hSS hN (.int .i64 (X0 + f.lx + f.sx)) (.int .i64 (Y0 + f.ly + f.sy)) (.int .i64 (Z0 + f.lz + f.sz))
            refine hK _ _ (fun h => absurd h (by decide)) ?_
            clear hK K hSS z0 z1 z2 y0 y1 y2
            try simp only [List.getElem_toArray, List.getElem_cons_succ, List.getElem_cons_zero, Act.put, List.setIfInBounds_toArray, List.set_cons_zero, List.set_cons_succ]
            refine wpAnyM_done (by kernel_rfl) ?_ _
            go_wp2
            go_meet
            exact ⟨_, rfl, hN, Lib.hid hZ, Lib.hid m2⟩
          · go_simp
            refine hK _ _ (fun _ => Qw.al hSS _) ?_
            obtain ⟨wn, N, en, eN, hN, m2, Z, mm⟩ := al_named hSS #[.int .i64 0, .int .i64 0, .int .i64 0] 23
            rw [en, eN]
            replace Z := Lib.hid Z
            clear hK K hSS en eN mm
            have hSS := m2
            clear m2
            try simp only [List.getElem_toArray, List.getElem_cons_succ, List.getElem_cons_zero, Act.put, List.setIfInBounds_toArray, List.set_cons_zero, List.set_cons_succ]
            refine wpAnyM_one (i := 11) rfl (by kernel_rfl) rfl (fun K hK => ?_)
            go_simp
            refine (AD2.out _).mono ?_
            rintro e w6 ⟨rfl, m⟩
            have Z2 := Lib.hid (Z.out.kept m)
            clear Z
            have Z := Z2
            clear Z2
            have m2 := Qw.trans hSS m
            refine hK _ _ (fun _ => m2) ?_
            clear hK K hSS m
            have hSS := m2
            clear m2
            try simp only [List.getElem_toArray, List.getElem_cons_succ, List.getElem_cons_zero, Act.put, List.setIfInBounds_toArray, List.set_cons_zero, List.set_cons_succ]
            refine wpAnyM_one (i := 13) rfl (by kernel_rfl) rfl (fun K hK => ?_)
            have z0 := Z.out.cell' 0 (.int .i64 0) rfl
            have z1 := Z.out.cell' 1 (.int .i64 0) rfl
            have z2 := Z.out.cell' 2 (.int .i64 0) rfl
            have y0 := Z.out.free 0
            have y1 := Z.out.free 1
            have y2 := Z.out.free 2
            go_simp
            have hZ := Z.out.st3 (.int .i64 (X0 + f.lx + f.sx)) (.int .i64 (Y0 + f.ly + f.sy)) (.int .i64 (Z0 + f.lz + f.sz))
            have m2 := Qw.st3 hSS hN (.int .i64 (X0 + f.lx + f.sx)) (.int .i64 (Y0 + f.ly + f.sy)) (.int .i64 (Z0 + f.lz + f.sz))
            refine hK _ _ (fun h => absurd h (by decide)) ?_
            clear hK K hSS z0 z1 z2 y0 y1 y2
            try simp only [List.getElem_toArray, List.getElem_cons_succ, List.getElem_cons_zero, Act.put, List.setIfInBounds_toArray, List.set_cons_zero, List.set_cons_succ]
            refine wpAnyM_done (by kernel_rfl) ?_ _
            go_wp2
            go_meet
            exact ⟨_, rfl, hN, Lib.hid hZ, Lib.hid m2⟩
        · go_simp
          refine hK _ _ (fun _ => Qw.al hSS _) ?_
          obtain ⟨wn, N, en, eN, hN, m2, Z, mm⟩ := al_named hSS #[.int .i64 0, .int .i64 0, .int .i64 0] 23
          rw [en, eN]
          replace Z := Lib.hid Z
          clear hK K hSS en eN mm
          have hSS := m2
          clear m2
          try simp only [List.getElem_toArray, List.getElem_cons_succ, List.getElem_cons_zero, Act.put, List.setIfInBounds_toArray, List.set_cons_zero, List.set_cons_succ]
          refine wpAnyM_one (i := 8) rfl (by kernel_rfl) rfl (fun K hK => ?_)
          go_simp
          refine (AD1.out _).mono ?_
          rintro e w5 ⟨rfl, m⟩
          have Z2 := Lib.hid (Z.out.kept m)
          clear Z
          have Z := Z2
          clear Z2
          have m2 := Qw.trans hSS m
          refine hK _ _ (fun _ => m2) ?_
          clear hK K hSS m
          have hSS := m2
          clear m2
          try simp only [List.getElem_toArray, List.getElem_cons_succ, List.getElem_cons_zero, Act.put, List.setIfInBounds_toArray, List.set_cons_zero, List.set_cons_succ]
          refine wpAnyM_one (i := 11) rfl (by kernel_rfl) rfl (fun K hK => ?_)
          go_simp
          refine (AD2.out _).mono ?_
          rintro e w6 ⟨rfl, m⟩
          have Z2 := Lib.hid (Z.out.kept m)
          clear Z
          have Z := Z2
          clear Z2
          have m2 := Qw.trans hSS m
          refine hK _ _ (fun _ => m2) ?_
          clear hK K hSS m
          have hSS := m2
          clear m2
          try simp only [List.getElem_toArray, List.getElem_cons_succ, List.getElem_cons_zero, Act.put, List.setIfInBounds_toArray, List.set_cons_zero, List.set_cons_succ]
          refine wpAnyM_one (i := 13) rfl (by kernel_rfl) rfl (fun K hK => ?_)
          have z0 := Z.out.cell' 0 (.int .i64 0) rfl
          have z1 := Z.out.cell' 1 (.int .i64 0) rfl
          have z2 := Z.out.cell' 2 (.int .i64 0) rfl
          have y0 := Z.out.free 0
          have y1 := Z.out.free 1
          have y2 := Z.out.free 2
          go_simp
          have hZ := Z.out.st3 (.int .i64 (X0 + f.lx + f.sx)) (.int .i64 (Y0 + f.ly + f.sy)) (.int .i64 (Z0 + f.lz + f.sz))
          have m2 := Qw.st3 hSS hN (.int .i64 (X0 + f.lx + f.sx)) (.int .i64 (Y0 + f.ly + f.sy)) (.int .i64 (Z0 + f.lz + f.sz))
          refine hK _ _ (fun h => absurd h (by decide)) ?_
          clear hK K hSS z0 z1 z2 y0 y1 y2
          try simp only [List.getElem_toArray, List.getElem_cons_succ, List.getElem_cons_zero, Act.put, List.setIfInBounds_toArray, List.set_cons_zero, List.set_cons_succ]
          refine wpAnyM_done (by kernel_rfl) ?_ _
          go_wp2
          go_meet
          exact ⟨_, rfl, hN, Lib.hid hZ, Lib.hid m2⟩
      · have G18 : Hid ((frc f)[18]? = some (.int .i64 56)) := Lib.hid (by show some (Value.int .i64 f.n) = _; rw [hn]; rfl)
        have G0 : Hid ((frc f)[6]? = some (.int .i64 X0)) := Lib.hid (by rw [e0]; rfl)
        have G1 : Hid ((frc f)[7]? = some (.int .i64 Y0)) := Lib.hid (by rw [e1]; rfl)
        have G2 : Hid ((frc f)[8]? = some (.int .i64 Z0)) := Lib.hid (by rw [e2]; rfl)
        have WK : Hid (IntKind.i64.wrap 2 = 2) := Lib.hid (IntWalk.i64_in _ (by decide))
        clear hn e0 e1 e2
        refine wp_region_M (fun wS => Qw w1 wS) 13 (by kernel_rfl) ?_
        have hSS : Qw w1 (World.drew w1) := qw_drew1 w1
        generalize World.drew w1 = wd at *
        refine wpAnyM_take (i := 0) (v := ?_) rfl (by kernel_rfl) (fun _ _ _ h => h) (Or.inl ⟨by rfl, ?_⟩) hSS ?_
        rotate_left 1
        · intro wS hwS
          go_simp
          try with_reducible rfl
        simp only [List.getElem_toArray, List.getElem_cons_succ, List.getElem_cons_zero, Act.put, List.setIfInBounds_toArray, List.set_cons_zero, List.set_cons_succ]
        refine wpAnyM_take (i := 1) (v := ?_) rfl (by kernel_rfl) (fun _ _ _ h => h) (Or.inl ⟨by rfl, ?_⟩) hSS ?_
        rotate_left 1
        · intro wS hwS
          have y := (FX.out wS hwS).cell' 18 (.int .i64 56) G18.out; go_simp
          try with_reducible rfl
        simp only [List.getElem_toArray, List.getElem_cons_succ, List.getElem_cons_zero, Act.put, List.setIfInBounds_toArray, List.set_cons_zero, List.set_cons_succ]
        refine wpAnyM_take (i := 2) (v := ?_) rfl (by kernel_rfl) (fun _ _ _ h => h) (Or.inl ⟨by rfl, ?_⟩) hSS ?_
        rotate_left 1
        · intro wS hwS
          have ew := WK.out; go_simp
          try with_reducible rfl
        simp only [List.getElem_toArray, List.getElem_cons_succ, List.getElem_cons_zero, Act.put, List.setIfInBounds_toArray, List.set_cons_zero, List.set_cons_succ]
        refine wpAnyM_take (i := 3) (v := ?_) rfl (by kernel_rfl) (fun _ _ _ h => h) (Or.inl ⟨by rfl, ?_⟩) hSS ?_
        rotate_left 1
        · intro wS hwS
          go_simp
          try with_reducible rfl
        simp only [List.getElem_toArray, List.getElem_cons_succ, List.getElem_cons_zero, Act.put, List.setIfInBounds_toArray, List.set_cons_zero, List.set_cons_succ]
        refine wpAnyM_take (i := 4) (v := ?_) rfl (by kernel_rfl) (fun _ _ _ h => h) (Or.inl ⟨by rfl, ?_⟩) hSS ?_
        rotate_left 1
        · intro wS hwS
          have ew := WK.out; go_simp
          try with_reducible rfl
        simp only [List.getElem_toArray, List.getElem_cons_succ, List.getElem_cons_zero, Act.put, List.setIfInBounds_toArray, List.set_cons_zero, List.set_cons_succ]
        refine wpAnyM_take (i := 5) (v := ?_) rfl (by kernel_rfl) (fun _ _ _ h => h) (Or.inl ⟨by rfl, ?_⟩) hSS ?_
        rotate_left 1
        · intro wS hwS
          have y0 := (FX.out wS hwS).cell' 6 (.int .i64 X0) G0.out; have y1 := (FX.out wS hwS).cell' 7 (.int .i64 Y0) G1.out; have y2 := (FX.out wS hwS).cell' 8 (.int .i64 Z0) G2.out; go_simp
          try with_reducible rfl
        simp only [List.getElem_toArray, List.getElem_cons_succ, List.getElem_cons_zero, Act.put, List.setIfInBounds_toArray, List.set_cons_zero, List.set_cons_succ]
        refine wpAnyM_take (i := 6) (v := ?_) rfl (by kernel_rfl) (fun _ _ _ h => h) (Or.inl ⟨by rfl, ?_⟩) hSS ?_
        rotate_left 1
        · intro wS hwS
          go_simp
          try with_reducible rfl
        simp only [List.getElem_toArray, List.getElem_cons_succ, List.getElem_cons_zero, Act.put, List.setIfInBounds_toArray, List.set_cons_zero, List.set_cons_succ]
        refine wpAnyM_take (i := 7) (v := ?_) rfl (by kernel_rfl) (fun _ _ _ h => h) (Or.inl ⟨by rfl, ?_⟩) hSS ?_
        rotate_left 1
        · intro wS hwS
          have y0 := (FX.out wS hwS).cell' 19 (.int .i64 f.lx) rfl; have y1 := (FX.out wS hwS).cell' 20 (.int .i64 f.ly) rfl; have y2 := (FX.out wS hwS).cell' 21 (.int .i64 f.lz) rfl; go_simp
          try with_reducible rfl
        simp only [List.getElem_toArray, List.getElem_cons_succ, List.getElem_cons_zero, Act.put, List.setIfInBounds_toArray, List.set_cons_zero, List.set_cons_succ]
        refine wpAnyM_take (i := 9) (v := ?_) rfl (by kernel_rfl) (fun _ _ _ h => h) (Or.inl ⟨by rfl, ?_⟩) hSS ?_
        rotate_left 1
        · intro wS hwS
          go_simp
          try with_reducible rfl
        simp only [List.getElem_toArray, List.getElem_cons_succ, List.getElem_cons_zero, Act.put, List.setIfInBounds_toArray, List.set_cons_zero, List.set_cons_succ]
        refine wpAnyM_take (i := 10) (v := ?_) rfl (by kernel_rfl) (fun _ _ _ h => h) (Or.inl ⟨by rfl, ?_⟩) hSS ?_
        rotate_left 1
        · intro wS hwS
          have y0 := (FX.out wS hwS).cell' 22 (.int .i64 f.sx) rfl; have y1 := (FX.out wS hwS).cell' 23 (.int .i64 f.sy) rfl; have y2 := (FX.out wS hwS).cell' 24 (.int .i64 f.sz) rfl; go_simp
          try with_reducible rfl
        simp only [List.getElem_toArray, List.getElem_cons_succ, List.getElem_cons_zero, Act.put, List.setIfInBounds_toArray, List.set_cons_zero, List.set_cons_succ]
        refine wpAnyM_two (i := 8) (j := 12) rfl rfl (by kernel_rfl) rfl rfl (fun K hK => ?_) (fun K hK => ?_)
        · go_simp
          refine (AD1.out _).mono ?_
          rintro e w5 ⟨rfl, m⟩
          have m2 := Qw.trans hSS m
          refine hK _ _ (fun _ => m2) ?_
          clear hK K hSS m
          have hSS := m2
          clear m2
          try simp only [List.getElem_toArray, List.getElem_cons_succ, List.getElem_cons_zero, Act.put, List.setIfInBounds_toArray, List.set_cons_zero, List.set_cons_succ]
          refine wpAnyM_two (i := 11) (j := 12) rfl rfl (by kernel_rfl) rfl rfl (fun K hK => ?_) (fun K hK => ?_)
          · go_simp
            refine (AD2.out _).mono ?_
            rintro e w6 ⟨rfl, m⟩
            have m2 := Qw.trans hSS m
            refine hK _ _ (fun _ => m2) ?_
            clear hK K hSS m
            have hSS := m2
            clear m2
            try simp only [List.getElem_toArray, List.getElem_cons_succ, List.getElem_cons_zero, Act.put, List.setIfInBounds_toArray, List.set_cons_zero, List.set_cons_succ]
            refine wpAnyM_one (i := 12) rfl (by kernel_rfl) rfl (fun K hK => ?_)
            go_simp
            refine hK _ _ (fun _ => Qw.al hSS _) ?_
            obtain ⟨wn, N, en, eN, hN, m2, Z, mm⟩ := al_named hSS #[.int .i64 0, .int .i64 0, .int .i64 0] 23
            rw [en, eN]
            replace Z := Lib.hid Z
            clear hK K hSS en eN mm
            have hSS := m2
            clear m2
            try simp only [List.getElem_toArray, List.getElem_cons_succ, List.getElem_cons_zero, Act.put, List.setIfInBounds_toArray, List.set_cons_zero, List.set_cons_succ]
            refine wpAnyM_one (i := 13) rfl (by kernel_rfl) rfl (fun K hK => ?_)
            have z0 := Z.out.cell' 0 (.int .i64 0) rfl
            have z1 := Z.out.cell' 1 (.int .i64 0) rfl
            have z2 := Z.out.cell' 2 (.int .i64 0) rfl
            have y0 := Z.out.free 0
            have y1 := Z.out.free 1
            have y2 := Z.out.free 2
            go_simp
            have hZ := Z.out.st3 (.int .i64 (X0 + f.lx + f.sx)) (.int .i64 (Y0 + f.ly + f.sy)) (.int .i64 (Z0 + f.lz + f.sz))
            have m2 := Qw.st3 hSS hN (.int .i64 (X0 + f.lx + f.sx)) (.int .i64 (Y0 + f.ly + f.sy)) (.int .i64 (Z0 + f.lz + f.sz))
            refine hK _ _ (fun h => absurd h (by decide)) ?_
            clear hK K hSS z0 z1 z2 y0 y1 y2
            try simp only [List.getElem_toArray, List.getElem_cons_succ, List.getElem_cons_zero, Act.put, List.setIfInBounds_toArray, List.set_cons_zero, List.set_cons_succ]
            refine wpAnyM_done (by kernel_rfl) ?_ _
            go_wp2
            go_meet
            exact ⟨_, rfl, hN, Lib.hid hZ, Lib.hid m2⟩
          · go_simp
            refine hK _ _ (fun _ => Qw.al hSS _) ?_
            obtain ⟨wn, N, en, eN, hN, m2, Z, mm⟩ := al_named hSS #[.int .i64 0, .int .i64 0, .int .i64 0] 23
            rw [en, eN]
            replace Z := Lib.hid Z
            clear hK K hSS en eN mm
            have hSS := m2
            clear m2
            try simp only [List.getElem_toArray, List.getElem_cons_succ, List.getElem_cons_zero, Act.put, List.setIfInBounds_toArray, List.set_cons_zero, List.set_cons_succ]
            refine wpAnyM_one (i := 11) rfl (by kernel_rfl) rfl (fun K hK => ?_)
            go_simp
            refine (AD2.out _).mono ?_
            rintro e w6 ⟨rfl, m⟩
            have Z2 := Lib.hid (Z.out.kept m)
            clear Z
            have Z := Z2
            clear Z2
            have m2 := Qw.trans hSS m
            refine hK _ _ (fun _ => m2) ?_
            clear hK K hSS m
            have hSS := m2
            clear m2
            try simp only [List.getElem_toArray, List.getElem_cons_succ, List.getElem_cons_zero, Act.put, List.setIfInBounds_toArray, List.set_cons_zero, List.set_cons_succ]
            refine wpAnyM_one (i := 13) rfl (by kernel_rfl) rfl (fun K hK => ?_)
            have z0 := Z.out.cell' 0 (.int .i64 0) rfl
            have z1 := Z.out.cell' 1 (.int .i64 0) rfl
            have z2 := Z.out.cell' 2 (.int .i64 0) rfl
            have y0 := Z.out.free 0
            have y1 := Z.out.free 1
            have y2 := Z.out.free 2
            go_simp
            have hZ := Z.out.st3 (.int .i64 (X0 + f.lx + f.sx)) (.int .i64 (Y0 + f.ly + f.sy)) (.int .i64 (Z0 + f.lz + f.sz))
            have m2 := Qw.st3 hSS hN (.int .i64 (X0 + f.lx + f.sx)) (.int .i64 (Y0 + f.ly + f.sy)) (.int .i64 (Z0 + f.lz + f.sz))
            refine hK _ _ (fun h => absurd h (by decide)) ?_
            clear hK K hSS z0 z1 z2 y0 y1 y2
            try simp only [List.getElem_toArray, List.getElem_cons_succ, List.getElem_cons_zero, Act.put, List.setIfInBounds_toArray, List.set_cons_zero, List.set_cons_succ]
            refine wpAnyM_done (by kernel_rfl) ?_ _
            go_wp2
            go_meet
            exact ⟨_, rfl, hN, Lib.hid hZ, Lib.hid m2⟩
        · go_simp
          refine hK _ _ (fun _ => Qw.al hSS _) ?_
          obtain ⟨wn, N, en, eN, hN, m2, Z, mm⟩ := al_named hSS #[.int .i64 0, .int .i64 0, .int .i64 0] 23
          rw [en, eN]
          replace Z := Lib.hid Z
          clear hK K hSS en eN mm
          have hSS := m2
          clear m2
          try simp only [List.getElem_toArray, List.getElem_cons_succ, List.getElem_cons_zero, Act.put, List.setIfInBounds_toArray, List.set_cons_zero, List.set_cons_succ]
          refine wpAnyM_one (i := 8) rfl (by kernel_rfl) rfl (fun K hK => ?_)
          go_simp
          refine (AD1.out _).mono ?_
          rintro e w5 ⟨rfl, m⟩
          have Z2 := Lib.hid (Z.out.kept m)
          clear Z
          have Z := Z2
          clear Z2
          have m2 := Qw.trans hSS m
          refine hK _ _ (fun _ => m2) ?_
          clear hK K hSS m
          have hSS := m2
          clear m2
          try simp only [List.getElem_toArray, List.getElem_cons_succ, List.getElem_cons_zero, Act.put, List.setIfInBounds_toArray, List.set_cons_zero, List.set_cons_succ]
          refine wpAnyM_one (i := 11) rfl (by kernel_rfl) rfl (fun K hK => ?_)
          go_simp
          refine (AD2.out _).mono ?_
          rintro e w6 ⟨rfl, m⟩
          have Z2 := Lib.hid (Z.out.kept m)
          clear Z
          have Z := Z2
          clear Z2
          have m2 := Qw.trans hSS m
          refine hK _ _ (fun _ => m2) ?_
          clear hK K hSS m
          have hSS := m2
          clear m2
          try simp only [List.getElem_toArray, List.getElem_cons_succ, List.getElem_cons_zero, Act.put, List.setIfInBounds_toArray, List.set_cons_zero, List.set_cons_succ]
          refine wpAnyM_one (i := 13) rfl (by kernel_rfl) rfl (fun K hK => ?_)
          have z0 := Z.out.cell' 0 (.int .i64 0) rfl
          have z1 := Z.out.cell' 1 (.int .i64 0) rfl
          have z2 := Z.out.cell' 2 (.int .i64 0) rfl
          have y0 := Z.out.free 0
          have y1 := Z.out.free 1
          have y2 := Z.out.free 2
          go_simp
          have hZ := Z.out.st3 (.int .i64 (X0 + f.lx + f.sx)) (.int .i64 (Y0 + f.ly + f.sy)) (.int .i64 (Z0 + f.lz + f.sz))
          have m2 := Qw.st3 hSS hN (.int .i64 (X0 + f.lx + f.sx)) (.int .i64 (Y0 + f.ly + f.sy)) (.int .i64 (Z0 + f.lz + f.sz))
          refine hK _ _ (fun h => absurd h (by decide)) ?_
          clear hK K hSS z0 z1 z2 y0 y1 y2
          try simp only [List.getElem_toArray, List.getElem_cons_succ, List.getElem_cons_zero, Act.put, List.setIfInBounds_toArray, List.set_cons_zero, List.set_cons_succ]
          refine wpAnyM_done (by kernel_rfl) ?_ _
          go_wp2
          go_meet
          exact ⟨_, rfl, hN, Lib.hid hZ, Lib.hid m2⟩
      · have G18 : Hid ((frc f)[18]? = some (.int .i64 57)) := Lib.hid (by show some (Value.int .i64 f.n) = _; rw [hn]; rfl)
        have G0 : Hid ((frc f)[9]? = some (.int .i64 X0)) := Lib.hid (by rw [e0]; rfl)
        have G1 : Hid ((frc f)[10]? = some (.int .i64 Y0)) := Lib.hid (by rw [e1]; rfl)
        have G2 : Hid ((frc f)[11]? = some (.int .i64 Z0)) := Lib.hid (by rw [e2]; rfl)
        have WK : Hid (IntKind.i64.wrap 3 = 3) := Lib.hid (IntWalk.i64_in _ (by decide))
        clear hn e0 e1 e2
        refine wp_region_M (fun wS => Qw w1 wS) 13 (by kernel_rfl) ?_
        have hSS : Qw w1 (World.drew w1) := qw_drew1 w1
        generalize World.drew w1 = wd at *
        refine wpAnyM_take (i := 0) (v := ?_) rfl (by kernel_rfl) (fun _ _ _ h => h) (Or.inl ⟨by rfl, ?_⟩) hSS ?_
        rotate_left 1
        · intro wS hwS
          go_simp
          try with_reducible rfl
        simp only [List.getElem_toArray, List.getElem_cons_succ, List.getElem_cons_zero, Act.put, List.setIfInBounds_toArray, List.set_cons_zero, List.set_cons_succ]
        refine wpAnyM_take (i := 1) (v := ?_) rfl (by kernel_rfl) (fun _ _ _ h => h) (Or.inl ⟨by rfl, ?_⟩) hSS ?_
        rotate_left 1
        · intro wS hwS
          have y := (FX.out wS hwS).cell' 18 (.int .i64 57) G18.out; go_simp
          try with_reducible rfl
        simp only [List.getElem_toArray, List.getElem_cons_succ, List.getElem_cons_zero, Act.put, List.setIfInBounds_toArray, List.set_cons_zero, List.set_cons_succ]
        refine wpAnyM_take (i := 2) (v := ?_) rfl (by kernel_rfl) (fun _ _ _ h => h) (Or.inl ⟨by rfl, ?_⟩) hSS ?_
        rotate_left 1
        · intro wS hwS
          have ew := WK.out; go_simp
          try with_reducible rfl
        simp only [List.getElem_toArray, List.getElem_cons_succ, List.getElem_cons_zero, Act.put, List.setIfInBounds_toArray, List.set_cons_zero, List.set_cons_succ]
        refine wpAnyM_take (i := 3) (v := ?_) rfl (by kernel_rfl) (fun _ _ _ h => h) (Or.inl ⟨by rfl, ?_⟩) hSS ?_
        rotate_left 1
        · intro wS hwS
          go_simp
          try with_reducible rfl
        simp only [List.getElem_toArray, List.getElem_cons_succ, List.getElem_cons_zero, Act.put, List.setIfInBounds_toArray, List.set_cons_zero, List.set_cons_succ]
        refine wpAnyM_take (i := 4) (v := ?_) rfl (by kernel_rfl) (fun _ _ _ h => h) (Or.inl ⟨by rfl, ?_⟩) hSS ?_
        rotate_left 1
        · intro wS hwS
          have ew := WK.out; go_simp
          try with_reducible rfl
        simp only [List.getElem_toArray, List.getElem_cons_succ, List.getElem_cons_zero, Act.put, List.setIfInBounds_toArray, List.set_cons_zero, List.set_cons_succ]
        refine wpAnyM_take (i := 5) (v := ?_) rfl (by kernel_rfl) (fun _ _ _ h => h) (Or.inl ⟨by rfl, ?_⟩) hSS ?_
        rotate_left 1
        · intro wS hwS
          have y0 := (FX.out wS hwS).cell' 9 (.int .i64 X0) G0.out; have y1 := (FX.out wS hwS).cell' 10 (.int .i64 Y0) G1.out; have y2 := (FX.out wS hwS).cell' 11 (.int .i64 Z0) G2.out; go_simp
          try with_reducible rfl
        simp only [List.getElem_toArray, List.getElem_cons_succ, List.getElem_cons_zero, Act.put, List.setIfInBounds_toArray, List.set_cons_zero, List.set_cons_succ]
        refine wpAnyM_take (i := 6) (v := ?_) rfl (by kernel_rfl) (fun _ _ _ h => h) (Or.inl ⟨by rfl, ?_⟩) hSS ?_
        rotate_left 1
        · intro wS hwS
          go_simp
          try with_reducible rfl
        simp only [List.getElem_toArray, List.getElem_cons_succ, List.getElem_cons_zero, Act.put, List.setIfInBounds_toArray, List.set_cons_zero, List.set_cons_succ]
        refine wpAnyM_take (i := 7) (v := ?_) rfl (by kernel_rfl) (fun _ _ _ h => h) (Or.inl ⟨by rfl, ?_⟩) hSS ?_
        rotate_left 1
        · intro wS hwS
          have y0 := (FX.out wS hwS).cell' 19 (.int .i64 f.lx) rfl; have y1 := (FX.out wS hwS).cell' 20 (.int .i64 f.ly) rfl; have y2 := (FX.out wS hwS).cell' 21 (.int .i64 f.lz) rfl; go_simp
          try with_reducible rfl
        simp only [List.getElem_toArray, List.getElem_cons_succ, List.getElem_cons_zero, Act.put, List.setIfInBounds_toArray, List.set_cons_zero, List.set_cons_succ]
        refine wpAnyM_take (i := 9) (v := ?_) rfl (by kernel_rfl) (fun _ _ _ h => h) (Or.inl ⟨by rfl, ?_⟩) hSS ?_
        rotate_left 1
        · intro wS hwS
          go_simp
          try with_reducible rfl
        simp only [List.getElem_toArray, List.getElem_cons_succ, List.getElem_cons_zero, Act.put, List.setIfInBounds_toArray, List.set_cons_zero, List.set_cons_succ]
        refine wpAnyM_take (i := 10) (v := ?_) rfl (by kernel_rfl) (fun _ _ _ h => h) (Or.inl ⟨by rfl, ?_⟩) hSS ?_
        rotate_left 1
        · intro wS hwS
          have y0 := (FX.out wS hwS).cell' 22 (.int .i64 f.sx) rfl; have y1 := (FX.out wS hwS).cell' 23 (.int .i64 f.sy) rfl; have y2 := (FX.out wS hwS).cell' 24 (.int .i64 f.sz) rfl; go_simp
          try with_reducible rfl
        simp only [List.getElem_toArray, List.getElem_cons_succ, List.getElem_cons_zero, Act.put, List.setIfInBounds_toArray, List.set_cons_zero, List.set_cons_succ]
        refine wpAnyM_two (i := 8) (j := 12) rfl rfl (by kernel_rfl) rfl rfl (fun K hK => ?_) (fun K hK => ?_)
        · go_simp
          refine (AD1.out _).mono ?_
          rintro e w5 ⟨rfl, m⟩
          have m2 := Qw.trans hSS m
          refine hK _ _ (fun _ => m2) ?_
          clear hK K hSS m
          have hSS := m2
          clear m2
          try simp only [List.getElem_toArray, List.getElem_cons_succ, List.getElem_cons_zero, Act.put, List.setIfInBounds_toArray, List.set_cons_zero, List.set_cons_succ]
          refine wpAnyM_two (i := 11) (j := 12) rfl rfl (by kernel_rfl) rfl rfl (fun K hK => ?_) (fun K hK => ?_)
          · go_simp
            refine (AD2.out _).mono ?_
            rintro e w6 ⟨rfl, m⟩
            have m2 := Qw.trans hSS m
            refine hK _ _ (fun _ => m2) ?_
            clear hK K hSS m
            have hSS := m2
            clear m2
            try simp only [List.getElem_toArray, List.getElem_cons_succ, List.getElem_cons_zero, Act.put, List.setIfInBounds_toArray, List.set_cons_zero, List.set_cons_succ]
            refine wpAnyM_one (i := 12) rfl (by kernel_rfl) rfl (fun K hK => ?_)
            go_simp
            refine hK _ _ (fun _ => Qw.al hSS _) ?_
            obtain ⟨wn, N, en, eN, hN, m2, Z, mm⟩ := al_named hSS #[.int .i64 0, .int .i64 0, .int .i64 0] 23
            rw [en, eN]
            replace Z := Lib.hid Z
            clear hK K hSS en eN mm
            have hSS := m2
            clear m2
            try simp only [List.getElem_toArray, List.getElem_cons_succ, List.getElem_cons_zero, Act.put, List.setIfInBounds_toArray, List.set_cons_zero, List.set_cons_succ]
            refine wpAnyM_one (i := 13) rfl (by kernel_rfl) rfl (fun K hK => ?_)
            have z0 := Z.out.cell' 0 (.int .i64 0) rfl
            have z1 := Z.out.cell' 1 (.int .i64 0) rfl
            have z2 := Z.out.cell' 2 (.int .i64 0) rfl
            have y0 := Z.out.free 0
            have y1 := Z.out.free 1
            have y2 := Z.out.free 2
            go_simp
            have hZ := Z.out.st3 (.int .i64 (X0 + f.lx + f.sx)) (.int .i64 (Y0 + f.ly + f.sy)) (.int .i64 (Z0 + f.lz + f.sz))
            have m2 := Qw.st3 hSS hN (.int .i64 (X0 + f.lx + f.sx)) (.int .i64 (Y0 + f.ly + f.sy)) (.int .i64 (Z0 + f.lz + f.sz))
            refine hK _ _ (fun h => absurd h (by decide)) ?_
            clear hK K hSS z0 z1 z2 y0 y1 y2
            try simp only [List.getElem_toArray, List.getElem_cons_succ, List.getElem_cons_zero, Act.put, List.setIfInBounds_toArray, List.set_cons_zero, List.set_cons_succ]
            refine wpAnyM_done (by kernel_rfl) ?_ _
            go_wp2
            go_meet
            exact ⟨_, rfl, hN, Lib.hid hZ, Lib.hid m2⟩
          · go_simp
            refine hK _ _ (fun _ => Qw.al hSS _) ?_
            obtain ⟨wn, N, en, eN, hN, m2, Z, mm⟩ := al_named hSS #[.int .i64 0, .int .i64 0, .int .i64 0] 23
            rw [en, eN]
            replace Z := Lib.hid Z
            clear hK K hSS en eN mm
            have hSS := m2
            clear m2
            try simp only [List.getElem_toArray, List.getElem_cons_succ, List.getElem_cons_zero, Act.put, List.setIfInBounds_toArray, List.set_cons_zero, List.set_cons_succ]
            refine wpAnyM_one (i := 11) rfl (by kernel_rfl) rfl (fun K hK => ?_)
            go_simp
            refine (AD2.out _).mono ?_
            rintro e w6 ⟨rfl, m⟩
            have Z2 := Lib.hid (Z.out.kept m)
            clear Z
            have Z := Z2
            clear Z2
            have m2 := Qw.trans hSS m
            refine hK _ _ (fun _ => m2) ?_
            clear hK K hSS m
            have hSS := m2
            clear m2
            try simp only [List.getElem_toArray, List.getElem_cons_succ, List.getElem_cons_zero, Act.put, List.setIfInBounds_toArray, List.set_cons_zero, List.set_cons_succ]
            refine wpAnyM_one (i := 13) rfl (by kernel_rfl) rfl (fun K hK => ?_)
            have z0 := Z.out.cell' 0 (.int .i64 0) rfl
            have z1 := Z.out.cell' 1 (.int .i64 0) rfl
            have z2 := Z.out.cell' 2 (.int .i64 0) rfl
            have y0 := Z.out.free 0
            have y1 := Z.out.free 1
            have y2 := Z.out.free 2
            go_simp
            have hZ := Z.out.st3 (.int .i64 (X0 + f.lx + f.sx)) (.int .i64 (Y0 + f.ly + f.sy)) (.int .i64 (Z0 + f.lz + f.sz))
            have m2 := Qw.st3 hSS hN (.int .i64 (X0 + f.lx + f.sx)) (.int .i64 (Y0 + f.ly + f.sy)) (.int .i64 (Z0 + f.lz + f.sz))
            refine hK _ _ (fun h => absurd h (by decide)) ?_
            clear hK K hSS z0 z1 z2 y0 y1 y2
            try simp only [List.getElem_toArray, List.getElem_cons_succ, List.getElem_cons_zero, Act.put, List.setIfInBounds_toArray, List.set_cons_zero, List.set_cons_succ]
            refine wpAnyM_done (by kernel_rfl) ?_ _
            go_wp2
            go_meet
            exact ⟨_, rfl, hN, Lib.hid hZ, Lib.hid m2⟩
        · go_simp
          refine hK _ _ (fun _ => Qw.al hSS _) ?_
          obtain ⟨wn, N, en, eN, hN, m2, Z, mm⟩ := al_named hSS #[.int .i64 0, .int .i64 0, .int .i64 0] 23
          rw [en, eN]
          replace Z := Lib.hid Z
          clear hK K hSS en eN mm
          have hSS := m2
          clear m2
          try simp only [List.getElem_toArray, List.getElem_cons_succ, List.getElem_cons_zero, Act.put, List.setIfInBounds_toArray, List.set_cons_zero, List.set_cons_succ]
          refine wpAnyM_one (i := 8) rfl (by kernel_rfl) rfl (fun K hK => ?_)
          go_simp
          refine (AD1.out _).mono ?_
          rintro e w5 ⟨rfl, m⟩
          have Z2 := Lib.hid (Z.out.kept m)
          clear Z
          have Z := Z2
          clear Z2
          have m2 := Qw.trans hSS m
          refine hK _ _ (fun _ => m2) ?_
          clear hK K hSS m
          have hSS := m2
          clear m2
          try simp only [List.getElem_toArray, List.getElem_cons_succ, List.getElem_cons_zero, Act.put, List.setIfInBounds_toArray, List.set_cons_zero, List.set_cons_succ]
          refine wpAnyM_one (i := 11) rfl (by kernel_rfl) rfl (fun K hK => ?_)
          go_simp
          refine (AD2.out _).mono ?_
          rintro e w6 ⟨rfl, m⟩
          have Z2 := Lib.hid (Z.out.kept m)
          clear Z
          have Z := Z2
          clear Z2
          have m2 := Qw.trans hSS m
          refine hK _ _ (fun _ => m2) ?_
          clear hK K hSS m
          have hSS := m2
          clear m2
          try simp only [List.getElem_toArray, List.getElem_cons_succ, List.getElem_cons_zero, Act.put, List.setIfInBounds_toArray, List.set_cons_zero, List.set_cons_succ]
          refine wpAnyM_one (i := 13) rfl (by kernel_rfl) rfl (fun K hK => ?_)
          have z0 := Z.out.cell' 0 (.int .i64 0) rfl
          have z1 := Z.out.cell' 1 (.int .i64 0) rfl
          have z2 := Z.out.cell' 2 (.int .i64 0) rfl
          have y0 := Z.out.free 0
          have y1 := Z.out.free 1
          have y2 := Z.out.free 2
          go_simp
          have hZ := Z.out.st3 (.int .i64 (X0 + f.lx + f.sx)) (.int .i64 (Y0 + f.ly + f.sy)) (.int .i64 (Z0 + f.lz + f.sz))
          have m2 := Qw.st3 hSS hN (.int .i64 (X0 + f.lx + f.sx)) (.int .i64 (Y0 + f.ly + f.sy)) (.int .i64 (Z0 + f.lz + f.sz))
          refine hK _ _ (fun h => absurd h (by decide)) ?_
          clear hK K hSS z0 z1 z2 y0 y1 y2
          try simp only [List.getElem_toArray, List.getElem_cons_succ, List.getElem_cons_zero, Act.put, List.setIfInBounds_toArray, List.set_cons_zero, List.set_cons_succ]
          refine wpAnyM_done (by kernel_rfl) ?_ _
          go_wp2
          go_meet
          exact ⟨_, rfl, hN, Lib.hid hZ, Lib.hid m2⟩
      · have G18 : Hid ((frc f)[18]? = some (.int .i64 58)) := Lib.hid (by show some (Value.int .i64 f.n) = _; rw [hn]; rfl)
        have G0 : Hid ((frc f)[12]? = some (.int .i64 X0)) := Lib.hid (by rw [e0]; rfl)
        have G1 : Hid ((frc f)[13]? = some (.int .i64 Y0)) := Lib.hid (by rw [e1]; rfl)
        have G2 : Hid ((frc f)[14]? = some (.int .i64 Z0)) := Lib.hid (by rw [e2]; rfl)
        have WK : Hid (IntKind.i64.wrap 4 = 4) := Lib.hid (IntWalk.i64_in _ (by decide))
        clear hn e0 e1 e2
        refine wp_region_M (fun wS => Qw w1 wS) 13 (by kernel_rfl) ?_
        have hSS : Qw w1 (World.drew w1) := qw_drew1 w1
        generalize World.drew w1 = wd at *
        refine wpAnyM_take (i := 0) (v := ?_) rfl (by kernel_rfl) (fun _ _ _ h => h) (Or.inl ⟨by rfl, ?_⟩) hSS ?_
        rotate_left 1
        · intro wS hwS
          go_simp
          try with_reducible rfl
        simp only [List.getElem_toArray, List.getElem_cons_succ, List.getElem_cons_zero, Act.put, List.setIfInBounds_toArray, List.set_cons_zero, List.set_cons_succ]
        refine wpAnyM_take (i := 1) (v := ?_) rfl (by kernel_rfl) (fun _ _ _ h => h) (Or.inl ⟨by rfl, ?_⟩) hSS ?_
        rotate_left 1
        · intro wS hwS
          have y := (FX.out wS hwS).cell' 18 (.int .i64 58) G18.out; go_simp
          try with_reducible rfl
        simp only [List.getElem_toArray, List.getElem_cons_succ, List.getElem_cons_zero, Act.put, List.setIfInBounds_toArray, List.set_cons_zero, List.set_cons_succ]
        refine wpAnyM_take (i := 2) (v := ?_) rfl (by kernel_rfl) (fun _ _ _ h => h) (Or.inl ⟨by rfl, ?_⟩) hSS ?_
        rotate_left 1
        · intro wS hwS
          have ew := WK.out; go_simp
          try with_reducible rfl
        simp only [List.getElem_toArray, List.getElem_cons_succ, List.getElem_cons_zero, Act.put, List.setIfInBounds_toArray, List.set_cons_zero, List.set_cons_succ]
        refine wpAnyM_take (i := 3) (v := ?_) rfl (by kernel_rfl) (fun _ _ _ h => h) (Or.inl ⟨by rfl, ?_⟩) hSS ?_
        rotate_left 1
        · intro wS hwS
          go_simp
          try with_reducible rfl
        simp only [List.getElem_toArray, List.getElem_cons_succ, List.getElem_cons_zero, Act.put, List.setIfInBounds_toArray, List.set_cons_zero, List.set_cons_succ]
        refine wpAnyM_take (i := 4) (v := ?_) rfl (by kernel_rfl) (fun _ _ _ h => h) (Or.inl ⟨by rfl, ?_⟩) hSS ?_
        rotate_left 1
        · intro wS hwS
          have ew := WK.out; go_simp
          try with_reducible rfl
        simp only [List.getElem_toArray, List.getElem_cons_succ, List.getElem_cons_zero, Act.put, List.setIfInBounds_toArray, List.set_cons_zero, List.set_cons_succ]
        refine wpAnyM_take (i := 5) (v := ?_) rfl (by kernel_rfl) (fun _ _ _ h => h) (Or.inl ⟨by rfl, ?_⟩) hSS ?_
        rotate_left 1
        · intro wS hwS
          have y0 := (FX.out wS hwS).cell' 12 (.int .i64 X0) G0.out; have y1 := (FX.out wS hwS).cell' 13 (.int .i64 Y0) G1.out; have y2 := (FX.out wS hwS).cell' 14 (.int .i64 Z0) G2.out; go_simp
          try with_reducible rfl
        simp only [List.getElem_toArray, List.getElem_cons_succ, List.getElem_cons_zero, Act.put, List.setIfInBounds_toArray, List.set_cons_zero, List.set_cons_succ]
        refine wpAnyM_take (i := 6) (v := ?_) rfl (by kernel_rfl) (fun _ _ _ h => h) (Or.inl ⟨by rfl, ?_⟩) hSS ?_
        rotate_left 1
        · intro wS hwS
          go_simp
          try with_reducible rfl
        simp only [List.getElem_toArray, List.getElem_cons_succ, List.getElem_cons_zero, Act.put, List.setIfInBounds_toArray, List.set_cons_zero, List.set_cons_succ]
        refine wpAnyM_take (i := 7) (v := ?_) rfl (by kernel_rfl) (fun _ _ _ h => h) (Or.inl ⟨by rfl, ?_⟩) hSS ?_
        rotate_left 1
        · intro wS hwS
          have y0 := (FX.out wS hwS).cell' 19 (.int .i64 f.lx) rfl; have y1 := (FX.out wS hwS).cell' 20 (.int .i64 f.ly) rfl; have y2 := (FX.out wS hwS).cell' 21 (.int .i64 f.lz) rfl; go_simp
          try with_reducible rfl
        simp only [List.getElem_toArray, List.getElem_cons_succ, List.getElem_cons_zero, Act.put, List.setIfInBounds_toArray, List.set_cons_zero, List.set_cons_succ]
        refine wpAnyM_take (i := 9) (v := ?_) rfl (by kernel_rfl) (fun _ _ _ h => h) (Or.inl ⟨by rfl, ?_⟩) hSS ?_
        rotate_left 1
        · intro wS hwS
          go_simp
          try with_reducible rfl
        simp only [List.getElem_toArray, List.getElem_cons_succ, List.getElem_cons_zero, Act.put, List.setIfInBounds_toArray, List.set_cons_zero, List.set_cons_succ]
        refine wpAnyM_take (i := 10) (v := ?_) rfl (by kernel_rfl) (fun _ _ _ h => h) (Or.inl ⟨by rfl, ?_⟩) hSS ?_
        rotate_left 1
        · intro wS hwS
          have y0 := (FX.out wS hwS).cell' 22 (.int .i64 f.sx) rfl; have y1 := (FX.out wS hwS).cell' 23 (.int .i64 f.sy) rfl; have y2 := (FX.out wS hwS).cell' 24 (.int .i64 f.sz) rfl; go_simp
          try with_reducible rfl
        simp only [List.getElem_toArray, List.getElem_cons_succ, List.getElem_cons_zero, Act.put, List.setIfInBounds_toArray, List.set_cons_zero, List.set_cons_succ]
        refine wpAnyM_two (i := 8) (j := 12) rfl rfl (by kernel_rfl) rfl rfl (fun K hK => ?_) (fun K hK => ?_)
        · go_simp
          refine (AD1.out _).mono ?_
          rintro e w5 ⟨rfl, m⟩
          have m2 := Qw.trans hSS m
          refine hK _ _ (fun _ => m2) ?_
          clear hK K hSS m
          have hSS := m2
          clear m2
          try simp only [List.getElem_toArray, List.getElem_cons_succ, List.getElem_cons_zero, Act.put, List.setIfInBounds_toArray, List.set_cons_zero, List.set_cons_succ]
          refine wpAnyM_two (i := 11) (j := 12) rfl rfl (by kernel_rfl) rfl rfl (fun K hK => ?_) (fun K hK => ?_)
          · go_simp
            refine (AD2.out _).mono ?_
            rintro e w6 ⟨rfl, m⟩
            have m2 := Qw.trans hSS m
            refine hK _ _ (fun _ => m2) ?_
            clear hK K hSS m
            have hSS := m2
            clear m2
            try simp only [List.getElem_toArray, List.getElem_cons_succ, List.getElem_cons_zero, Act.put, List.setIfInBounds_toArray, List.set_cons_zero, List.set_cons_succ]
            refine wpAnyM_one (i := 12) rfl (by kernel_rfl) rfl (fun K hK => ?_)
            go_simp
            refine hK _ _ (fun _ => Qw.al hSS _) ?_
            obtain ⟨wn, N, en, eN, hN, m2, Z, mm⟩ := al_named hSS #[.int .i64 0, .int .i64 0, .int .i64 0] 23
            rw [en, eN]
            replace Z := Lib.hid Z
            clear hK K hSS en eN mm
            have hSS := m2
            clear m2
            try simp only [List.getElem_toArray, List.getElem_cons_succ, List.getElem_cons_zero, Act.put, List.setIfInBounds_toArray, List.set_cons_zero, List.set_cons_succ]
            refine wpAnyM_one (i := 13) rfl (by kernel_rfl) rfl (fun K hK => ?_)
            have z0 := Z.out.cell' 0 (.int .i64 0) rfl
            have z1 := Z.out.cell' 1 (.int .i64 0) rfl
            have z2 := Z.out.cell' 2 (.int .i64 0) rfl
            have y0 := Z.out.free 0
            have y1 := Z.out.free 1
            have y2 := Z.out.free 2
            go_simp
            have hZ := Z.out.st3 (.int .i64 (X0 + f.lx + f.sx)) (.int .i64 (Y0 + f.ly + f.sy)) (.int .i64 (Z0 + f.lz + f.sz))
            have m2 := Qw.st3 hSS hN (.int .i64 (X0 + f.lx + f.sx)) (.int .i64 (Y0 + f.ly + f.sy)) (.int .i64 (Z0 + f.lz + f.sz))
            refine hK _ _ (fun h => absurd h (by decide)) ?_
            clear hK K hSS z0 z1 z2 y0 y1 y2
            try simp only [List.getElem_toArray, List.getElem_cons_succ, List.getElem_cons_zero, Act.put, List.setIfInBounds_toArray, List.set_cons_zero, List.set_cons_succ]
            refine wpAnyM_done (by kernel_rfl) ?_ _
            go_wp2
            go_meet
            exact ⟨_, rfl, hN, Lib.hid hZ, Lib.hid m2⟩
          · go_simp
            refine hK _ _ (fun _ => Qw.al hSS _) ?_
            obtain ⟨wn, N, en, eN, hN, m2, Z, mm⟩ := al_named hSS #[.int .i64 0, .int .i64 0, .int .i64 0] 23
            rw [en, eN]
            replace Z := Lib.hid Z
            clear hK K hSS en eN mm
            have hSS := m2
            clear m2
            try simp only [List.getElem_toArray, List.getElem_cons_succ, List.getElem_cons_zero, Act.put, List.setIfInBounds_toArray, List.set_cons_zero, List.set_cons_succ]
            refine wpAnyM_one (i := 11) rfl (by kernel_rfl) rfl (fun K hK => ?_)
            go_simp
            refine (AD2.out _).mono ?_
            rintro e w6 ⟨rfl, m⟩
            have Z2 := Lib.hid (Z.out.kept m)
            clear Z
            have Z := Z2
            clear Z2
            have m2 := Qw.trans hSS m
            refine hK _ _ (fun _ => m2) ?_
            clear hK K hSS m
            have hSS := m2
            clear m2
            try simp only [List.getElem_toArray, List.getElem_cons_succ, List.getElem_cons_zero, Act.put, List.setIfInBounds_toArray, List.set_cons_zero, List.set_cons_succ]
            refine wpAnyM_one (i := 13) rfl (by kernel_rfl) rfl (fun K hK => ?_)
            have z0 := Z.out.cell' 0 (.int .i64 0) rfl
            have z1 := Z.out.cell' 1 (.int .i64 0) rfl
            have z2 := Z.out.cell' 2 (.int .i64 0) rfl
            have y0 := Z.out.free 0
            have y1 := Z.out.free 1
            have y2 := Z.out.free 2
            go_simp
            have hZ := Z.out.st3 (.int .i64 (X0 + f.lx + f.sx)) (.int .i64 (Y0 + f.ly + f.sy)) (.int .i64 (Z0 + f.lz + f.sz))
            have m2 := Qw.st3 hSS hN (.int .i64 (X0 + f.lx + f.sx)) (.int .i64 (Y0 + f.ly + f.sy)) (.int .i64 (Z0 + f.lz + f.sz))
            refine hK _ _ (fun h => absurd h (by decide)) ?_
            clear hK K hSS z0 z1 z2 y0 y1 y2
            try simp only [List.getElem_toArray, List.getElem_cons_succ, List.getElem_cons_zero, Act.put, List.setIfInBounds_toArray, List.set_cons_zero, List.set_cons_succ]
            refine wpAnyM_done (by kernel_rfl) ?_ _
            go_wp2
            go_meet
            exact ⟨_, rfl, hN, Lib.hid hZ, Lib.hid m2⟩
        · go_simp
          refine hK _ _ (fun _ => Qw.al hSS _) ?_
          obtain ⟨wn, N, en, eN, hN, m2, Z, mm⟩ := al_named hSS #[.int .i64 0, .int .i64 0, .int .i64 0] 23
          rw [en, eN]
          replace Z := Lib.hid Z
          clear hK K hSS en eN mm
          have hSS := m2
          clear m2
          try simp only [List.getElem_toArray, List.getElem_cons_succ, List.getElem_cons_zero, Act.put, List.setIfInBounds_toArray, List.set_cons_zero, List.set_cons_succ]
          refine wpAnyM_one (i := 8) rfl (by kernel_rfl) rfl (fun K hK => ?_)
          go_simp
          refine (AD1.out _).mono ?_
          rintro e w5 ⟨rfl, m⟩
          have Z2 := Lib.hid (Z.out.kept m)
          clear Z
          have Z := Z2
          clear Z2
          have m2 := Qw.trans hSS m
          refine hK _ _ (fun _ => m2) ?_
          clear hK K hSS m
          have hSS := m2
          clear m2
          try simp only [List.getElem_toArray, List.getElem_cons_succ, List.getElem_cons_zero, Act.put, List.setIfInBounds_toArray, List.set_cons_zero, List.set_cons_succ]
          refine wpAnyM_one (i := 11) rfl (by kernel_rfl) rfl (fun K hK => ?_)
          go_simp
          refine (AD2.out _).mono ?_
          rintro e w6 ⟨rfl, m⟩
          have Z2 := Lib.hid (Z.out.kept m)
          clear Z
          have Z := Z2
          clear Z2
          have m2 := Qw.trans hSS m
          refine hK _ _ (fun _ => m2) ?_
          clear hK K hSS m
          have hSS := m2
          clear m2
          try simp only [List.getElem_toArray, List.getElem_cons_succ, List.getElem_cons_zero, Act.put, List.setIfInBounds_toArray, List.set_cons_zero, List.set_cons_succ]
          refine wpAnyM_one (i := 13) rfl (by kernel_rfl) rfl (fun K hK => ?_)
          have z0 := Z.out.cell' 0 (.int .i64 0) rfl
          have z1 := Z.out.cell' 1 (.int .i64 0) rfl
          have z2 := Z.out.cell' 2 (.int .i64 0) rfl
          have y0 := Z.out.free 0
          have y1 := Z.out.free 1
          have y2 := Z.out.free 2
          go_simp
          have hZ := Z.out.st3 (.int .i64 (X0 + f.lx + f.sx)) (.int .i64 (Y0 + f.ly + f.sy)) (.int .i64 (Z0 + f.lz + f.sz))
          have m2 := Qw.st3 hSS hN (.int .i64 (X0 + f.lx + f.sx)) (.int .i64 (Y0 + f.ly + f.sy)) (.int .i64 (Z0 + f.lz + f.sz))
          refine hK _ _ (fun h => absurd h (by decide)) ?_
          clear hK K hSS z0 z1 z2 y0 y1 y2
          try simp only [List.getElem_toArray, List.getElem_cons_succ, List.getElem_cons_zero, Act.put, List.setIfInBounds_toArray, List.set_cons_zero, List.set_cons_succ]
          refine wpAnyM_done (by kernel_rfl) ?_ _
          go_wp2
          go_meet
          exact ⟨_, rfl, hN, Lib.hid hZ, Lib.hid m2⟩
      · have G18 : Hid ((frc f)[18]? = some (.int .i64 59)) := Lib.hid (by show some (Value.int .i64 f.n) = _; rw [hn]; rfl)
        have G0 : Hid ((frc f)[15]? = some (.int .i64 X0)) := Lib.hid (by rw [e0]; rfl)
        have G1 : Hid ((frc f)[16]? = some (.int .i64 Y0)) := Lib.hid (by rw [e1]; rfl)
        have G2 : Hid ((frc f)[17]? = some (.int .i64 Z0)) := Lib.hid (by rw [e2]; rfl)
        have WK : Hid (IntKind.i64.wrap 5 = 5) := Lib.hid (IntWalk.i64_in _ (by decide))
        clear hn e0 e1 e2
        refine wp_region_M (fun wS => Qw w1 wS) 13 (by kernel_rfl) ?_
        have hSS : Qw w1 (World.drew w1) := qw_drew1 w1
        generalize World.drew w1 = wd at *
        refine wpAnyM_take (i := 0) (v := ?_) rfl (by kernel_rfl) (fun _ _ _ h => h) (Or.inl ⟨by rfl, ?_⟩) hSS ?_
        rotate_left 1
        · intro wS hwS
          go_simp
          try with_reducible rfl
        simp only [List.getElem_toArray, List.getElem_cons_succ, List.getElem_cons_zero, Act.put, List.setIfInBounds_toArray, List.set_cons_zero, List.set_cons_succ]
        refine wpAnyM_take (i := 1) (v := ?_) rfl (by kernel_rfl) (fun _ _ _ h => h) (Or.inl ⟨by rfl, ?_⟩) hSS ?_
        rotate_left 1
        · intro wS hwS
          have y := (FX.out wS hwS).cell' 18 (.int .i64 59) G18.out; go_simp
          try with_reducible rfl
        simp only [List.getElem_toArray, List.getElem_cons_succ, List.getElem_cons_zero, Act.put, List.setIfInBounds_toArray, List.set_cons_zero, List.set_cons_succ]
        refine wpAnyM_take (i := 2) (v := ?_) rfl (by kernel_rfl) (fun _ _ _ h => h) (Or.inl ⟨by rfl, ?_⟩) hSS ?_
        rotate_left 1
        · intro wS hwS
          have ew := WK.out; go_simp
          try with_reducible rfl
        simp only [List.getElem_toArray, List.getElem_cons_succ, List.getElem_cons_zero, Act.put, List.setIfInBounds_toArray, List.set_cons_zero, List.set_cons_succ]
        refine wpAnyM_take (i := 3) (v := ?_) rfl (by kernel_rfl) (fun _ _ _ h => h) (Or.inl ⟨by rfl, ?_⟩) hSS ?_
        rotate_left 1
        · intro wS hwS
          go_simp
          try with_reducible rfl
        simp only [List.getElem_toArray, List.getElem_cons_succ, List.getElem_cons_zero, Act.put, List.setIfInBounds_toArray, List.set_cons_zero, List.set_cons_succ]
        refine wpAnyM_take (i := 4) (v := ?_) rfl (by kernel_rfl) (fun _ _ _ h => h) (Or.inl ⟨by rfl, ?_⟩) hSS ?_
        rotate_left 1
        · intro wS hwS
          have ew := WK.out; go_simp
          try with_reducible rfl
        simp only [List.getElem_toArray, List.getElem_cons_succ, List.getElem_cons_zero, Act.put, List.setIfInBounds_toArray, List.set_cons_zero, List.set_cons_succ]
        refine wpAnyM_take (i := 5) (v := ?_) rfl (by kernel_rfl) (fun _ _ _ h => h) (Or.inl ⟨by rfl, ?_⟩) hSS ?_
        rotate_left 1
        · intro wS hwS
          have y0 := (FX.out wS hwS).cell' 15 (.int .i64 X0) G0.out; have y1 := (FX.out wS hwS).cell' 16 (.int .i64 Y0) G1.out; have y2 := (FX.out wS hwS).cell' 17 (.int .i64 Z0) G2.out; go_simp
          try with_reducible rfl
        simp only [List.getElem_toArray, List.getElem_cons_succ, List.getElem_cons_zero, Act.put, List.setIfInBounds_toArray, List.set_cons_zero, List.set_cons_succ]
        refine wpAnyM_take (i := 6) (v := ?_) rfl (by kernel_rfl) (fun _ _ _ h => h) (Or.inl ⟨by rfl, ?_⟩) hSS ?_
        rotate_left 1
        · intro wS hwS
          go_simp
          try with_reducible rfl
        simp only [List.getElem_toArray, List.getElem_cons_succ, List.getElem_cons_zero, Act.put, List.setIfInBounds_toArray, List.set_cons_zero, List.set_cons_succ]
        refine wpAnyM_take (i := 7) (v := ?_) rfl (by kernel_rfl) (fun _ _ _ h => h) (Or.inl ⟨by rfl, ?_⟩) hSS ?_
        rotate_left 1
        · intro wS hwS
          have y0 := (FX.out wS hwS).cell' 19 (.int .i64 f.lx) rfl; have y1 := (FX.out wS hwS).cell' 20 (.int .i64 f.ly) rfl; have y2 := (FX.out wS hwS).cell' 21 (.int .i64 f.lz) rfl; go_simp
          try with_reducible rfl
        simp only [List.getElem_toArray, List.getElem_cons_succ, List.getElem_cons_zero, Act.put, List.setIfInBounds_toArray, List.set_cons_zero, List.set_cons_succ]
        refine wpAnyM_take (i := 9) (v := ?_) rfl (by kernel_rfl) (fun _ _ _ h => h) (Or.inl ⟨by rfl, ?_⟩) hSS ?_
        rotate_left 1
        · intro wS hwS
          go_simp
          try with_reducible rfl
        simp only [List.getElem_toArray, List.getElem_cons_succ, List.getElem_cons_zero, Act.put, List.setIfInBounds_toArray, List.set_cons_zero, List.set_cons_succ]
        refine wpAnyM_take (i := 10) (v := ?_) rfl (by kernel_rfl) (fun _ _ _ h => h) (Or.inl ⟨by rfl, ?_⟩) hSS ?_
        rotate_left 1
        · intro wS hwS
          have y0 := (FX.out wS hwS).cell' 22 (.int .i64 f.sx) rfl; have y1 := (FX.out wS hwS).cell' 23 (.int .i64 f.sy) rfl; have y2 := (FX.out wS hwS).cell' 24 (.int .i64 f.sz) rfl; go_simp
          try with_reducible rfl
        simp only [List.getElem_toArray, List.getElem_cons_succ, List.getElem_cons_zero, Act.put, List.setIfInBounds_toArray, List.set_cons_zero, List.set_cons_succ]
        refine wpAnyM_two (i := 8) (j := 12) rfl rfl (by kernel_rfl) rfl rfl (fun K hK => ?_) (fun K hK => ?_)
        · go_simp
          refine (AD1.out _).mono ?_
          rintro e w5 ⟨rfl, m⟩
          have m2 := Qw.trans hSS m
          refine hK _ _ (fun _ => m2) ?_
          clear hK K hSS m
          have hSS := m2
          clear m2
          try simp only [List.getElem_toArray, List.getElem_cons_succ, List.getElem_cons_zero, Act.put, List.setIfInBounds_toArray, List.set_cons_zero, List.set_cons_succ]
          refine wpAnyM_two (i := 11) (j := 12) rfl rfl (by kernel_rfl) rfl rfl (fun K hK => ?_) (fun K hK => ?_)
          · go_simp
            refine (AD2.out _).mono ?_
            rintro e w6 ⟨rfl, m⟩
            have m2 := Qw.trans hSS m
            refine hK _ _ (fun _ => m2) ?_
            clear hK K hSS m
            have hSS := m2
            clear m2
            try simp only [List.getElem_toArray, List.getElem_cons_succ, List.getElem_cons_zero, Act.put, List.setIfInBounds_toArray, List.set_cons_zero, List.set_cons_succ]
            refine wpAnyM_one (i := 12) rfl (by kernel_rfl) rfl (fun K hK => ?_)
            go_simp
            refine hK _ _ (fun _ => Qw.al hSS _) ?_
            obtain ⟨wn, N, en, eN, hN, m2, Z, mm⟩ := al_named hSS #[.int .i64 0, .int .i64 0, .int .i64 0] 23
            rw [en, eN]
            replace Z := Lib.hid Z
            clear hK K hSS en eN mm
            have hSS := m2
            clear m2
            try simp only [List.getElem_toArray, List.getElem_cons_succ, List.getElem_cons_zero, Act.put, List.setIfInBounds_toArray, List.set_cons_zero, List.set_cons_succ]
            refine wpAnyM_one (i := 13) rfl (by kernel_rfl) rfl (fun K hK => ?_)
            have z0 := Z.out.cell' 0 (.int .i64 0) rfl
            have z1 := Z.out.cell' 1 (.int .i64 0) rfl
            have z2 := Z.out.cell' 2 (.int .i64 0) rfl
            have y0 := Z.out.free 0
            have y1 := Z.out.free 1
            have y2 := Z.out.free 2
            go_simp
            have hZ := Z.out.st3 (.int .i64 (X0 + f.lx + f.sx)) (.int .i64 (Y0 + f.ly + f.sy)) (.int .i64 (Z0 + f.lz + f.sz))
            have m2 := Qw.st3 hSS hN (.int .i64 (X0 + f.lx + f.sx)) (.int .i64 (Y0 + f.ly + f.sy)) (.int .i64 (Z0 + f.lz + f.sz))
            refine hK _ _ (fun h => absurd h (by decide)) ?_
            clear hK K hSS z0 z1 z2 y0 y1 y2
            try simp only [List.getElem_toArray, List.getElem_cons_succ, List.getElem_cons_zero, Act.put, List.setIfInBounds_toArray, List.set_cons_zero, List.set_cons_succ]
            refine wpAnyM_done (by kernel_rfl) ?_ _
            go_wp2
            go_meet
            exact ⟨_, rfl, hN, Lib.hid hZ, Lib.hid m2⟩
          · go_simp
            refine hK _ _ (fun _ => Qw.al hSS _) ?_
            obtain ⟨wn, N, en, eN, hN, m2, Z, mm⟩ := al_named hSS #[.int .i64 0, .int .i64 0, .int .i64 0] 23
            rw [en, eN]
            replace Z := Lib.hid Z
            clear hK K hSS en eN mm
            have hSS := m2
            clear m2
            try simp only [List.getElem_toArray, List.getElem_cons_succ, List.getElem_cons_zero, Act.put, List.setIfInBounds_toArray, List.set_cons_zero, List.set_cons_succ]
            refine wpAnyM_one (i := 11) rfl (by kernel_rfl) rfl (fun K hK => ?_)
            go_simp
            refine (AD2.out _).mono ?_
            rintro e w6 ⟨rfl, m⟩
            have Z2 := Lib.hid (Z.out.kept m)
            clear Z
            have Z := Z2
            clear Z2
            have m2 := Qw.trans hSS m
            refine hK _ _ (fun _ => m2) ?_
            clear hK K hSS m
            have hSS := m2
            clear m2
            try simp only [List.getElem_toArray, List.getElem_cons_succ, List.getElem_cons_zero, Act.put, List.setIfInBounds_toArray, List.set_cons_zero, List.set_cons_succ]
            refine wpAnyM_one (i := 13) rfl (by kernel_rfl) rfl (fun K hK => ?_)
            have z0 := Z.out.cell' 0 (.int .i64 0) rfl
            have z1 := Z.out.cell' 1 (.int .i64 0) rfl
            have z2 := Z.out.cell' 2 (.int .i64 0) rfl
            have y0 := Z.out.free 0
            have y1 := Z.out.free 1
            have y2 := Z.out.free 2
            go_simp
            have hZ := Z.out.st3 (.int .i64 (X0 + f.lx + f.sx)) (.int .i64 (Y0 + f.ly + f.sy)) (.int .i64 (Z0 + f.lz + f.sz))
            have m2 := Qw.st3 hSS hN (.int .i64 (X0 + f.lx + f.sx)) (.int .i64 (Y0 + f.ly + f.sy)) (.int .i64 (Z0 + f.lz + f.sz))
            refine hK _ _ (fun h => absurd h (by decide)) ?_
            clear hK K hSS z0 z1 z2 y0 y1 y2
            try simp only [List.getElem_toArray, List.getElem_cons_succ, List.getElem_cons_zero, Act.put, List.setIfInBounds_toArray, List.set_cons_zero, List.set_cons_succ]
            refine wpAnyM_done (by kernel_rfl) ?_ _
            go_wp2
            go_meet
            exact ⟨_, rfl, hN, Lib.hid hZ, Lib.hid m2⟩
        · go_simp
          refine hK _ _ (fun _ => Qw.al hSS _) ?_
          obtain ⟨wn, N, en, eN, hN, m2, Z, mm⟩ := al_named hSS #[.int .i64 0, .int .i64 0, .int .i64 0] 23
          rw [en, eN]
          replace Z := Lib.hid Z
          clear hK K hSS en eN mm
          have hSS := m2
          clear m2
          try simp only [List.getElem_toArray, List.getElem_cons_succ, List.getElem_cons_zero, Act.put, List.setIfInBounds_toArray, List.set_cons_zero, List.set_cons_succ]
          refine wpAnyM_one (i := 8) rfl (by kernel_rfl) rfl (fun K hK => ?_)
          go_simp
          refine (AD1.out _).mono ?_
          rintro e w5 ⟨rfl, m⟩
          have Z2 := Lib.hid (Z.out.kept m)
          clear Z
          have Z := Z2
          clear Z2
          have m2 := Qw.trans hSS m
          refine hK _ _ (fun _ => m2) ?_
          clear hK K hSS m
          have hSS := m2
          clear m2
          try simp only [List.getElem_toArray, List.getElem_cons_succ, List.getElem_cons_zero, Act.put, List.setIfInBounds_toArray, List.set_cons_zero, List.set_cons_succ]
          refine wpAnyM_one (i := 11) rfl (by kernel_rfl) rfl (fun K hK => ?_)
          go_simp
          refine (AD2.out _).mono ?_
          rintro e w6 ⟨rfl, m⟩
          have Z2 := Lib.hid (Z.out.kept m)
          clear Z
          have Z := Z2
          clear Z2
          have m2 := Qw.trans hSS m
          refine hK _ _ (fun _ => m2) ?_
          clear hK K hSS m
          have hSS := m2
          clear m2
          try simp only [List.getElem_toArray, List.getElem_cons_succ, List.getElem_cons_zero, Act.put, List.setIfInBounds_toArray, List.set_cons_zero, List.set_cons_succ]
          refine wpAnyM_one (i := 13) rfl (by kernel_rfl) rfl (fun K hK => ?_)
          have z0 := Z.out.cell' 0 (.int .i64 0) rfl
          have z1 := Z.out.cell' 1 (.int .i64 0) rfl
          have z2 := Z.out.cell' 2 (.int .i64 0) rfl
          have y0 := Z.out.free 0
          have y1 := Z.out.free 1
          have y2 := Z.out.free 2
          go_simp
          have hZ := Z.out.st3 (.int .i64 (X0 + f.lx + f.sx)) (.int .i64 (Y0 + f.ly + f.sy)) (.int .i64 (Z0 + f.lz + f.sz))
          have m2 := Qw.st3 hSS hN (.int .i64 (X0 + f.lx + f.sx)) (.int .i64 (Y0 + f.ly + f.sy)) (.int .i64 (Z0 + f.lz + f.sz))
          refine hK _ _ (fun h => absurd h (by decide)) ?_
          clear hK K hSS z0 z1 z2 y0 y1 y2
          try simp only [List.getElem_toArray, List.getElem_cons_succ, List.getElem_cons_zero, Act.put, List.setIfInBounds_toArray, List.set_cons_zero, List.set_cons_succ]
          refine wpAnyM_done (by kernel_rfl) ?_ _
          go_wp2
          go_meet
          exact ⟨_, rfl, hN, Lib.hid hZ, Lib.hid m2⟩
    case rest =>
      clear E AD1 AD2
      obtain ⟨N, rfl, hN, NX, Q2⟩ := hcut
      have n0 := NX.out.cell' 0 (.int .i64 (X0 + f.lx + f.sx)) rfl
      have n1 := NX.out.cell' 1 (.int .i64 (Y0 + f.ly + f.sy)) rfl
      have n2 := NX.out.cell' 2 (.int .i64 (Z0 + f.lz + f.sz)) rfl
      have nf := NX.out.free 2
      have c25 := (FX.out _ Q2.out).cell' 25 (.int .i64 f.g) rfl
      have R2 := RX.out _ Q2.out
      have ltR : R < w1.heap.size := (RX.out _ (Qw.refl w1)).lt
      have neR : R ≠ N := by omega
      have r0 := R2.cell' 0 (.int .i64 0) rfl
      have r1 := R2.cell' 1 (.int .i64 0) rfl
      have r2 := R2.cell' 2 (.int .i64 0) rfl
      have f0 := R2.free 0
      have f1 := R2.free 1
      have f2 := R2.free 2
      have S := (((R2.other (a := ⟨N, 2, none⟩) neR (.int .i64 (Z0 + f.lz + f.sz + f.g))).set 0 (.int .i64 (X0 + f.lx + f.sx))).set 1 (.int .i64 (Y0 + f.ly + f.sy))).set 2 (.int .i64 (Z0 + f.lz + f.sz + f.g))
      have q3 : Qw w wc := Qw.trans Q1.out Q2.out
      have hN2 : w.heap.size ≤ N := by have := Q1.out.size; omega
      have K := Lib.hid (And.intro S (Qw.st3 (Qw.sc (p := ⟨N, 2, none⟩) q3 hN2 (.int .i64 (Z0 + f.lz + f.sz + f.g))) hR (.int .i64 (X0 + f.lx + f.sx)) (.int .i64 (Y0 + f.ly + f.sy)) (.int .i64 (Z0 + f.lz + f.sz + f.g))))
      clear S q3 R2
      go_wp2
      have t0 := K.out.1.cell' 0 (.int .i64 (X0 + f.lx + f.sx)) rfl
      have t1 := K.out.1.cell' 1 (.int .i64 (Y0 + f.ly + f.sy)) rfl
      have t2 := K.out.1.cell' 2 (.int .i64 (Z0 + f.lz + f.sz + f.g)) rfl
      exact bodyPost_ret (v := .agg #[.int .i64 (X0 + f.lx + f.sx), .int .i64 (Y0 + f.ly + f.sy), .int .i64 (Z0 + f.lz + f.sz + f.g)]) (by simp [results, Tryd.results19, go_sem, t0, t1, t2]) rfl ⟨rfl, K.out.2⟩
  have := key (Fm.sysn f) (by have := hg.n1; have := hg.n2; unfold Fm.sysn; omega) (by have := hg.n1; unfold Fm.sysn; omega)
  exact this
end Go.Proofs.YtnjcbgnghfppoaaDoor
