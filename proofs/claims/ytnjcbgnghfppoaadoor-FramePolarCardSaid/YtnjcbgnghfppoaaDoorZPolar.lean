import Derived.Test.YtnjcbgnghfppoaaDoorGSc
import Derived.Test.YtnjcbgnghfppoaaDoorGS
import Derived.Test.YtnjcbgnghfppoaaDoorGFa
import Derived.Test.YtnjcbgnghfppoaaDoorGTx
import Derived.Test.YtnjcbgnghfppoaaDoorGRd
import Derived.Test.YtnjcbgnghfppoaaDoorGN
import Derived.Test.YtnjcbgnghfppoaaDoorGF

/- FramePolar: polar words with right angles lead along the axes of the plane, from the origin or from the position.
   Conditions: the listed table lies as the program's own text lays it (the card ties it); every input. -/
set_option linter.unusedVariables false
set_option linter.unusedSimpArgs false
namespace Go.Proofs.YtnjcbgnghfppoaaDoor
open Go.ChangeShapes Go.WideShapes Go.ChangeAt Go.RowKit

set_option maxRecDepth 100000 in
set_option maxHeartbeats 8000000 in
set_option maxRecDepth 100000 in
set_option maxHeartbeats 8000000 in
theorem walk_framePolar (r : Int) (r1 : -9223372036854775808 ≤ r) (r2 : r ≤ 9223372036854775807) (k : Int) (k1 : -9223372036854775808 ≤ k) (k2 : k ≤ 9223372036854775807) (n : Int) (n1 : -9223372036854775808 ≤ n) (n2 : n ≤ 9223372036854775807) (x : Int) (x1 : -9223372036854775808 ≤ x) (x2 : x ≤ 9223372036854775807) (y : Int) (y1 : -9223372036854775808 ≤ y) (y2 : y ≤ 9223372036854775807) (z : Int) (z1 : -9223372036854775808 ≤ z) (z2 : z ≤ 9223372036854775807) (inc : Bool) (w : World) (T : Tc w) : Calls Tryd.prog 10 #[.int .i64 r, .int .i64 k, .int .i64 n, .agg #[.int .i64 x, .int .i64 y, .int .i64 z], .bool inc] w fun e w' => e = .returned (.bool true) ∧ Below w.heap.size w w' := by
  have AW := Lib.hid (fun (w' : World) (q : Qw w w') => awake12 w' (T.kept q))
  have TK := Lib.hid (fun (w' : World) (q : Qw w w') => T.kept q)
  obtain ⟨rr, hr, cr⟩ := betweenQ r (-90000) 90000 r1 r2 (by decide) (by decide) (by decide)
  obtain ⟨kk, hk, ck⟩ := modQ k 8 k1 k2 (by decide) (by decide)
  obtain ⟨pp, hp, cp⟩ := modQ n 3 n1 n2 (by decide) (by decide)
  obtain ⟨a, ha, c0⟩ := betweenQ x (-100000) 100000 x1 x2 (by decide) (by decide) (by decide)
  obtain ⟨b, hb, c1⟩ := betweenQ y (-100000) 100000 y1 y2 (by decide) (by decide) (by decide)
  obtain ⟨c, hc, c2⟩ := betweenQ z (-100000) 100000 z1 z2 (by decide) (by decide) (by decide)
  have CR := Lib.hid cr
  have CK := Lib.hid ck
  have CP := Lib.hid cp
  have C0 := Lib.hid c0
  have C1 := Lib.hid c1
  have C2 := Lib.hid c2
  have BQ : Hid (Qw w (w.alloc (.cells #[.int .i64 x, .int .i64 y, .int .i64 z] 23))) := Lib.hid (Qw.al (Qw.refl w) _)
  clear cr ck cp c0 c1 c2 T r1 r2 k1 k2 n1 n2 x1 x2 y1 y2 z1 z2
  go_enter Tryd.func10, Tryd.ntmps10
  go_upto_region 2 with (first | (go_at_call 34; ((with_reducible refine (CR.out _).mono ?_); rintro e wr ⟨rfl, q⟩; have QR := Lib.hid q; clear q)) | (go_at_call 15; ((with_reducible refine (CK.out _).mono ?_); rintro e wk ⟨rfl, q⟩; have QK := Lib.hid q; clear q)) | (go_at_call 15; ((with_reducible refine (CP.out _).mono ?_); rintro e wp ⟨rfl, q⟩; have QP := Lib.hid q; clear q)))
  clear CR CK CP
  generalize hpl : 17 + pp = pl at *
  have p1 : 17 ≤ pl := by omega
  have p2 : pl ≤ 19 := by omega
  clear hpl hp
  refine code_of (fun w' => Bx w' w.heap.size #[.int .i64 x, .int .i64 y, .int .i64 z] 23 ∧ Qw w w') ⟨(((Bx.new _ _ _).kept QR.out).kept QK.out).kept QP.out, Qw.trans (Qw.trans (Qw.trans BQ.out QR.out) QK.out) QP.out⟩ ?_
  clear QR QK QP BQ
  rintro w0 ⟨X, q⟩
  have X0 := Lib.hid X
  have Q0 := Lib.hid q
  clear X q
  go_cut [11] (fun pv wx => ∃ D : Nat, pv = .pointer (some ⟨D, 0, none⟩) ∧ Hid (Bx wx D #[.int .i64 a, .int .i64 b, .int .i64 c] 23) ∧ Hid (Qw w0 wx))
  case first =>
    refine wp_region_M (fun wS => Qw w0 wS) 11 (by kernel_rfl) ?_
    have hSS : Qw w0 (World.drew w0) := qw_drew1 w0
    generalize World.drew w0 = wd at *
    refine wpAnyM_take (i := 0) (v := ?_) rfl (by kernel_rfl) (fun _ _ _ h => h) (Or.inl ⟨by rfl, ?_⟩) hSS ?_
    rotate_left 1
    · intro wS hwS
      go_simp
      try with_reducible rfl
    simp only [List.getElem_toArray, List.getElem_cons_succ, List.getElem_cons_zero, Act.put, List.setIfInBounds_toArray, List.set_cons_zero, List.set_cons_succ]
    refine wpAnyM_take (i := 1) (v := ?_) rfl (by kernel_rfl) (fun _ _ _ h => h) (Or.inl ⟨by rfl, ?_⟩) hSS ?_
    rotate_left 1
    · intro wS hwS
      have e0 := (X0.out.kept hwS).cell' 0 (.int .i64 x) rfl; go_simp
      try with_reducible rfl
    simp only [List.getElem_toArray, List.getElem_cons_succ, List.getElem_cons_zero, Act.put, List.setIfInBounds_toArray, List.set_cons_zero, List.set_cons_succ]
    refine wpAnyM_take (i := 3) (v := ?_) rfl (by kernel_rfl) (fun _ _ _ h => h) (Or.inl ⟨by rfl, ?_⟩) hSS ?_
    rotate_left 1
    · intro wS hwS
      go_simp
      try with_reducible rfl
    simp only [List.getElem_toArray, List.getElem_cons_succ, List.getElem_cons_zero, Act.put, List.setIfInBounds_toArray, List.set_cons_zero, List.set_cons_succ]
    refine wpAnyM_take (i := 4) (v := ?_) rfl (by kernel_rfl) (fun _ _ _ h => h) (Or.inl ⟨by rfl, ?_⟩) hSS ?_
    rotate_left 1
    · intro wS hwS
      have e1 := (X0.out.kept hwS).cell' 1 (.int .i64 y) rfl; go_simp
      try with_reducible rfl
    simp only [List.getElem_toArray, List.getElem_cons_succ, List.getElem_cons_zero, Act.put, List.setIfInBounds_toArray, List.set_cons_zero, List.set_cons_succ]
    refine wpAnyM_take (i := 6) (v := ?_) rfl (by kernel_rfl) (fun _ _ _ h => h) (Or.inl ⟨by rfl, ?_⟩) hSS ?_
    rotate_left 1
    · intro wS hwS
      go_simp
      try with_reducible rfl
    simp only [List.getElem_toArray, List.getElem_cons_succ, List.getElem_cons_zero, Act.put, List.setIfInBounds_toArray, List.set_cons_zero, List.set_cons_succ]
    refine wpAnyM_take (i := 7) (v := ?_) rfl (by kernel_rfl) (fun _ _ _ h => h) (Or.inl ⟨by rfl, ?_⟩) hSS ?_
    rotate_left 1
    · intro wS hwS
      have e2 := (X0.out.kept hwS).cell' 2 (.int .i64 z) rfl; go_simp
      try with_reducible rfl
    simp only [List.getElem_toArray, List.getElem_cons_succ, List.getElem_cons_zero, Act.put, List.setIfInBounds_toArray, List.set_cons_zero, List.set_cons_succ]
    refine wpAnyM_two (i := 2) (j := 10) rfl rfl (by kernel_rfl) rfl rfl (fun K hK => ?_) (fun K hK => ?_)
    · go_simp
      refine (C0.out _).mono ?_
      rintro e wc0 ⟨rfl, m⟩
      have m2 := Qw.trans hSS m
      refine hK _ _ (fun _ => m2) ?_
      clear hK K hSS m
      have hSS := m2
      clear m2
      try simp only [List.getElem_toArray, List.getElem_cons_succ, List.getElem_cons_zero, Act.put, List.setIfInBounds_toArray, List.set_cons_zero, List.set_cons_succ]
      refine wpAnyM_two (i := 5) (j := 10) rfl rfl (by kernel_rfl) rfl rfl (fun K hK => ?_) (fun K hK => ?_)
      · go_simp
        refine (C1.out _).mono ?_
        rintro e wc1 ⟨rfl, m⟩
        have m2 := Qw.trans hSS m
        refine hK _ _ (fun _ => m2) ?_
        clear hK K hSS m
        have hSS := m2
        clear m2
        try simp only [List.getElem_toArray, List.getElem_cons_succ, List.getElem_cons_zero, Act.put, List.setIfInBounds_toArray, List.set_cons_zero, List.set_cons_succ]
        refine wpAnyM_two (i := 8) (j := 10) rfl rfl (by kernel_rfl) rfl rfl (fun K hK => ?_) (fun K hK => ?_)
        · go_simp
          refine (C2.out _).mono ?_
          rintro e wc2 ⟨rfl, m⟩
          have m2 := Qw.trans hSS m
          refine hK _ _ (fun _ => m2) ?_
          clear hK K hSS m
          have hSS := m2
          clear m2
          try simp only [List.getElem_toArray, List.getElem_cons_succ, List.getElem_cons_zero, Act.put, List.setIfInBounds_toArray, List.set_cons_zero, List.set_cons_succ]
          refine wpAnyM_take (i := 9) (v := ?_) rfl (by kernel_rfl) (fun _ _ _ h => h) (Or.inl ⟨by rfl, ?_⟩) hSS ?_
          rotate_left 1
          · intro wS hwS
            go_simp
            try with_reducible rfl
          simp only [List.getElem_toArray, List.getElem_cons_succ, List.getElem_cons_zero, Act.put, List.setIfInBounds_toArray, List.set_cons_zero, List.set_cons_succ]
          refine wpAnyM_one (i := 10) rfl (by kernel_rfl) rfl (fun K hK => ?_)
          go_simp
          refine hK _ _ (fun _ => Qw.al hSS _) ?_
          obtain ⟨wn, N, en, eN, hN, m2, Z, mm⟩ := al_named hSS #[.int .i64 0, .int .i64 0, .int .i64 0] 23
          rw [en, eN]
          replace Z := Lib.hid Z
          clear hK K hSS en eN mm
          have hSS := m2
          clear m2
          try simp only [List.getElem_toArray, List.getElem_cons_succ, List.getElem_cons_zero, Act.put, List.setIfInBounds_toArray, List.set_cons_zero, List.set_cons_succ]
          have z0 := Z.out.cell' 0 (.int .i64 0) rfl
          have z1 := Z.out.cell' 1 (.int .i64 0) rfl
          have z2 := Z.out.cell' 2 (.int .i64 0) rfl
          have y0 := Z.out.free 0
          have y1 := Z.out.free 1
          have y2 := Z.out.free 2
          refine wpAnyM_one (i := 11) rfl (by kernel_rfl) rfl (fun K hK => ?_)
          go_simp
          have hZ := Z.out.st3 (.int .i64 a) (.int .i64 b) (.int .i64 c)
          have m2 := Qw.st3 hSS hN (.int .i64 a) (.int .i64 b) (.int .i64 c)
          refine hK _ _ (fun h => absurd h (by decide)) ?_
          clear hK K hSS z0 z1 z2 y0 y1 y2
          try simp only [List.getElem_toArray, List.getElem_cons_succ, List.getElem_cons_zero, Act.put, List.setIfInBounds_toArray, List.set_cons_zero, List.set_cons_succ]
          refine wpAnyM_done (by kernel_rfl) ?_ _
          go_wp2
          go_meet
          exact ⟨_, rfl, Lib.hid hZ, Lib.hid m2⟩
        · go_simp
          refine hK _ _ (fun _ => Qw.al hSS _) ?_
          obtain ⟨wn, N, en, eN, hN, m2, Z, mm⟩ := al_named hSS #[.int .i64 0, .int .i64 0, .int .i64 0] 23
          rw [en, eN]
          replace Z := Lib.hid Z
          clear hK K hSS en eN mm
          have hSS := m2
          clear m2
          try simp only [List.getElem_toArray, List.getElem_cons_succ, List.getElem_cons_zero, Act.put, List.setIfInBounds_toArray, List.set_cons_zero, List.set_cons_succ]
          refine wpAnyM_one (i := 8) rfl (by kernel_rfl) rfl (fun K hK => ?_)
          go_simp
          refine (C2.out _).mono ?_
          rintro e wc2 ⟨rfl, m⟩
          have Z2 := Lib.hid (Z.out.kept m)
          clear Z
          have Z := Z2
          clear Z2
          have m2 := Qw.trans hSS m
          refine hK _ _ (fun _ => m2) ?_
          clear hK K hSS m
          have hSS := m2
          clear m2
          try simp only [List.getElem_toArray, List.getElem_cons_succ, List.getElem_cons_zero, Act.put, List.setIfInBounds_toArray, List.set_cons_zero, List.set_cons_succ]
          refine wpAnyM_take (i := 9) (v := ?_) rfl (by kernel_rfl) (fun _ _ _ h => h) (Or.inl ⟨by rfl, ?_⟩) hSS ?_
          rotate_left 1
          · intro wS hwS
            go_simp
            try with_reducible rfl
          simp only [List.getElem_toArray, List.getElem_cons_succ, List.getElem_cons_zero, Act.put, List.setIfInBounds_toArray, List.set_cons_zero, List.set_cons_succ]
          have z0 := Z.out.cell' 0 (.int .i64 0) rfl
          have z1 := Z.out.cell' 1 (.int .i64 0) rfl
          have z2 := Z.out.cell' 2 (.int .i64 0) rfl
          have y0 := Z.out.free 0
          have y1 := Z.out.free 1
          have y2 := Z.out.free 2
          refine wpAnyM_one (i := 11) rfl (by kernel_rfl) rfl (fun K hK => ?_)
          go_simp
          have hZ := Z.out.st3 (.int .i64 a) (.int .i64 b) (.int .i64 c)
          have m2 := Qw.st3 hSS hN (.int .i64 a) (.int .i64 b) (.int .i64 c)
          refine hK _ _ (fun h => absurd h (by decide)) ?_
          clear hK K hSS z0 z1 z2 y0 y1 y2
          try simp only [List.getElem_toArray, List.getElem_cons_succ, List.getElem_cons_zero, Act.put, List.setIfInBounds_toArray, List.set_cons_zero, List.set_cons_succ]
          refine wpAnyM_done (by kernel_rfl) ?_ _
          go_wp2
          go_meet
          exact ⟨_, rfl, Lib.hid hZ, Lib.hid m2⟩
      · go_simp
        refine hK _ _ (fun _ => Qw.al hSS _) ?_
        obtain ⟨wn, N, en, eN, hN, m2, Z, mm⟩ := al_named hSS #[.int .i64 0, .int .i64 0, .int .i64 0] 23
        rw [en, eN]
        replace Z := Lib.hid Z
        clear hK K hSS en eN mm
        have hSS := m2
        clear m2
        try simp only [List.getElem_toArray, List.getElem_cons_succ, List.getElem_cons_zero, Act.put, List.setIfInBounds_toArray, List.set_cons_zero, List.set_cons_succ]
        refine wpAnyM_one (i := 5) rfl (by kernel_rfl) rfl (fun K hK => ?_)
        go_simp
        refine (C1.out _).mono ?_
        rintro e wc1 ⟨rfl, m⟩
        have Z2 := Lib.hid (Z.out.kept m)
        clear Z
        have Z := Z2
        clear Z2
        have m2 := Qw.trans hSS m
        refine hK _ _ (fun _ => m2) ?_
        clear hK K hSS m
        have hSS := m2
        clear m2
        try simp only [List.getElem_toArray, List.getElem_cons_succ, List.getElem_cons_zero, Act.put, List.setIfInBounds_toArray, List.set_cons_zero, List.set_cons_succ]
        refine wpAnyM_one (i := 8) rfl (by kernel_rfl) rfl (fun K hK => ?_)
        go_simp
        refine (C2.out _).mono ?_
        rintro e wc2 ⟨rfl, m⟩
        have Z2 := Lib.hid (Z.out.kept m)
        clear Z
        have Z := Z2
        clear Z2
        have m2 := Qw.trans hSS m
        refine hK _ _ (fun _ => m2) ?_
        clear hK K hSS m
        have hSS := m2
        clear m2
        try simp only [List.getElem_toArray, List.getElem_cons_succ, List.getElem_cons_zero, Act.put, List.setIfInBounds_toArray, List.set_cons_zero, List.set_cons_succ]
        refine wpAnyM_take (i := 9) (v := ?_) rfl (by kernel_rfl) (fun _ _ _ h => h) (Or.inl ⟨by rfl, ?_⟩) hSS ?_
        rotate_left 1
        · intro wS hwS
          go_simp
          try with_reducible rfl
        simp only [List.getElem_toArray, List.getElem_cons_succ, List.getElem_cons_zero, Act.put, List.setIfInBounds_toArray, List.set_cons_zero, List.set_cons_succ]
        have z0 := Z.out.cell' 0 (.int .i64 0) rfl
        have z1 := Z.out.cell' 1 (.int .i64 0) rfl
        have z2 := Z.out.cell' 2 (.int .i64 0) rfl
        have y0 := Z.out.free 0
        have y1 := Z.out.free 1
        have y2 := Z.out.free 2
        refine wpAnyM_one (i := 11) rfl (by kernel_rfl) rfl (fun K hK => ?_)
        go_simp
        have hZ := Z.out.st3 (.int .i64 a) (.int .i64 b) (.int .i64 c)
        have m2 := Qw.st3 hSS hN (.int .i64 a) (.int .i64 b) (.int .i64 c)
        refine hK _ _ (fun h => absurd h (by decide)) ?_
        clear hK K hSS z0 z1 z2 y0 y1 y2
        try simp only [List.getElem_toArray, List.getElem_cons_succ, List.getElem_cons_zero, Act.put, List.setIfInBounds_toArray, List.set_cons_zero, List.set_cons_succ]
        refine wpAnyM_done (by kernel_rfl) ?_ _
        go_wp2
        go_meet
        exact ⟨_, rfl, Lib.hid hZ, Lib.hid m2⟩
    · go_simp
      refine hK _ _ (fun _ => Qw.al hSS _) ?_
      obtain ⟨wn, N, en, eN, hN, m2, Z, mm⟩ := al_named hSS #[.int .i64 0, .int .i64 0, .int .i64 0] 23
      rw [en, eN]
      replace Z := Lib.hid Z
      clear hK K hSS en eN mm
      have hSS := m2
      clear m2
      try simp only [List.getElem_toArray, List.getElem_cons_succ, List.getElem_cons_zero, Act.put, List.setIfInBounds_toArray, List.set_cons_zero, List.set_cons_succ]
      refine wpAnyM_one (i := 2) rfl (by kernel_rfl) rfl (fun K hK => ?_)
      go_simp
      refine (C0.out _).mono ?_
      rintro e wc0 ⟨rfl, m⟩
      have Z2 := Lib.hid (Z.out.kept m)
      clear Z
      have Z := Z2
      clear Z2
      have m2 := Qw.trans hSS m
      refine hK _ _ (fun _ => m2) ?_
      clear hK K hSS m
      have hSS := m2
      clear m2
      try simp only [List.getElem_toArray, List.getElem_cons_succ, List.getElem_cons_zero, Act.put, List.setIfInBounds_toArray, List.set_cons_zero, List.set_cons_succ]
      refine wpAnyM_one (i := 5) rfl (by kernel_rfl) rfl (fun K hK => ?_)
      go_simp
      refine (C1.out _).mono ?_
      rintro e wc1 ⟨rfl, m⟩
      have Z2 := Lib.hid (Z.out.kept m)
      clear Z
      have Z := Z2
      clear Z2
      have m2 := Qw.trans hSS m
      refine hK _ _ (fun _ => m2) ?_
      clear hK K hSS m
      have hSS := m2
      clear m2
      try simp only [List.getElem_toArray, List.getElem_cons_succ, List.getElem_cons_zero, Act.put, List.setIfInBounds_toArray, List.set_cons_zero, List.set_cons_succ]
      refine wpAnyM_one (i := 8) rfl (by kernel_rfl) rfl (fun K hK => ?_)
      go_simp
      refine (C2.out _).mono ?_
      rintro e wc2 ⟨rfl, m⟩
      have Z2 := Lib.hid (Z.out.kept m)
      clear Z
      have Z := Z2
      clear Z2
      have m2 := Qw.trans hSS m
      refine hK _ _ (fun _ => m2) ?_
      clear hK K hSS m
      have hSS := m2
      clear m2
      try simp only [List.getElem_toArray, List.getElem_cons_succ, List.getElem_cons_zero, Act.put, List.setIfInBounds_toArray, List.set_cons_zero, List.set_cons_succ]
      refine wpAnyM_take (i := 9) (v := ?_) rfl (by kernel_rfl) (fun _ _ _ h => h) (Or.inl ⟨by rfl, ?_⟩) hSS ?_
      rotate_left 1
      · intro wS hwS
        go_simp
        try with_reducible rfl
      simp only [List.getElem_toArray, List.getElem_cons_succ, List.getElem_cons_zero, Act.put, List.setIfInBounds_toArray, List.set_cons_zero, List.set_cons_succ]
      have z0 := Z.out.cell' 0 (.int .i64 0) rfl
      have z1 := Z.out.cell' 1 (.int .i64 0) rfl
      have z2 := Z.out.cell' 2 (.int .i64 0) rfl
      have y0 := Z.out.free 0
      have y1 := Z.out.free 1
      have y2 := Z.out.free 2
      refine wpAnyM_one (i := 11) rfl (by kernel_rfl) rfl (fun K hK => ?_)
      go_simp
      have hZ := Z.out.st3 (.int .i64 a) (.int .i64 b) (.int .i64 c)
      have m2 := Qw.st3 hSS hN (.int .i64 a) (.int .i64 b) (.int .i64 c)
      refine hK _ _ (fun h => absurd h (by decide)) ?_
      clear hK K hSS z0 z1 z2 y0 y1 y2
      try simp only [List.getElem_toArray, List.getElem_cons_succ, List.getElem_cons_zero, Act.put, List.setIfInBounds_toArray, List.set_cons_zero, List.set_cons_succ]
      refine wpAnyM_done (by kernel_rfl) ?_ _
      go_wp2
      go_meet
      exact ⟨_, rfl, Lib.hid hZ, Lib.hid m2⟩
  case rest =>
    obtain ⟨D, rfl, DX, Q1⟩ := hcut
    clear X0 C0 C1 C2
    go_upto_region 5 with (first | (refine bu_msp 42 rfl ?_) | (refine al_md ?_; intro w3 P hP X q; have X3 := Lib.hid X; have Q3 := Lib.hid q; clear X q) | (refine st_to 12 43 rfl rfl X3.out ?_; intro w4 X qf; have X4 := Lib.hid X; have Q4 := Lib.hid (qf _ Q3.out hP); clear X qf))
    refine code_of (fun w' => Bx w' P (mdc (Tg.ms pl 90 16)) MT ∧ Bx w' w4.heap.size #[.int .i64 0, .int .i64 0] 64 ∧ Qw wc w') ⟨X4.out.alloc _, Bx.new _ _ _, Qw.al Q4.out _⟩ ?_
    have nPF : P ≠ w4.heap.size := Nat.ne_of_lt X4.out.lt
    have nDP : D ≠ P := by have := DX.out.lt; omega
    have hF : wc.heap.size ≤ w4.heap.size := Q4.out.size
    clear X3 Q3 X4 Q4
    generalize w4.heap.size = F at *
    rintro w5 ⟨S, FF, q⟩
    have D5 := Lib.hid (DX.out.kept q)
    have S5 := Lib.hid S
    have F5 := Lib.hid FF
    have Q5 := Lib.hid q
    clear S FF q
    cases inc
    · go_upto_region 8 with fail
      refine code_of (fun w' => Bx w' P (mdc (Tg.ms pl 90 16)) MT ∧ Bx w' F #[.int .i64 0, .int .i64 0] 64 ∧ Qw wc w') ⟨S5.out, F5.out, Q5.out⟩ ?_
      clear S5 F5 Q5 D5
      rintro w8 ⟨S, FF, q⟩
      have DX8 := Lib.hid (fun (w' : World) (q' : Qw w8 w') => DX.out.kept (Qw.trans q q'))
      have SX := Lib.hid (fun (w' : World) (q' : Qw w8 w') => S.kept q')
      have FX := Lib.hid (fun (w' : World) (q' : Qw w8 w') => FF.kept q')
      have Q8 := Lib.hid (Qw.trans Q0.out (Qw.trans Q1.out q))
      clear S FF q DX Q0 Q1 nPF nDP hF hP
      have fb := Fm.f_bd (p := pl) (B := 100000) (by decide) ha hb hc
      have qb := Tg.qt_bd hr.1 hr.2
      have PL := Tg.pl_target pl rr kk 90 a b c p1 p2 hr.1 hr.2 (by decide) ha hb hc
      have PO := Tg.po_err pl rr 90 a b c p1 p2 hr.1 hr.2 ha hb hc
      rw [if_neg (show ¬ ((90 : Int) = 91) by decide), if_neg (show ¬ ((90 : Int) = 91) by decide), Int.zero_add, Int.zero_add] at PL
      obtain ⟨e1, e2, e3, e4, e5⟩ := PL
      have AX := Lib.hid (fun w' => rgAxes pl p1 p2 w')
      have HT := Lib.hid (fun w' => rfHeight pl a b c (by omega) (by omega) w')
      have AT := Lib.hid (fun w' => rfAt pl ((Cm.qt (kk % 4).toNat (rr, 0)).1) ((Cm.qt (kk % 4).toNat (rr, 0)).2) (fh pl a b c) (by omega) (by omega) w')
      have AD := Lib.hid (fun w' => by
        have := rfAddPt (0) (0) (Cm.qt (kk % 4).toNat (rr, 0)).1 (Cm.qt (kk % 4).toNat (rr, 0)).2 (by omega) (by omega) (by omega) (by omega) (by have := qb (kk % 4).toNat; omega) (by have := qb (kk % 4).toNat; omega) (by have := qb (kk % 4).toNat; omega) (by have := qb (kk % 4).toNat; omega) w'
        rw [Int.zero_add, Int.zero_add] at this
        exact this)
      have au1 : 0 ≤ Tg.au pl ∧ Tg.au pl ≤ 2 := by rcases Tg.planes p1 p2 with rfl | rfl | rfl <;> decide
      have aw1 : 0 ≤ Tg.aw pl ∧ Tg.aw pl ≤ 2 := by rcases Tg.planes p1 p2 with rfl | rfl | rfl <;> decide
      have CG : Hid (∀ w' : World, Qw w w' → Calls Tryd.prog 27 #[.agg (mdc (Tg.ms pl 90 16)), .slice (some ⟨w'.heap.size, 0, none⟩) 2 2, .agg #[.int .i64 a, .int .i64 b, .int .i64 c]] (w'.alloc (.cells #[.int .i64 (88 + Tg.aw pl), .int .i64 (kk * 90 * 1000000), .int .i64 (88 + Tg.au pl), .int .i64 (rr * 1000)] 58)) fun e w'' => e = .returned (.tuple #[.agg #[.int .i64 (sx pl ((Cm.qt (kk % 4).toNat (rr, 0)).1) ((Cm.qt (kk % 4).toNat (rr, 0)).2) (fh pl a b c)), .int .i64 (sy pl ((Cm.qt (kk % 4).toNat (rr, 0)).1) ((Cm.qt (kk % 4).toNat (rr, 0)).2) (fh pl a b c)), .int .i64 (sz pl ((Cm.qt (kk % 4).toNat (rr, 0)).1) ((Cm.qt (kk % 4).toNat (rr, 0)).2) (fh pl a b c))], .bool true, .int .i64 0]) ∧ Qw (w'.alloc (.cells #[.int .i64 (88 + Tg.aw pl), .int .i64 (kk * 90 * 1000000), .int .i64 (88 + Tg.au pl), .int .i64 (rr * 1000)] 58)) w'') := Lib.hid (fun w' q => by
        have e0 : kk * 90 * 1000000 = kk * 90000000 := by omega
        have := tgTarget (vals_two w' (88 + Tg.aw pl) (kk * 90 * 1000000) (88 + Tg.au pl) (rr * 1000) 58 (by omega) (by omega) (by omega) (by omega)) (Nat.le_refl _) (Tg.ms pl 90 16) p1 p2 (TK.out _ (Qw.al q _)) a b c (by omega) (by omega) (by omega) (by omega) (by omega) (by omega)
        rw [e0] at this ⊢
        rw [show (Tg.ms pl 90 16).pl = pl from rfl, show (Tg.ms pl 90 16).di = 90 from rfl, show (Tg.ms pl 90 16).un = 21 from rfl, show (Tg.ms pl 90 16).po = 16 from rfl, e1, e2, e3, e4, e5] at this
        exact this)
      obtain ⟨v0, v1, v2, vh, cg2⟩ : ∃ (v0 v1 v2 : Int) (vh : Bool), ∀ w' : World, Qw w w' → Calls Tryd.prog 27 #[.agg (mdc (Tg.ms pl 90 16)), .slice (some ⟨w'.heap.size, 0, none⟩) 1 1, .agg #[.int .i64 a, .int .i64 b, .int .i64 c]] (w'.alloc (.cells #[.int .i64 (88 + Tg.au pl), .int .i64 (rr * 1000)] 58)) fun e w'' => e = .returned (.tuple #[.agg #[.int .i64 v0, .int .i64 v1, .int .i64 v2], .bool vh, .int .i64 9]) ∧ Qw (w'.alloc (.cells #[.int .i64 (88 + Tg.au pl), .int .i64 (rr * 1000)] 58)) w'' := ⟨_, _, _, _, fun w' q => by
        have := tgTarget (vals_one' w' (88 + Tg.au pl) (rr * 1000) 58 (by omega) (by omega)) (Nat.le_refl _) (Tg.ms pl 90 16) p1 p2 (TK.out _ (Qw.al q _)) a b c (by omega) (by omega) (by omega) (by omega) (by omega) (by omega)
        rw [show (Tg.ms pl 90 16).pl = pl from rfl, show (Tg.ms pl 90 16).di = 90 from rfl, show (Tg.ms pl 90 16).un = 21 from rfl, show (Tg.ms pl 90 16).po = 16 from rfl, PO] at this
        exact this⟩
      have CH := Lib.hid cg2
      clear e1 e2 e3 e4 e5 PO cg2 TK
      generalize sx pl ((Cm.qt (kk % 4).toNat (rr, 0)).1) ((Cm.qt (kk % 4).toNat (rr, 0)).2) (fh pl a b c) = s0 at *
      generalize sy pl ((Cm.qt (kk % 4).toNat (rr, 0)).1) ((Cm.qt (kk % 4).toNat (rr, 0)).2) (fh pl a b c) = s1 at *
      generalize sz pl ((Cm.qt (kk % 4).toNat (rr, 0)).1) ((Cm.qt (kk % 4).toNat (rr, 0)).2) (fh pl a b c) = s2 at *
      generalize Tg.au pl = ju at *
      generalize Tg.aw pl = jw at *
      go_upto_region 10 with (first | (refine ld_md 12 rfl (SX.out _ Q9.out) ?_) | (go_at_call 38; ((with_reducible refine (AX.out _).mono ?_); rintro e w9 ⟨rfl, q⟩; have d0 := (DX8.out _ q).cell' 0 (.int .i64 a) rfl; have d1 := (DX8.out _ q).cell' 1 (.int .i64 b) rfl; have d2 := (DX8.out _ q).cell' 2 (.int .i64 c) rfl; have lD := (DX8.out _ q).lt; have Q9 := Lib.hid q; clear q)) | (go_at_call 27; ((with_reducible refine (CG.out _ (Qw.trans Q8.out Q9.out)).mono ?_); rintro e w10 ⟨rfl, q⟩; have Q10 := Lib.hid (Qw.trans (Qw.al Q9.out _) q); clear q)))
      refine code_of (fun w' => Bx w' w10.heap.size #[.int .i64 s0, .int .i64 s1, .int .i64 s2] 23 ∧ Qw w8 w') ⟨Bx.new _ _ _, Qw.al Q10.out _⟩ ?_
      clear Q9 Q10 d0 d1 d2 lD AX CG
      generalize w10.heap.size = G at *
      rintro w11 ⟨GG, q11⟩
      have GX := Lib.hid (fun (w' : World) (q : Qw w11 w') => GG.kept q)
      have Q11 := Lib.hid q11
      clear GG q11
      have km : kk.tmod 4 = kk % 4 := Int.tmod_eq_emod_of_nonneg hk.1
      go_wp2
      go_loopw [21] (fun iv wr => ∃ (i : Nat) (u v : Int), (i : Int) ≤ kk % 4 ∧ iv = .int .i64 (i : Int) ∧ u = (Cm.qt i (rr, 0)).1 ∧ v = (Cm.qt i (rr, 0)).2 ∧ Hid (Bx wr w11.heap.size #[.int .i64 u, .int .i64 v] 64) ∧ Hid (Qw w11 wr)) (fun iv _ => 4 - (intOf iv).toNat)
      case atStart => exact ⟨0, rr, 0, by omega, rfl, rfl, rfl, Lib.hid (Bx.new _ _ _), Lib.hid (Qw.al (Qw.refl _) _)⟩
      case round =>
        obtain ⟨i, u, v, hi, rfl, hu, hv, HD, HQ⟩ := hrel
        have ub := qb i
        rw [← hu, ← hv] at ub
        have HU := Lib.hid (And.intro hu hv)
        by_cases h3 : (i : Int) < kk % 4
        · clear hu hv
          have r0 := HD.out.cell' 0 (.int .i64 u) rfl
          have r1 := HD.out.cell' 1 (.int .i64 v) rfl
          have g0 := HD.out.free 0
          have g1 := HD.out.free 1
          go_wp2
          go_roundw
          case rel => exact ⟨i + 1, -v, u, by omega, by go_num, by rw [HU.out.2]; rfl, by rw [HU.out.1]; rfl, Lib.hid ((HD.out.set 0 _).set 1 _), Lib.hid ((HQ.out.setCell (Nat.le_refl _) _).setCell (Nat.le_refl _) _)⟩
          case measure => simp [intOf]; omega
        · obtain rfl : i = (kk % 4).toNat := by omega
          clear ub
          rw [← hu, ← hv] at AD AT
          clear hu hv HU
          have d0 := (DX8.out _ (Qw.trans Q11.out HQ.out)).cell' 0 (.int .i64 a) rfl
          have d1 := (DX8.out _ (Qw.trans Q11.out HQ.out)).cell' 1 (.int .i64 b) rfl
          have d2 := (DX8.out _ (Qw.trans Q11.out HQ.out)).cell' 2 (.int .i64 c) rfl
          have lD := (DX8.out _ (Qw.trans Q11.out HQ.out)).lt
          go_upto_region 16 with (first | (refine ld_md 12 rfl (SX.out _ (Qw.trans Q11.out HQ.out)) ?_) | (go_at_call 27; ((with_reducible refine (CH.out _ (Qw.trans Q8.out (Qw.trans Q11.out HQ.out))).mono ?_); rintro e w13 ⟨rfl, q⟩; have Q13 := Lib.hid (Qw.trans (Qw.al (Qw.refl _) _) q); clear q)))
          have q13 := Qw.al (Qw.trans HQ.out Q13.out) (.cells #[.int .i64 v0, .int .i64 v1, .int .i64 v2] 23)
          refine code_of (fun w' => Bx w' w11.heap.size #[.int .i64 u, .int .i64 v] 64 ∧ Qw w11 w') ⟨(HD.out.kept Q13.out).alloc _, q13⟩ ?_
          clear q13 Q13 HD HQ d0 d1 d2 lD
          rintro w15 ⟨DB, q15⟩
          generalize w11.heap.size = B at *
          have GB := GX.out _ q15
          have FB := FX.out _ (Qw.trans Q11.out q15)
          have VB := DX8.out _ (Qw.trans Q11.out q15)
          have x0 := GB.kcell 0 (.int .i64 s0) rfl
          have x1 := GB.kcell 1 (.int .i64 s1) rfl
          have x2 := GB.kcell 2 (.int .i64 s2) rfl
          have y0 := FB.kcell 0 (.int .i64 (0)) rfl
          have y1 := FB.kcell 1 (.int .i64 (0)) rfl
          have z0 := DB.kcell 0 (.int .i64 u) rfl
          have z1 := DB.kcell 1 (.int .i64 v) rfl
          have t0 := VB.kcell 0 (.int .i64 a) rfl
          have t1 := VB.kcell 1 (.int .i64 b) rfl
          have t2 := VB.kcell 2 (.int .i64 c) rfl
          have q16 := Qw.trans Q8.out (Qw.trans Q11.out q15)
          have AK : ∀ p : Kept w15, Calls Tryd.prog 12 #[] p.v fun e w'' => e = .returned (.bool true) ∧ Qw p.v w'' := fun p => AW.out _ (Qw.trans q16 p.h)
          have AK2 := Lib.hid AK
          have Q16 := Lib.hid q16
          clear AK q16 q15 GB FB VB DB AW GX FX DX8 SX Q11 Q8 CH
          refine region_kept (by kernel_rfl) (by kernel_rfl) ?_
          repeat (go_big_quiet_step (first | (go_at_call 12; with_reducible exact Kept.call (AK2.out _)) | (go_at_call 40; with_reducible exact Kept.call (AD.out _)) | (go_at_call 31; with_reducible exact Kept.call (HT.out _)) | (go_at_call 39; with_reducible exact Kept.call (AT.out _))))
          refine wpQuiet_nil ?_
          intro w17 q17
          have Q17 := Lib.hid (Qw.trans Q16.out q17)
          clear q17
          go_wp2
          go_ret
          exact ⟨rfl, Q17.out⟩
    · have PT := Lib.hid (fun w' => rfPt pl a b c (by omega) (by omega) w')
      have k2 := S5.out.cell' 2 (.int .i64 90) rfl
      have g2 := S5.out.free 2
      have S6 : Hid (Bx (w5.setCell ⟨P, 2, none⟩ (.int .i64 91)) P (mdc (Tg.ms pl 91 16)) MT) := Lib.hid (S5.out.set 2 _)
      have F6 := Lib.hid (F5.out.other (a := ⟨P, 2, none⟩) nPF.symm (.int .i64 91))
      have D6 := Lib.hid (D5.out.other (a := ⟨P, 2, none⟩) nDP (.int .i64 91))
      have a0 := D6.out.cell' 0 (.int .i64 a) rfl
      have a1 := D6.out.cell' 1 (.int .i64 b) rfl
      have a2 := D6.out.cell' 2 (.int .i64 c) rfl
      go_upto_region 8 with (go_at_call 37; ((with_reducible refine (PT.out _).mono ?_); rintro e w7 ⟨rfl, q⟩; have F7 := Lib.hid (F6.out.kept q); have S7 := Lib.hid (S6.out.kept q); have Q7 := Lib.hid (Qw.trans (Q5.out.setCell (p := ⟨P, 2, none⟩) hP _) q); have b0 := F7.out.cell' 0 (.int .i64 0) rfl; have b1 := F7.out.cell' 1 (.int .i64 0) rfl; have j0 := F7.out.free 0; have j1 := F7.out.free 1; clear q))
      refine code_of (fun w' => Bx w' P (mdc (Tg.ms pl 91 16)) MT ∧ Bx w' F #[.int .i64 (fu pl a b c), .int .i64 (fw pl a b c)] 64 ∧ Qw wc w') ⟨(S7.out.other nPF _).other nPF _, (F7.out.set 0 _).set 1 _, (Q7.out.setCell hF _).setCell hF _⟩ ?_
      clear S5 F5 Q5 D5 S6 F6 D6 a0 a1 a2 k2 g2 b0 b1 j0 j1 S7 F7 Q7 PT
      rintro w8 ⟨S, FF, q⟩
      have DX8 := Lib.hid (fun (w' : World) (q' : Qw w8 w') => DX.out.kept (Qw.trans q q'))
      have SX := Lib.hid (fun (w' : World) (q' : Qw w8 w') => S.kept q')
      have FX := Lib.hid (fun (w' : World) (q' : Qw w8 w') => FF.kept q')
      have Q8 := Lib.hid (Qw.trans Q0.out (Qw.trans Q1.out q))
      clear S FF q DX Q0 Q1 nPF nDP hF hP
      have fb := Fm.f_bd (p := pl) (B := 100000) (by decide) ha hb hc
      have qb := Tg.qt_bd hr.1 hr.2
      have PL := Tg.pl_target pl rr kk 91 a b c p1 p2 hr.1 hr.2 (by decide) ha hb hc
      have PO := Tg.po_err pl rr 91 a b c p1 p2 hr.1 hr.2 ha hb hc
      rw [if_pos (show ((91 : Int) = 91) by decide), if_pos (show ((91 : Int) = 91) by decide)] at PL
      obtain ⟨e1, e2, e3, e4, e5⟩ := PL
      have AX := Lib.hid (fun w' => rgAxes pl p1 p2 w')
      have HT := Lib.hid (fun w' => rfHeight pl a b c (by omega) (by omega) w')
      have AT := Lib.hid (fun w' => rfAt pl (fu pl a b c + (Cm.qt (kk % 4).toNat (rr, 0)).1) (fw pl a b c + (Cm.qt (kk % 4).toNat (rr, 0)).2) (fh pl a b c) (by omega) (by omega) w')
      have AD := Lib.hid (fun w' => by
        have := rfAddPt (fu pl a b c) (fw pl a b c) (Cm.qt (kk % 4).toNat (rr, 0)).1 (Cm.qt (kk % 4).toNat (rr, 0)).2 (by omega) (by omega) (by omega) (by omega) (by have := qb (kk % 4).toNat; omega) (by have := qb (kk % 4).toNat; omega) (by have := qb (kk % 4).toNat; omega) (by have := qb (kk % 4).toNat; omega) w'
        skip
        exact this)
      have au1 : 0 ≤ Tg.au pl ∧ Tg.au pl ≤ 2 := by rcases Tg.planes p1 p2 with rfl | rfl | rfl <;> decide
      have aw1 : 0 ≤ Tg.aw pl ∧ Tg.aw pl ≤ 2 := by rcases Tg.planes p1 p2 with rfl | rfl | rfl <;> decide
      have CG : Hid (∀ w' : World, Qw w w' → Calls Tryd.prog 27 #[.agg (mdc (Tg.ms pl 91 16)), .slice (some ⟨w'.heap.size, 0, none⟩) 2 2, .agg #[.int .i64 a, .int .i64 b, .int .i64 c]] (w'.alloc (.cells #[.int .i64 (88 + Tg.aw pl), .int .i64 (kk * 90 * 1000000), .int .i64 (88 + Tg.au pl), .int .i64 (rr * 1000)] 58)) fun e w'' => e = .returned (.tuple #[.agg #[.int .i64 (sx pl (fu pl a b c + (Cm.qt (kk % 4).toNat (rr, 0)).1) (fw pl a b c + (Cm.qt (kk % 4).toNat (rr, 0)).2) (fh pl a b c)), .int .i64 (sy pl (fu pl a b c + (Cm.qt (kk % 4).toNat (rr, 0)).1) (fw pl a b c + (Cm.qt (kk % 4).toNat (rr, 0)).2) (fh pl a b c)), .int .i64 (sz pl (fu pl a b c + (Cm.qt (kk % 4).toNat (rr, 0)).1) (fw pl a b c + (Cm.qt (kk % 4).toNat (rr, 0)).2) (fh pl a b c))], .bool true, .int .i64 0]) ∧ Qw (w'.alloc (.cells #[.int .i64 (88 + Tg.aw pl), .int .i64 (kk * 90 * 1000000), .int .i64 (88 + Tg.au pl), .int .i64 (rr * 1000)] 58)) w'') := Lib.hid (fun w' q => by
        have e0 : kk * 90 * 1000000 = kk * 90000000 := by omega
        have := tgTarget (vals_two w' (88 + Tg.aw pl) (kk * 90 * 1000000) (88 + Tg.au pl) (rr * 1000) 58 (by omega) (by omega) (by omega) (by omega)) (Nat.le_refl _) (Tg.ms pl 91 16) p1 p2 (TK.out _ (Qw.al q _)) a b c (by omega) (by omega) (by omega) (by omega) (by omega) (by omega)
        rw [e0] at this ⊢
        rw [show (Tg.ms pl 91 16).pl = pl from rfl, show (Tg.ms pl 91 16).di = 91 from rfl, show (Tg.ms pl 91 16).un = 21 from rfl, show (Tg.ms pl 91 16).po = 16 from rfl, e1, e2, e3, e4, e5] at this
        exact this)
      obtain ⟨v0, v1, v2, vh, cg2⟩ : ∃ (v0 v1 v2 : Int) (vh : Bool), ∀ w' : World, Qw w w' → Calls Tryd.prog 27 #[.agg (mdc (Tg.ms pl 91 16)), .slice (some ⟨w'.heap.size, 0, none⟩) 1 1, .agg #[.int .i64 a, .int .i64 b, .int .i64 c]] (w'.alloc (.cells #[.int .i64 (88 + Tg.au pl), .int .i64 (rr * 1000)] 58)) fun e w'' => e = .returned (.tuple #[.agg #[.int .i64 v0, .int .i64 v1, .int .i64 v2], .bool vh, .int .i64 9]) ∧ Qw (w'.alloc (.cells #[.int .i64 (88 + Tg.au pl), .int .i64 (rr * 1000)] 58)) w'' := ⟨_, _, _, _, fun w' q => by
        have := tgTarget (vals_one' w' (88 + Tg.au pl) (rr * 1000) 58 (by omega) (by omega)) (Nat.le_refl _) (Tg.ms pl 91 16) p1 p2 (TK.out _ (Qw.al q _)) a b c (by omega) (by omega) (by omega) (by omega) (by omega) (by omega)
        rw [show (Tg.ms pl 91 16).pl = pl from rfl, show (Tg.ms pl 91 16).di = 91 from rfl, show (Tg.ms pl 91 16).un = 21 from rfl, show (Tg.ms pl 91 16).po = 16 from rfl, PO] at this
        exact this⟩
      have CH := Lib.hid cg2
      clear e1 e2 e3 e4 e5 PO cg2 TK
      generalize sx pl (fu pl a b c + (Cm.qt (kk % 4).toNat (rr, 0)).1) (fw pl a b c + (Cm.qt (kk % 4).toNat (rr, 0)).2) (fh pl a b c) = s0 at *
      generalize sy pl (fu pl a b c + (Cm.qt (kk % 4).toNat (rr, 0)).1) (fw pl a b c + (Cm.qt (kk % 4).toNat (rr, 0)).2) (fh pl a b c) = s1 at *
      generalize sz pl (fu pl a b c + (Cm.qt (kk % 4).toNat (rr, 0)).1) (fw pl a b c + (Cm.qt (kk % 4).toNat (rr, 0)).2) (fh pl a b c) = s2 at *
      generalize Tg.au pl = ju at *
      generalize Tg.aw pl = jw at *
      go_upto_region 10 with (first | (refine ld_md 12 rfl (SX.out _ Q9.out) ?_) | (go_at_call 38; ((with_reducible refine (AX.out _).mono ?_); rintro e w9 ⟨rfl, q⟩; have d0 := (DX8.out _ q).cell' 0 (.int .i64 a) rfl; have d1 := (DX8.out _ q).cell' 1 (.int .i64 b) rfl; have d2 := (DX8.out _ q).cell' 2 (.int .i64 c) rfl; have lD := (DX8.out _ q).lt; have Q9 := Lib.hid q; clear q)) | (go_at_call 27; ((with_reducible refine (CG.out _ (Qw.trans Q8.out Q9.out)).mono ?_); rintro e w10 ⟨rfl, q⟩; have Q10 := Lib.hid (Qw.trans (Qw.al Q9.out _) q); clear q)))
      refine code_of (fun w' => Bx w' w10.heap.size #[.int .i64 s0, .int .i64 s1, .int .i64 s2] 23 ∧ Qw w8 w') ⟨Bx.new _ _ _, Qw.al Q10.out _⟩ ?_
      clear Q9 Q10 d0 d1 d2 lD AX CG
      generalize w10.heap.size = G at *
      rintro w11 ⟨GG, q11⟩
      have GX := Lib.hid (fun (w' : World) (q : Qw w11 w') => GG.kept q)
      have Q11 := Lib.hid q11
      clear GG q11
      have km : kk.tmod 4 = kk % 4 := Int.tmod_eq_emod_of_nonneg hk.1
      go_wp2
      go_loopw [21] (fun iv wr => ∃ (i : Nat) (u v : Int), (i : Int) ≤ kk % 4 ∧ iv = .int .i64 (i : Int) ∧ u = (Cm.qt i (rr, 0)).1 ∧ v = (Cm.qt i (rr, 0)).2 ∧ Hid (Bx wr w11.heap.size #[.int .i64 u, .int .i64 v] 64) ∧ Hid (Qw w11 wr)) (fun iv _ => 4 - (intOf iv).toNat)
      case atStart => exact ⟨0, rr, 0, by omega, rfl, rfl, rfl, Lib.hid (Bx.new _ _ _), Lib.hid (Qw.al (Qw.refl _) _)⟩
      case round =>
        obtain ⟨i, u, v, hi, rfl, hu, hv, HD, HQ⟩ := hrel
        have ub := qb i
        rw [← hu, ← hv] at ub
        have HU := Lib.hid (And.intro hu hv)
        by_cases h3 : (i : Int) < kk % 4
        · clear hu hv
          have r0 := HD.out.cell' 0 (.int .i64 u) rfl
          have r1 := HD.out.cell' 1 (.int .i64 v) rfl
          have g0 := HD.out.free 0
          have g1 := HD.out.free 1
          go_wp2
          go_roundw
          case rel => exact ⟨i + 1, -v, u, by omega, by go_num, by rw [HU.out.2]; rfl, by rw [HU.out.1]; rfl, Lib.hid ((HD.out.set 0 _).set 1 _), Lib.hid ((HQ.out.setCell (Nat.le_refl _) _).setCell (Nat.le_refl _) _)⟩
          case measure => simp [intOf]; omega
        · obtain rfl : i = (kk % 4).toNat := by omega
          clear ub
          rw [← hu, ← hv] at AD AT
          clear hu hv HU
          have d0 := (DX8.out _ (Qw.trans Q11.out HQ.out)).cell' 0 (.int .i64 a) rfl
          have d1 := (DX8.out _ (Qw.trans Q11.out HQ.out)).cell' 1 (.int .i64 b) rfl
          have d2 := (DX8.out _ (Qw.trans Q11.out HQ.out)).cell' 2 (.int .i64 c) rfl
          have lD := (DX8.out _ (Qw.trans Q11.out HQ.out)).lt
          go_upto_region 16 with (first | (refine ld_md 12 rfl (SX.out _ (Qw.trans Q11.out HQ.out)) ?_) | (go_at_call 27; ((with_reducible refine (CH.out _ (Qw.trans Q8.out (Qw.trans Q11.out HQ.out))).mono ?_); rintro e w13 ⟨rfl, q⟩; have Q13 := Lib.hid (Qw.trans (Qw.al (Qw.refl _) _) q); clear q)))
          have q13 := Qw.al (Qw.trans HQ.out Q13.out) (.cells #[.int .i64 v0, .int .i64 v1, .int .i64 v2] 23)
          refine code_of (fun w' => Bx w' w11.heap.size #[.int .i64 u, .int .i64 v] 64 ∧ Qw w11 w') ⟨(HD.out.kept Q13.out).alloc _, q13⟩ ?_
          clear q13 Q13 HD HQ d0 d1 d2 lD
          rintro w15 ⟨DB, q15⟩
          generalize w11.heap.size = B at *
          have GB := GX.out _ q15
          have FB := FX.out _ (Qw.trans Q11.out q15)
          have VB := DX8.out _ (Qw.trans Q11.out q15)
          have x0 := GB.kcell 0 (.int .i64 s0) rfl
          have x1 := GB.kcell 1 (.int .i64 s1) rfl
          have x2 := GB.kcell 2 (.int .i64 s2) rfl
          have y0 := FB.kcell 0 (.int .i64 (fu pl a b c)) rfl
          have y1 := FB.kcell 1 (.int .i64 (fw pl a b c)) rfl
          have z0 := DB.kcell 0 (.int .i64 u) rfl
          have z1 := DB.kcell 1 (.int .i64 v) rfl
          have t0 := VB.kcell 0 (.int .i64 a) rfl
          have t1 := VB.kcell 1 (.int .i64 b) rfl
          have t2 := VB.kcell 2 (.int .i64 c) rfl
          have q16 := Qw.trans Q8.out (Qw.trans Q11.out q15)
          have AK : ∀ p : Kept w15, Calls Tryd.prog 12 #[] p.v fun e w'' => e = .returned (.bool true) ∧ Qw p.v w'' := fun p => AW.out _ (Qw.trans q16 p.h)
          have AK2 := Lib.hid AK
          have Q16 := Lib.hid q16
          clear AK q16 q15 GB FB VB DB AW GX FX DX8 SX Q11 Q8 CH
          refine region_kept (by kernel_rfl) (by kernel_rfl) ?_
          repeat (go_big_quiet_step (first | (go_at_call 12; with_reducible exact Kept.call (AK2.out _)) | (go_at_call 40; with_reducible exact Kept.call (AD.out _)) | (go_at_call 31; with_reducible exact Kept.call (HT.out _)) | (go_at_call 39; with_reducible exact Kept.call (AT.out _))))
          refine wpQuiet_nil ?_
          intro w17 q17
          have Q17 := Lib.hid (Qw.trans Q16.out q17)
          clear q17
          go_wp2
          go_ret
          exact ⟨rfl, Q17.out⟩

/-! ### the row and the card -/
theorem reads_framePolar (os : Os) {H : Type} (enc : TypeId × Value → H) : ∃ places, DataW.whole enc Tryd.prog ((laidWorldC os).forCall (fun _ _ => 0) ⟨#[], #[.int .i64 0, .int .i64 0, .int .i64 0, .agg #[.int .i64 0, .int .i64 0, .int .i64 0], .bool false], []⟩).memory Tryd.f10.params.toList Rows.framePolarSpec.vars false #[(.int .i64 0 : Value), .int .i64 0, .int .i64 0, .agg #[.int .i64 0, .int .i64 0, .int .i64 0], .bool false].toList 8 = some ([.lit (.int .i64 0), .lit (.int .i64 0), .lit (.int .i64 0), .agg [.lit (.int .i64 0), .lit (.int .i64 0), .lit (.int .i64 0)], .lit (.bool false)], [], places) :=
  ⟨[], by kernel_rfl⟩
set_option maxRecDepth 100000 in
theorem lifted_framePolar (os : Os) (started : os.Started) (H : Type) (enc : TypeId × Value → H) (F : Stop.Interp) :
    ReturnsInHanded {} Tryd.checked os 10 .any ((OpenSpec.ofChange Rows.framePolarSpec).preRow enc Tryd.prog Tryd.f10 Rows.framePolarRow.domain false Rows.framePolarRow.laid) (((OpenSpec.ofChange Rows.framePolarSpec).at F).post enc Tryd.prog Tryd.f10 false true false false) := by
  obtain ⟨places, hx⟩ := reads_framePolar os enc
  refine returnsInHanded_of_row (C := Tryd.checked) (s := OpenSpec.ofChange Rows.framePolarSpec) ownC started (by kernel_rfl) Tryd.func10
    (witness_row_at (enc := enc) (C := Tryd.checked) false (laidWorldC os) #[.int .i64 0, .int .i64 0, .int .i64 0, .agg #[.int .i64 0, .int .i64 0, .int .i64 0], .bool false] rfl (by kernel_rfl) (by kernel_rfl) (by kernel_rfl)
      (OpenSpec.preRow_of_cond 8 hx (by kernel_rfl) (fun k hk => by cases hk) (by kernel_rfl) (laid_metC os _))) ?_
  intro W base args ds gs before hval0 hW _ _ _ hL _ _
  have ht : Tc W := tableC hL
  have hval : ∀ (j : Nat) t v, Tryd.f10.params[j]? = some t → args[j]? = some v → Value.okWide Tryd.prog W .any base t v := hval0
  have hW' := hW
  obtain ⟨p, q, hA0, hV, rfl, hfz, hnd⟩ := hW
  have hA : DataW.TrodAll enc Tryd.prog W 0 (fun _ => true) true Tryd.f10.params.toList args.toList ds p := hA0
  rw [Tryd.params10] at hA hval
  obtain ⟨v0, vs0, d0, ds0, p0, q0, hargs, rfl, rfl, h0, r0⟩ := trodAll_cons hA
  obtain ⟨v1, vs1, d1, ds1, p1, q1, rfl, rfl, rfl, h1, r1⟩ := trodAll_cons r0
  obtain ⟨v2, vs2, d2, ds2, p2, q2, rfl, rfl, rfl, h2, r2⟩ := trodAll_cons r1
  obtain ⟨v3, vs3, d3, ds3, p3, q3, rfl, rfl, rfl, h3, r3⟩ := trodAll_cons r2
  obtain ⟨v4, vs4, d4, ds4, p4, q4, rfl, rfl, rfl, h4, r4⟩ := trodAll_cons r3
  obtain ⟨rfl, rfl, rfl⟩ := trodAll_nil r4
  obtain rfl : args = #[v0, v1, v2, v3, v4] := by cases args; simp_all
  obtain ⟨rfl, rfl⟩ := trodVars_none hV
  obtain ⟨a0, rfl, rfl, rfl, w0⟩ := open_int Tryd.underlying3 (hval 0 3 v0 rfl rfl) h0
  obtain ⟨x0, y0⟩ := i64_wfC w0
  obtain ⟨a1, rfl, rfl, rfl, w1⟩ := open_int Tryd.underlying3 (hval 1 3 v1 rfl rfl) h1
  obtain ⟨x1, y1⟩ := i64_wfC w1
  obtain ⟨a2, rfl, rfl, rfl, w2⟩ := open_int Tryd.underlying3 (hval 2 3 v2 rfl rfl) h2
  obtain ⟨x2, y2⟩ := i64_wfC w2
  obtain ⟨a3_0, a3_1, a3_2, rfl, rfl, rfl, w3_0, w3_1, w3_2⟩ := open_vec (hval 3 23 v3 rfl rfl) h3
  obtain ⟨x3_0, y3_0⟩ := i64_wfC w3_0
  obtain ⟨x3_1, y3_1⟩ := i64_wfC w3_1
  obtain ⟨x3_2, y3_2⟩ := i64_wfC w3_2
  obtain ⟨a4, rfl, rfl, rfl⟩ := open_bool Tryd.underlying4 (hval 4 4 v4 rfl rfl) h4
  clear hA0 hval0 hL
  simp only [List.append_nil] at hW'
  refine (walk_framePolar a0 x0 y0 a1 x1 y1 a2 x2 y2 a3_0 x3_0 y3_0 a3_1 x3_1 y3_1 a3_2 x3_2 y3_2 a4 W ht).mono fun e W' ⟨he, bel⟩ => ?_
  subst he
  exact ⟨_, rfl, _, _, _, [], _, [], hW', trodAll_mk1 (shut_bool Tryd.underlying4 _), (trodAll_cons_mk (shut_int Tryd.underlying3 w0) (trodAll_cons_mk (shut_int Tryd.underlying3 w1) (trodAll_cons_mk (shut_int Tryd.underlying3 w2) (trodAll_cons_mk (shut_vec w3_0 w3_1 w3_2) (trodAll_cons_mk (shut_bool Tryd.underlying4 _) trodAll_mk0))))), rfl, Below.frame bel _, fun h => by cases h⟩

theorem framePolar_said : Rows.FramePolarSaid :=
  OpenClaim.holds_of_cond 10 Tryd.f10 rfl rfl rfl rfl rfl rfl rfl ⟨rfl, rfl, rfl, rfl, rfl⟩ rfl rfl rfl rfl rfl (by kernel_rfl) Tryd.func10 (by kernel_rfl)
    (of_decide_eq_true (by kernel_rfl)) (by unfold Func.isWrapper; first | (rw [if_pos (by decide +kernel)]; kernel_rfl) | (rw [if_neg (by decide +kernel)]; exact ⟨rfl, rfl⟩))
    (fun os started H enc _ F => by rw [OpenClaim.pre_eq_preRow]; exact lifted_framePolar os started H enc F)

theorem plain_framePolar (f : FuncId) (fn : Func) (hf : Tryd.pinned.checked.prog.funcNamed "cnc/cnclaw12.FramePolar" = some f) (hfn : Tryd.pinned.checked.prog.funcs[f]? = some fn) :
    false = Tryd.pinned.checked.prog.looks [] ∧ ∀ (j : Nat) t, fn.params[j]? = some t → Tryd.pinned.checked.prog.wantsStandIn t = false := by
  obtain rfl : f = 10 := Option.some.inj ((show Tryd.prog.funcNamed "cnc/cnclaw12.FramePolar" = some 10 by kernel_rfl).symm.trans hf) |>.symm
  obtain rfl : fn = Tryd.f10 := (Option.some.inj (Tryd.func10.symm.trans hfn)).symm
  refine ⟨by kernel_rfl, fun j t ht => ?_⟩
  rw [Tryd.params10] at ht
  have hm : t = 3 ∨ t = 23 ∨ t = 4 := by simpa using Array.mem_of_getElem? ht
  rcases hm with rfl | rfl | rfl
  · exact (show Tryd.prog.wantsStandIn 3 = false by kernel_rfl)
  · exact (show Tryd.prog.wantsStandIn 23 = false by kernel_rfl)
  · exact (show Tryd.prog.wantsStandIn 4 = false by kernel_rfl)

/-- The statement. -/
theorem framePolar_card : Rows.FramePolarCardSaid :=
  Claim7.holds_tied_plain_at .later [] _ _ _ _ framePolar_said (fun _ h => by cases h) (by kernel_rfl) (fun _ h => by cases h) framePolar_row_tie rfl ⟨rfl, rfl⟩ (by kernel_rfl) rfl plain_framePolar (by kernel_rfl)

end Go.Proofs.YtnjcbgnghfppoaaDoor
