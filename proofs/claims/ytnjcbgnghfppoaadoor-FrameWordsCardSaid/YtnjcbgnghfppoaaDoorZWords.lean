import Derived.Test.YtnjcbgnghfppoaaDoorGSc
import Derived.Test.YtnjcbgnghfppoaaDoorGS
import Derived.Test.YtnjcbgnghfppoaaDoorGFa
import Derived.Test.YtnjcbgnghfppoaaDoorGTx
import Derived.Test.YtnjcbgnghfppoaaDoorGRd
import Derived.Test.YtnjcbgnghfppoaaDoorGF
import Derived.Test.YtnjcbgnghfppoaaDoorGJ

/- FrameWords: absolute words replace coordinates, incremental words are added, and other words do not matter.
   Conditions: the listed table lies as the program's own text lays it (the card ties it); every input. -/
set_option linter.unusedVariables false
set_option linter.unusedSimpArgs false
namespace Go.Proofs.YtnjcbgnghfppoaaDoor
open Go.ChangeShapes Go.WideShapes Go.ChangeAt Go.RowKit

set_option maxRecDepth 100000 in
set_option maxHeartbeats 8000000 in
theorem own_form {B : Nat} {w : World} {v : Value} {l : Vs.Ar} (h : OwnM B w v l) (hn : 0 < l.length) : ∃ g cap, v = .slice (some ⟨g, 0, none⟩) l.length cap := by
  rcases h.2 with ⟨_, h0⟩ | ⟨g, cap, cur, hv, _⟩
  · omega
  · exact ⟨g, cap, hv⟩
theorem app_qw {w0 w w' : World} {v : Value} {l : Vs.Ar} (q : Qw w0 w) (own : OwnM w0.heap.size w v l) (g : w.grownBy w' v.ownBlock) : Qw w0 w' :=
  ⟨g.os.trans q.os, g.tape.trans q.tape, g.output.trans q.output, Nat.le_trans q.size g.size, fun k hk => (g.block k (Nat.lt_of_lt_of_le hk q.size) (fun e => by have := (own.lt e.symm).1; omega)).trans (q.block k hk)⟩
theorem app_bx {w w' : World} {b : Nat} {cs : Array Value} {t : TypeId} {v : Value} (h : Bx w b cs t) (hn : ∀ g, v.ownBlock = some g → g ≠ b) (g : w.grownBy w' v.ownBlock) : Bx w' b cs t := (g.block b h.lt (fun e => hn b e.symm rfl)).trans h
set_option maxRecDepth 100000 in
set_option maxHeartbeats 8000000 in
theorem walk_frameWords (x : Int) (x1 : -9223372036854775808 ≤ x) (x2 : x ≤ 9223372036854775807) (y : Int) (y1 : -9223372036854775808 ≤ y) (y2 : y ≤ 9223372036854775807) (z : Int) (z1 : -9223372036854775808 ≤ z) (z2 : z ≤ 9223372036854775807) (l : Int) (l1 : -9223372036854775808 ≤ l) (l2 : l ≤ 9223372036854775807) (m : Int) (m1 : -9223372036854775808 ≤ m) (m2 : m ≤ 9223372036854775807) (u : Int) (u1 : -9223372036854775808 ≤ u) (u2 : u ≤ 9223372036854775807) (h : Int) (h1 : -9223372036854775808 ≤ h) (h2 : h ≤ 9223372036854775807) (inc : Bool) (w : World) (T : Tc w) : Calls Tryd.prog 9 #[.agg #[.int .i64 x, .int .i64 y, .int .i64 z], .int .i64 l, .int .i64 m, .int .i64 u, .int .i64 h, .bool inc] w fun e w' => e = .returned (.bool true) ∧ Below w.heap.size w w' := by
  have AW := Lib.hid (fun (w' : World) (q : Qw w w') => awake12 w' (T.kept q))
  have TK := Lib.hid (fun (w' : World) (q : Qw w w') => T.kept q)
  obtain ⟨a, ha, c0⟩ := betweenQ x (-100000) 100000 x1 x2 (by decide) (by decide) (by decide)
  obtain ⟨b, hb, c1⟩ := betweenQ y (-100000) 100000 y1 y2 (by decide) (by decide) (by decide)
  obtain ⟨c, hc, c2⟩ := betweenQ z (-100000) 100000 z1 z2 (by decide) (by decide) (by decide)
  obtain ⟨n0, hn0, e0⟩ := betweenQ l (-90000) 90000 l1 l2 (by decide) (by decide) (by decide)
  obtain ⟨n1, hn1, e1⟩ := betweenQ m (-90000) 90000 m1 m2 (by decide) (by decide) (by decide)
  obtain ⟨n2, hn2, e2⟩ := betweenQ u (-90000) 90000 u1 u2 (by decide) (by decide) (by decide)
  obtain ⟨t, ht, ct⟩ := modQ h 8 h1 h2 (by decide) (by decide)
  have E0 := Lib.hid e0
  have E1 := Lib.hid e1
  have E2 := Lib.hid e2
  have CT := Lib.hid ct
  have C0 := Lib.hid c0
  have C1 := Lib.hid c1
  have C2 := Lib.hid c2
  have BQ : Hid (Qw w (w.alloc (.cells #[.int .i64 x, .int .i64 y, .int .i64 z] 23))) := Lib.hid (Qw.al (Qw.refl w) _)
  clear e0 e1 e2 ct c0 c1 c2 T x1 x2 y1 y2 z1 z2 l1 l2 m1 m2 u1 u2 h1 h2
  have hn : ∀ j, -90000 ≤ Tg.n3 n0 n1 n2 j ∧ Tg.n3 n0 n1 n2 j ≤ 90000 := fun j => by unfold Tg.n3; repeat' split <;> omega
  have ht8 : t = 0 ∨ t = 1 ∨ t = 2 ∨ t = 3 ∨ t = 4 ∨ t = 5 ∨ t = 6 ∨ t = 7 := by omega
  go_enter Tryd.func9, Tryd.ntmps9
  go_upto_region 1 with fail
  refine code_of (fun w' => Bx w' w.heap.size #[.int .i64 x, .int .i64 y, .int .i64 z] 23 ∧ Qw w w') ⟨Bx.new _ _ _, BQ.out⟩ ?_
  clear BQ
  rintro w0 ⟨X, q⟩
  have X0 := Lib.hid X
  have Q0 := Lib.hid q
  clear X q
  go_cut [13] (fun pv wx => ∃ D : Nat, pv = .pointer (some ⟨D, 0, none⟩) ∧ Hid (Bx wx D #[.int .i64 a, .int .i64 b, .int .i64 c] 23) ∧ Hid (Qw w0 wx))
  case first =>
    refine wp_region_M (fun wS => Qw w0 wS) 11 (by kernel_rfl) ?_
    have hSS : Qw w0 (World.drew w0) := qw_drew1 w0
    generalize World.drew w0 = wd at *
    refine wpAnyM_take (i := 0) (v := ?_) rfl (by kernel_rfl) (fun _ _ _ h => h) (Or.inl ⟨by rfl, ?_⟩) hSS ?_
    rotate_left 1
    · intro wS hwS
      go_simp
      try with_reducible rfl
    simp only [List.getElem_toArray, List.getElem_cons_succ, List.getElem_cons_zero, Act.put, List.setIfInBounds_toArray, List.set_cons_zero, List.set_cons_succ]
    refine wpAnyM_take (i := 1) (v := ?_) rfl (by kernel_rfl) (fun _ _ _ h => h) (Or.inl ⟨by rfl, ?_⟩) hSS ?_
    rotate_left 1
    · intro wS hwS
      have e0 := (X0.out.kept hwS).cell' 0 (.int .i64 x) rfl; go_simp
      try with_reducible rfl
    simp only [List.getElem_toArray, List.getElem_cons_succ, List.getElem_cons_zero, Act.put, List.setIfInBounds_toArray, List.set_cons_zero, List.set_cons_succ]
    refine wpAnyM_take (i := 3) (v := ?_) rfl (by kernel_rfl) (fun _ _ _ h => h) (Or.inl ⟨by rfl, ?_⟩) hSS ?_
    rotate_left 1
    · intro wS hwS
      go_simp
      try with_reducible rfl
    simp only [List.getElem_toArray, List.getElem_cons_succ, List.getElem_cons_zero, Act.put, List.setIfInBounds_toArray, List.set_cons_zero, List.set_cons_succ]
    refine wpAnyM_take (i := 4) (v := ?_) rfl (by kernel_rfl) (fun _ _ _ h => h) (Or.inl ⟨by rfl, ?_⟩) hSS ?_
    rotate_left 1
    · intro wS hwS
      have e1 := (X0.out.kept hwS).cell' 1 (.int .i64 y) rfl; go_simp
      try with_reducible rfl
    simp only [List.getElem_toArray, List.getElem_cons_succ, List.getElem_cons_zero, Act.put, List.setIfInBounds_toArray, List.set_cons_zero, List.set_cons_succ]
    refine wpAnyM_take (i := 6) (v := ?_) rfl (by kernel_rfl) (fun _ _ _ h => h) (Or.inl ⟨by rfl, ?_⟩) hSS ?_
    rotate_left 1
    · intro wS hwS
      go_simp
      try with_reducible rfl
    simp only [List.getElem_toArray, List.getElem_cons_succ, List.getElem_cons_zero, Act.put, List.setIfInBounds_toArray, List.set_cons_zero, List.set_cons_succ]
    refine wpAnyM_take (i := 7) (v := ?_) rfl (by kernel_rfl) (fun _ _ _ h => h) (Or.inl ⟨by rfl, ?_⟩) hSS ?_
    rotate_left 1
    · intro wS hwS
      have e2 := (X0.out.kept hwS).cell' 2 (.int .i64 z) rfl; go_simp
      try with_reducible rfl
    simp only [List.getElem_toArray, List.getElem_cons_succ, List.getElem_cons_zero, Act.put, List.setIfInBounds_toArray, List.set_cons_zero, List.set_cons_succ]
    refine wpAnyM_two (i := 2) (j := 10) rfl rfl (by kernel_rfl) rfl rfl (fun K hK => ?_) (fun K hK => ?_)
    · go_simp
      refine (C0.out _).mono ?_
      rintro e wc0 ⟨rfl, m⟩
      have m2 := Qw.trans hSS m
      refine hK _ _ (fun _ => m2) ?_
      clear hK K hSS m
      have hSS := m2
      clear m2
      try simp only [List.getElem_toArray, List.getElem_cons_succ, List.getElem_cons_zero, Act.put, List.setIfInBounds_toArray, List.set_cons_zero, List.set_cons_succ]
      refine wpAnyM_two (i := 5) (j := 10) rfl rfl (by kernel_rfl) rfl rfl (fun K hK => ?_) (fun K hK => ?_)
      · go_simp
        refine (C1.out _).mono ?_
        rintro e wc1 ⟨rfl, m⟩
        have m2 := Qw.trans hSS m
        refine hK _ _ (fun _ => m2) ?_
        clear hK K hSS m
        have hSS := m2
        clear m2
        try simp only [List.getElem_toArray, List.getElem_cons_succ, List.getElem_cons_zero, Act.put, List.setIfInBounds_toArray, List.set_cons_zero, List.set_cons_succ]
        refine wpAnyM_two (i := 8) (j := 10) rfl rfl (by kernel_rfl) rfl rfl (fun K hK => ?_) (fun K hK => ?_)
        · go_simp
          refine (C2.out _).mono ?_
          rintro e wc2 ⟨rfl, m⟩
          have m2 := Qw.trans hSS m
          refine hK _ _ (fun _ => m2) ?_
          clear hK K hSS m
          have hSS := m2
          clear m2
          try simp only [List.getElem_toArray, List.getElem_cons_succ, List.getElem_cons_zero, Act.put, List.setIfInBounds_toArray, List.set_cons_zero, List.set_cons_succ]
          refine wpAnyM_take (i := 9) (v := ?_) rfl (by kernel_rfl) (fun _ _ _ h => h) (Or.inl ⟨by rfl, ?_⟩) hSS ?_
          rotate_left 1
          · intro wS hwS
            go_simp
            try with_reducible rfl
          simp only [List.getElem_toArray, List.getElem_cons_succ, List.getElem_cons_zero, Act.put, List.setIfInBounds_toArray, List.set_cons_zero, List.set_cons_succ]
          refine wpAnyM_one (i := 10) rfl (by kernel_rfl) rfl (fun K hK => ?_)
          go_simp
          refine hK _ _ (fun _ => Qw.al hSS _) ?_
          obtain ⟨wn, N, en, eN, hN, m2, Z, mm⟩ := al_named hSS #[.int .i64 0, .int .i64 0, .int .i64 0] 23
          rw [en, eN]
          replace Z := Lib.hid Z
          clear hK K hSS en eN mm
          have hSS := m2
          clear m2
          try simp only [List.getElem_toArray, List.getElem_cons_succ, List.getElem_cons_zero, Act.put, List.setIfInBounds_toArray, List.set_cons_zero, List.set_cons_succ]
          have z0 := Z.out.cell' 0 (.int .i64 0) rfl
          have z1 := Z.out.cell' 1 (.int .i64 0) rfl
          have z2 := Z.out.cell' 2 (.int .i64 0) rfl
          have y0 := Z.out.free 0
          have y1 := Z.out.free 1
          have y2 := Z.out.free 2
          refine wpAnyM_one (i := 11) rfl (by kernel_rfl) rfl (fun K hK => ?_)
          go_simp
          have hZ := Z.out.st3 (.int .i64 a) (.int .i64 b) (.int .i64 c)
          have m2 := Qw.st3 hSS hN (.int .i64 a) (.int .i64 b) (.int .i64 c)
          refine hK _ _ (fun h => absurd h (by decide)) ?_
          clear hK K hSS z0 z1 z2 y0 y1 y2
          try simp only [List.getElem_toArray, List.getElem_cons_succ, List.getElem_cons_zero, Act.put, List.setIfInBounds_toArray, List.set_cons_zero, List.set_cons_succ]
          refine wpAnyM_done (by kernel_rfl) ?_ _
          go_wp2
          go_meet
          exact ⟨_, rfl, Lib.hid hZ, Lib.hid m2⟩
        · go_simp
          refine hK _ _ (fun _ => Qw.al hSS _) ?_
          obtain ⟨wn, N, en, eN, hN, m2, Z, mm⟩ := al_named hSS #[.int .i64 0, .int .i64 0, .int .i64 0] 23
          rw [en, eN]
          replace Z := Lib.hid Z
          clear hK K hSS en eN mm
          have hSS := m2
          clear m2
          try simp only [List.getElem_toArray, List.getElem_cons_succ, List.getElem_cons_zero, Act.put, List.setIfInBounds_toArray, List.set_cons_zero, List.set_cons_succ]
          refine wpAnyM_one (i := 8) rfl (by kernel_rfl) rfl (fun K hK => ?_)
          go_simp
          refine (C2.out _).mono ?_
          rintro e wc2 ⟨rfl, m⟩
          have Z2 := Lib.hid (Z.out.kept m)
          clear Z
          have Z := Z2
          clear Z2
          have m2 := Qw.trans hSS m
          refine hK _ _ (fun _ => m2) ?_
          clear hK K hSS m
          have hSS := m2
          clear m2
          try simp only [List.getElem_toArray, List.getElem_cons_succ, List.getElem_cons_zero, Act.put, List.setIfInBounds_toArray, List.set_cons_zero, List.set_cons_succ]
          refine wpAnyM_take (i := 9) (v := ?_) rfl (by kernel_rfl) (fun _ _ _ h => h) (Or.inl ⟨by rfl, ?_⟩) hSS ?_
          rotate_left 1
          · intro wS hwS
            go_simp
            try with_reducible rfl
          simp only [List.getElem_toArray, List.getElem_cons_succ, List.getElem_cons_zero, Act.put, List.setIfInBounds_toArray, List.set_cons_zero, List.set_cons_succ]
          have z0 := Z.out.cell' 0 (.int .i64 0) rfl
          have z1 := Z.out.cell' 1 (.int .i64 0) rfl
          have z2 := Z.out.cell' 2 (.int .i64 0) rfl
          have y0 := Z.out.free 0
          have y1 := Z.out.free 1
          have y2 := Z.out.free 2
          refine wpAnyM_one (i := 11) rfl (by kernel_rfl) rfl (fun K hK => ?_)
          go_simp
          have hZ := Z.out.st3 (.int .i64 a) (.int .i64 b) (.int .i64 c)
          have m2 := Qw.st3 hSS hN (.int .i64 a) (.int .i64 b) (.int .i64 c)
          refine hK _ _ (fun h => absurd h (by decide)) ?_
          clear hK K hSS z0 z1 z2 y0 y1 y2
          try simp only [List.getElem_toArray, List.getElem_cons_succ, List.getElem_cons_zero, Act.put, List.setIfInBounds_toArray, List.set_cons_zero, List.set_cons_succ]
          refine wpAnyM_done (by kernel_rfl) ?_ _
          go_wp2
          go_meet
          exact ⟨_, rfl, Lib.hid hZ, Lib.hid m2⟩
      · go_simp
        refine hK _ _ (fun _ => Qw.al hSS _) ?_
        obtain ⟨wn, N, en, eN, hN, m2, Z, mm⟩ := al_named hSS #[.int .i64 0, .int .i64 0, .int .i64 0] 23
        rw [en, eN]
        replace Z := Lib.hid Z
        clear hK K hSS en eN mm
        have hSS := m2
        clear m2
        try simp only [List.getElem_toArray, List.getElem_cons_succ, List.getElem_cons_zero, Act.put, List.setIfInBounds_toArray, List.set_cons_zero, List.set_cons_succ]
        refine wpAnyM_one (i := 5) rfl (by kernel_rfl) rfl (fun K hK => ?_)
        go_simp
        refine (C1.out _).mono ?_
        rintro e wc1 ⟨rfl, m⟩
        have Z2 := Lib.hid (Z.out.kept m)
        clear Z
        have Z := Z2
        clear Z2
        have m2 := Qw.trans hSS m
        refine hK _ _ (fun _ => m2) ?_
        clear hK K hSS m
        have hSS := m2
        clear m2
        try simp only [List.getElem_toArray, List.getElem_cons_succ, List.getElem_cons_zero, Act.put, List.setIfInBounds_toArray, List.set_cons_zero, List.set_cons_succ]
        refine wpAnyM_one (i := 8) rfl (by kernel_rfl) rfl (fun K hK => ?_)
        go_simp
        refine (C2.out _).mono ?_
        rintro e wc2 ⟨rfl, m⟩
        have Z2 := Lib.hid (Z.out.kept m)
        clear Z
        have Z := Z2
        clear Z2
        have m2 := Qw.trans hSS m
        refine hK _ _ (fun _ => m2) ?_
        clear hK K hSS m
        have hSS := m2
        clear m2
        try simp only [List.getElem_toArray, List.getElem_cons_succ, List.getElem_cons_zero, Act.put, List.setIfInBounds_toArray, List.set_cons_zero, List.set_cons_succ]
        refine wpAnyM_take (i := 9) (v := ?_) rfl (by kernel_rfl) (fun _ _ _ h => h) (Or.inl ⟨by rfl, ?_⟩) hSS ?_
        rotate_left 1
        · intro wS hwS
          go_simp
          try with_reducible rfl
        simp only [List.getElem_toArray, List.getElem_cons_succ, List.getElem_cons_zero, Act.put, List.setIfInBounds_toArray, List.set_cons_zero, List.set_cons_succ]
        have z0 := Z.out.cell' 0 (.int .i64 0) rfl
        have z1 := Z.out.cell' 1 (.int .i64 0) rfl
        have z2 := Z.out.cell' 2 (.int .i64 0) rfl
        have y0 := Z.out.free 0
        have y1 := Z.out.free 1
        have y2 := Z.out.free 2
        refine wpAnyM_one (i := 11) rfl (by kernel_rfl) rfl (fun K hK => ?_)
        go_simp
        have hZ := Z.out.st3 (.int .i64 a) (.int .i64 b) (.int .i64 c)
        have m2 := Qw.st3 hSS hN (.int .i64 a) (.int .i64 b) (.int .i64 c)
        refine hK _ _ (fun h => absurd h (by decide)) ?_
        clear hK K hSS z0 z1 z2 y0 y1 y2
        try simp only [List.getElem_toArray, List.getElem_cons_succ, List.getElem_cons_zero, Act.put, List.setIfInBounds_toArray, List.set_cons_zero, List.set_cons_succ]
        refine wpAnyM_done (by kernel_rfl) ?_ _
        go_wp2
        go_meet
        exact ⟨_, rfl, Lib.hid hZ, Lib.hid m2⟩
    · go_simp
      refine hK _ _ (fun _ => Qw.al hSS _) ?_
      obtain ⟨wn, N, en, eN, hN, m2, Z, mm⟩ := al_named hSS #[.int .i64 0, .int .i64 0, .int .i64 0] 23
      rw [en, eN]
      replace Z := Lib.hid Z
      clear hK K hSS en eN mm
      have hSS := m2
      clear m2
      try simp only [List.getElem_toArray, List.getElem_cons_succ, List.getElem_cons_zero, Act.put, List.setIfInBounds_toArray, List.set_cons_zero, List.set_cons_succ]
      refine wpAnyM_one (i := 2) rfl (by kernel_rfl) rfl (fun K hK => ?_)
      go_simp
      refine (C0.out _).mono ?_
      rintro e wc0 ⟨rfl, m⟩
      have Z2 := Lib.hid (Z.out.kept m)
      clear Z
      have Z := Z2
      clear Z2
      have m2 := Qw.trans hSS m
      refine hK _ _ (fun _ => m2) ?_
      clear hK K hSS m
      have hSS := m2
      clear m2
      try simp only [List.getElem_toArray, List.getElem_cons_succ, List.getElem_cons_zero, Act.put, List.setIfInBounds_toArray, List.set_cons_zero, List.set_cons_succ]
      refine wpAnyM_one (i := 5) rfl (by kernel_rfl) rfl (fun K hK => ?_)
      go_simp
      refine (C1.out _).mono ?_
      rintro e wc1 ⟨rfl, m⟩
      have Z2 := Lib.hid (Z.out.kept m)
      clear Z
      have Z := Z2
      clear Z2
      have m2 := Qw.trans hSS m
      refine hK _ _ (fun _ => m2) ?_
      clear hK K hSS m
      have hSS := m2
      clear m2
      try simp only [List.getElem_toArray, List.getElem_cons_succ, List.getElem_cons_zero, Act.put, List.setIfInBounds_toArray, List.set_cons_zero, List.set_cons_succ]
      refine wpAnyM_one (i := 8) rfl (by kernel_rfl) rfl (fun K hK => ?_)
      go_simp
      refine (C2.out _).mono ?_
      rintro e wc2 ⟨rfl, m⟩
      have Z2 := Lib.hid (Z.out.kept m)
      clear Z
      have Z := Z2
      clear Z2
      have m2 := Qw.trans hSS m
      refine hK _ _ (fun _ => m2) ?_
      clear hK K hSS m
      have hSS := m2
      clear m2
      try simp only [List.getElem_toArray, List.getElem_cons_succ, List.getElem_cons_zero, Act.put, List.setIfInBounds_toArray, List.set_cons_zero, List.set_cons_succ]
      refine wpAnyM_take (i := 9) (v := ?_) rfl (by kernel_rfl) (fun _ _ _ h => h) (Or.inl ⟨by rfl, ?_⟩) hSS ?_
      rotate_left 1
      · intro wS hwS
        go_simp
        try with_reducible rfl
      simp only [List.getElem_toArray, List.getElem_cons_succ, List.getElem_cons_zero, Act.put, List.setIfInBounds_toArray, List.set_cons_zero, List.set_cons_succ]
      have z0 := Z.out.cell' 0 (.int .i64 0) rfl
      have z1 := Z.out.cell' 1 (.int .i64 0) rfl
      have z2 := Z.out.cell' 2 (.int .i64 0) rfl
      have y0 := Z.out.free 0
      have y1 := Z.out.free 1
      have y2 := Z.out.free 2
      refine wpAnyM_one (i := 11) rfl (by kernel_rfl) rfl (fun K hK => ?_)
      go_simp
      have hZ := Z.out.st3 (.int .i64 a) (.int .i64 b) (.int .i64 c)
      have m2 := Qw.st3 hSS hN (.int .i64 a) (.int .i64 b) (.int .i64 c)
      refine hK _ _ (fun h => absurd h (by decide)) ?_
      clear hK K hSS z0 z1 z2 y0 y1 y2
      try simp only [List.getElem_toArray, List.getElem_cons_succ, List.getElem_cons_zero, Act.put, List.setIfInBounds_toArray, List.set_cons_zero, List.set_cons_succ]
      refine wpAnyM_done (by kernel_rfl) ?_ _
      go_wp2
      go_meet
      exact ⟨_, rfl, Lib.hid hZ, Lib.hid m2⟩
  case rest =>
    obtain ⟨D, rfl, DX, Q1⟩ := hcut
    clear X0 C0 C1 C2
    go_upto_region 3 with (first | (go_at_call 34; ((with_reducible refine (E0.out _).mono ?_); rintro e w2 ⟨rfl, q⟩; have Q2 := Lib.hid q; clear q)) | (go_at_call 34; ((with_reducible refine (E1.out _).mono ?_); rintro e w3 ⟨rfl, q⟩; have Q3 := Lib.hid (Qw.trans Q2.out q); clear q)) | (go_at_call 34; ((with_reducible refine (E2.out _).mono ?_); rintro e w4 ⟨rfl, q⟩; have Q4 := Lib.hid (Qw.trans Q3.out q); clear q)))
    refine code_of (fun w' => Bx w' w4.heap.size #[.int .i64 n0, .int .i64 n1, .int .i64 n2] 3 ∧ Qw wc w') ⟨Bx.new _ _ _, Qw.al Q4.out _⟩ ?_
    clear Q2 Q3 Q4 E0 E1 E2
    generalize w4.heap.size = N at *
    rintro w5 ⟨NN, q5⟩
    have N5 := Lib.hid NN
    have Q5 := Lib.hid q5
    clear NN q5
    go_upto_region 4 with (first | (refine bu_msw ?_) | (refine al_md ?_; intro w6 P hP X q; have X6 := Lib.hid X; have Q6 := Lib.hid q; clear X q) | (refine st_to 15 40 rfl rfl X6.out ?_; intro w7 X qf; have X7 := Lib.hid X; have Q7 := Lib.hid (qf _ Q6.out hP); clear X qf))
    have hP' : wc.heap.size ≤ P := Nat.le_trans Q5.out.size hP
    have N7 := Lib.hid (N5.out.kept Q7.out)
    have Q8 := Lib.hid (Qw.trans Q5.out Q7.out)
    have nNP : N ≠ P := by have := N5.out.lt; omega
    clear X6 Q6 Q7 N5 Q5 hP
    cases inc
    · go_upto_region 6 with fail
      refine code_of (fun w' => Bx w' P (mdc (Tg.ms 17 90 15)) MT ∧ Bx w' N #[.int .i64 n0, .int .i64 n1, .int .i64 n2] 3 ∧ Qw wc w') ⟨X7.out, N7.out, Q8.out⟩ ?_
      clear X7 N7 Q8 nNP
      rintro w8 ⟨S, NN, q⟩
      have DX8 := Lib.hid (fun (w' : World) (q' : Qw w8 w') => DX.out.kept (Qw.trans q q'))
      have SX := Lib.hid (fun (w' : World) (q' : Qw w8 w') => S.kept q')
      have NX := Lib.hid (fun (w' : World) (q' : Qw w8 w') => NN.kept q')
      have Q9 := Lib.hid (Qw.trans Q0.out (Qw.trans Q1.out q))
      have lD := (DX8.out _ (Qw.refl w8)).lt
      have d0 := (DX8.out _ (Qw.refl w8)).cell' 0 (.int .i64 a) rfl
      have d1 := (DX8.out _ (Qw.refl w8)).cell' 1 (.int .i64 b) rfl
      have d2 := (DX8.out _ (Qw.refl w8)).cell' 2 (.int .i64 c) rfl
      clear S NN q DX Q0 Q1 hP'
      obtain ⟨bt, hb0, hb1, hb2⟩ : ∃ bt : Nat → Bool, (bits BinOp.and IntKind.i64 t 1 == 0) = !(bt 0) ∧ (bits BinOp.and IntKind.i64 (t / 2) 1 == 0) = !(bt 1) ∧ (bits BinOp.and IntKind.i64 (t / 4) 1 == 0) = !(bt 2) := ⟨fun j => !(if j = 0 then (bits BinOp.and IntKind.i64 t 1 == 0) else if j = 1 then (bits BinOp.and IntKind.i64 (t / 2) 1 == 0) else (bits BinOp.and IntKind.i64 (t / 4) 1 == 0)), by simp, by simp, by simp⟩
      go_wp2
      go_loopw [16, 18] (fun lv iv wr => ∃ (i : Nat), i ≤ 3 ∧ iv = .int .i64 (i : Int) ∧ OwnM w8.heap.size wr lv (Tg.wl bt (Tg.n3 n0 n1 n2) i) ∧ (∀ g, lv.ownBlock = some g → g ≠ w8.heap.size + 1) ∧ Hid (Bx wr (w8.heap.size + 1) #[.int .i64 (Tg.wt bt (Tg.n3 n0 n1 n2) 90 a i 0), .int .i64 (Tg.wt bt (Tg.n3 n0 n1 n2) 90 b i 1), .int .i64 (Tg.wt bt (Tg.n3 n0 n1 n2) 90 c i 2)] 23) ∧ Hid (Qw w8 wr)) (fun _ iv _ => 3 - (intOf iv).toNat)
      case atStart => exact ⟨0, by omega, rfl, (own_start w8 70 77).qw (Qw.al (Qw.refl _) _), fun g hg => (by have h : w8.heap.size = g := (by simpa [Value.ownBlock] using hg); omega), Lib.hid (bxn _ _ _ _), Lib.hid (Qw.al (Qw.al (Qw.refl _) _) _)⟩
      case round =>
        clear d0 d1 d2 lD
        obtain ⟨i, hi, rfl, own, nog, HW, HQ⟩ := hrel
        by_cases h3 : i < 3
        · have h3' : (i : Int) < 3 := by omega
          have hW := HW.out.lt
          rcases (show i = 0 ∨ i = 1 ∨ i = 2 by omega) with rfl | rfl | rfl
          · have hwl := Tg.wl_len bt (Tg.n3 n0 n1 n2) 0
            cases hbi : bt 0
            · rw [hbi] at hb0
              go_wp2_with (go_at_call 15; ((with_reducible refine (CT.out _).mono ?_); rintro e wm ⟨rfl, q⟩; have QM := Lib.hid q; clear q))
              go_roundw
              case rel => exact ⟨1, by omega, rfl, by rw [Tg.wl_same _ hbi]; exact own.qw QM.out, nog, by rw [Tg.wt_same _ _ _ _ hbi, Tg.wt_same _ _ _ _ hbi, Tg.wt_same _ _ _ _ hbi]; exact Lib.hid (HW.out.kept QM.out), Lib.hid (Qw.trans HQ.out QM.out)⟩
              case measure => simp [intOf]
            · rw [hbi] at hb0
              have GT := Lib.hid hbi
              have PU : Hid (∀ w' : World, Calls Tryd.prog 36 #[.agg #[.int .i64 (Tg.wt bt (Tg.n3 n0 n1 n2) 90 a 0 0), .int .i64 (Tg.wt bt (Tg.n3 n0 n1 n2) 90 b 0 1), .int .i64 (Tg.wt bt (Tg.n3 n0 n1 n2) 90 c 0 2)], .int .i64 88, .int .i64 n0] w' fun e w'' => e = .returned (.agg #[.int .i64 (n0), .int .i64 (Tg.wt bt (Tg.n3 n0 n1 n2) 90 b 0 1), .int .i64 (Tg.wt bt (Tg.n3 n0 n1 n2) 90 c 0 2)]) ∧ Qw w' w'') := Lib.hid (fun w' => rgPut 0 n0 _ _ _ (by decide) w')
              go_wp2_with (first | (go_at_call 15; ((with_reducible refine (CT.out _).mono ?_); rintro e wm ⟨rfl, q⟩; have QM := Lib.hid q; have QM8 := Lib.hid (Qw.al (Qw.trans HQ.out q) (.cells #[.int .i64 88, .int .i64 (n0 * 1000)] 58)); have OM := Lib.hid (own.qw (Qw.al q (.cells #[.int .i64 88, .int .i64 (n0 * 1000)] 58))); have WM := Lib.hid (HW.out.kept (Qw.al q (.cells #[.int .i64 88, .int .i64 (n0 * 1000)] 58))); have n0' := (NX.out _ (Qw.trans HQ.out q)).cell' 0 (.int .i64 n0) rfl; have ln0 := (NX.out _ (Qw.trans HQ.out q)).lt; clear q)) | (refine val_append 57 66 (88, n0 * 1000) w8.heap.size u16 (Tg.wl bt (Tg.n3 n0 n1 n2) 0) wm.heap.size rfl rfl (Bx.new wm _ _) OM.out (by omega) (by have := QM8.out.size; omega) ?_; intro sl' wa o g nr; have QA := Lib.hid (app_qw QM8.out OM.out g); have WA := Lib.hid (app_bx WM.out nog g); have OA := Lib.hid o; have nog' : ∀ g, sl'.ownBlock = some g → g ≠ w8.heap.size + 1 := (fun g h => (nr g h).elim (nog g) (fun k => (by have := WM.out.lt; omega))); have n0' := (NX.out _ QA.out).cell' 0 (.int .i64 n0) rfl; have a0 := WA.out.cell' 0 (.int .i64 (Tg.wt bt (Tg.n3 n0 n1 n2) 90 a 0 0)) rfl; have a1 := WA.out.cell' 1 (.int .i64 (Tg.wt bt (Tg.n3 n0 n1 n2) 90 b 0 1)) rfl; have a2 := WA.out.cell' 2 (.int .i64 (Tg.wt bt (Tg.n3 n0 n1 n2) 90 c 0 2)) rfl; clear o g nr) | (go_at_call 36; ((with_reducible refine (PU.out _).mono ?_); rintro e wp ⟨rfl, q⟩; have WP := Lib.hid (WA.out.kept q); have OP := Lib.hid (OA.out.qw q); have QP := Lib.hid (Qw.trans QA.out q); clear a0 a1 a2; have a0 := WP.out.cell' 0 (.int .i64 (Tg.wt bt (Tg.n3 n0 n1 n2) 90 a 0 0)) rfl; have a1 := WP.out.cell' 1 (.int .i64 (Tg.wt bt (Tg.n3 n0 n1 n2) 90 b 0 1)) rfl; have a2 := WP.out.cell' 2 (.int .i64 (Tg.wt bt (Tg.n3 n0 n1 n2) 90 c 0 2)) rfl; have f0 := WP.out.free 0; have f1 := WP.out.free 1; have f2 := WP.out.free 2; clear q)))
              go_roundw
              case rel =>
                refine ⟨1, by omega, rfl, ?_, nog', ?_, Lib.hid (Qw.st3 QP.out (Nat.le_succ _) _ _ _)⟩
                · rw [Tg.wl_new _ hbi]; exact OP.out.st3 nog' _ _ _
                · rw [Tg.wt_new (i := 0) _ 90 a hbi, Tg.wt_other (i := 0) (j := 1) bt _ 90 b (by decide), Tg.wt_other (i := 0) (j := 2) bt _ 90 c (by decide), if_neg (show ¬ ((90 : Int) = 91) by decide)]
                  exact Lib.hid (WP.out.st3 _ _ _)
              case measure => simp [intOf]
          · have hwl := Tg.wl_len bt (Tg.n3 n0 n1 n2) 1
            cases hbi : bt 1
            · rw [hbi] at hb1
              go_wp2_with (go_at_call 15; ((with_reducible refine (CT.out _).mono ?_); rintro e wm ⟨rfl, q⟩; have QM := Lib.hid q; clear q))
              go_roundw
              case rel => exact ⟨2, by omega, rfl, by rw [Tg.wl_same _ hbi]; exact own.qw QM.out, nog, by rw [Tg.wt_same _ _ _ _ hbi, Tg.wt_same _ _ _ _ hbi, Tg.wt_same _ _ _ _ hbi]; exact Lib.hid (HW.out.kept QM.out), Lib.hid (Qw.trans HQ.out QM.out)⟩
              case measure => simp [intOf]
            · rw [hbi] at hb1
              have GT := Lib.hid hbi
              have PU : Hid (∀ w' : World, Calls Tryd.prog 36 #[.agg #[.int .i64 (Tg.wt bt (Tg.n3 n0 n1 n2) 90 a 1 0), .int .i64 (Tg.wt bt (Tg.n3 n0 n1 n2) 90 b 1 1), .int .i64 (Tg.wt bt (Tg.n3 n0 n1 n2) 90 c 1 2)], .int .i64 89, .int .i64 n1] w' fun e w'' => e = .returned (.agg #[.int .i64 (Tg.wt bt (Tg.n3 n0 n1 n2) 90 a 1 0), .int .i64 (n1), .int .i64 (Tg.wt bt (Tg.n3 n0 n1 n2) 90 c 1 2)]) ∧ Qw w' w'') := Lib.hid (fun w' => rgPut 1 n1 _ _ _ (by decide) w')
              go_wp2_with (first | (go_at_call 15; ((with_reducible refine (CT.out _).mono ?_); rintro e wm ⟨rfl, q⟩; have QM := Lib.hid q; have QM8 := Lib.hid (Qw.al (Qw.trans HQ.out q) (.cells #[.int .i64 89, .int .i64 (n1 * 1000)] 58)); have OM := Lib.hid (own.qw (Qw.al q (.cells #[.int .i64 89, .int .i64 (n1 * 1000)] 58))); have WM := Lib.hid (HW.out.kept (Qw.al q (.cells #[.int .i64 89, .int .i64 (n1 * 1000)] 58))); have n0' := (NX.out _ (Qw.trans HQ.out q)).cell' 1 (.int .i64 n1) rfl; have ln0 := (NX.out _ (Qw.trans HQ.out q)).lt; clear q)) | (refine val_append 57 66 (89, n1 * 1000) w8.heap.size u16 (Tg.wl bt (Tg.n3 n0 n1 n2) 1) wm.heap.size rfl rfl (Bx.new wm _ _) OM.out (by omega) (by have := QM8.out.size; omega) ?_; intro sl' wa o g nr; have QA := Lib.hid (app_qw QM8.out OM.out g); have WA := Lib.hid (app_bx WM.out nog g); have OA := Lib.hid o; have nog' : ∀ g, sl'.ownBlock = some g → g ≠ w8.heap.size + 1 := (fun g h => (nr g h).elim (nog g) (fun k => (by have := WM.out.lt; omega))); have n0' := (NX.out _ QA.out).cell' 1 (.int .i64 n1) rfl; have a0 := WA.out.cell' 0 (.int .i64 (Tg.wt bt (Tg.n3 n0 n1 n2) 90 a 1 0)) rfl; have a1 := WA.out.cell' 1 (.int .i64 (Tg.wt bt (Tg.n3 n0 n1 n2) 90 b 1 1)) rfl; have a2 := WA.out.cell' 2 (.int .i64 (Tg.wt bt (Tg.n3 n0 n1 n2) 90 c 1 2)) rfl; clear o g nr) | (go_at_call 36; ((with_reducible refine (PU.out _).mono ?_); rintro e wp ⟨rfl, q⟩; have WP := Lib.hid (WA.out.kept q); have OP := Lib.hid (OA.out.qw q); have QP := Lib.hid (Qw.trans QA.out q); clear a0 a1 a2; have a0 := WP.out.cell' 0 (.int .i64 (Tg.wt bt (Tg.n3 n0 n1 n2) 90 a 1 0)) rfl; have a1 := WP.out.cell' 1 (.int .i64 (Tg.wt bt (Tg.n3 n0 n1 n2) 90 b 1 1)) rfl; have a2 := WP.out.cell' 2 (.int .i64 (Tg.wt bt (Tg.n3 n0 n1 n2) 90 c 1 2)) rfl; have f0 := WP.out.free 0; have f1 := WP.out.free 1; have f2 := WP.out.free 2; clear q)))
              go_roundw
              case rel =>
                refine ⟨2, by omega, rfl, ?_, nog', ?_, Lib.hid (Qw.st3 QP.out (Nat.le_succ _) _ _ _)⟩
                · rw [Tg.wl_new _ hbi]; exact OP.out.st3 nog' _ _ _
                · rw [Tg.wt_new (i := 1) _ 90 b hbi, Tg.wt_other (i := 1) (j := 0) bt _ 90 a (by decide), Tg.wt_other (i := 1) (j := 2) bt _ 90 c (by decide), if_neg (show ¬ ((90 : Int) = 91) by decide)]
                  exact Lib.hid (WP.out.st3 _ _ _)
              case measure => simp [intOf]
          · have hwl := Tg.wl_len bt (Tg.n3 n0 n1 n2) 2
            cases hbi : bt 2
            · rw [hbi] at hb2
              go_wp2_with (go_at_call 15; ((with_reducible refine (CT.out _).mono ?_); rintro e wm ⟨rfl, q⟩; have QM := Lib.hid q; clear q))
              go_roundw
              case rel => exact ⟨3, by omega, rfl, by rw [Tg.wl_same _ hbi]; exact own.qw QM.out, nog, by rw [Tg.wt_same _ _ _ _ hbi, Tg.wt_same _ _ _ _ hbi, Tg.wt_same _ _ _ _ hbi]; exact Lib.hid (HW.out.kept QM.out), Lib.hid (Qw.trans HQ.out QM.out)⟩
              case measure => simp [intOf]
            · rw [hbi] at hb2
              have GT := Lib.hid hbi
              have PU : Hid (∀ w' : World, Calls Tryd.prog 36 #[.agg #[.int .i64 (Tg.wt bt (Tg.n3 n0 n1 n2) 90 a 2 0), .int .i64 (Tg.wt bt (Tg.n3 n0 n1 n2) 90 b 2 1), .int .i64 (Tg.wt bt (Tg.n3 n0 n1 n2) 90 c 2 2)], .int .i64 90, .int .i64 n2] w' fun e w'' => e = .returned (.agg #[.int .i64 (Tg.wt bt (Tg.n3 n0 n1 n2) 90 a 2 0), .int .i64 (Tg.wt bt (Tg.n3 n0 n1 n2) 90 b 2 1), .int .i64 (n2)]) ∧ Qw w' w'') := Lib.hid (fun w' => rgPut 2 n2 _ _ _ (by decide) w')
              go_wp2_with (first | (go_at_call 15; ((with_reducible refine (CT.out _).mono ?_); rintro e wm ⟨rfl, q⟩; have QM := Lib.hid q; have QM8 := Lib.hid (Qw.al (Qw.trans HQ.out q) (.cells #[.int .i64 90, .int .i64 (n2 * 1000)] 58)); have OM := Lib.hid (own.qw (Qw.al q (.cells #[.int .i64 90, .int .i64 (n2 * 1000)] 58))); have WM := Lib.hid (HW.out.kept (Qw.al q (.cells #[.int .i64 90, .int .i64 (n2 * 1000)] 58))); have n0' := (NX.out _ (Qw.trans HQ.out q)).cell' 2 (.int .i64 n2) rfl; have ln0 := (NX.out _ (Qw.trans HQ.out q)).lt; clear q)) | (refine val_append 57 66 (90, n2 * 1000) w8.heap.size u16 (Tg.wl bt (Tg.n3 n0 n1 n2) 2) wm.heap.size rfl rfl (Bx.new wm _ _) OM.out (by omega) (by have := QM8.out.size; omega) ?_; intro sl' wa o g nr; have QA := Lib.hid (app_qw QM8.out OM.out g); have WA := Lib.hid (app_bx WM.out nog g); have OA := Lib.hid o; have nog' : ∀ g, sl'.ownBlock = some g → g ≠ w8.heap.size + 1 := (fun g h => (nr g h).elim (nog g) (fun k => (by have := WM.out.lt; omega))); have n0' := (NX.out _ QA.out).cell' 2 (.int .i64 n2) rfl; have a0 := WA.out.cell' 0 (.int .i64 (Tg.wt bt (Tg.n3 n0 n1 n2) 90 a 2 0)) rfl; have a1 := WA.out.cell' 1 (.int .i64 (Tg.wt bt (Tg.n3 n0 n1 n2) 90 b 2 1)) rfl; have a2 := WA.out.cell' 2 (.int .i64 (Tg.wt bt (Tg.n3 n0 n1 n2) 90 c 2 2)) rfl; clear o g nr) | (go_at_call 36; ((with_reducible refine (PU.out _).mono ?_); rintro e wp ⟨rfl, q⟩; have WP := Lib.hid (WA.out.kept q); have OP := Lib.hid (OA.out.qw q); have QP := Lib.hid (Qw.trans QA.out q); clear a0 a1 a2; have a0 := WP.out.cell' 0 (.int .i64 (Tg.wt bt (Tg.n3 n0 n1 n2) 90 a 2 0)) rfl; have a1 := WP.out.cell' 1 (.int .i64 (Tg.wt bt (Tg.n3 n0 n1 n2) 90 b 2 1)) rfl; have a2 := WP.out.cell' 2 (.int .i64 (Tg.wt bt (Tg.n3 n0 n1 n2) 90 c 2 2)) rfl; have f0 := WP.out.free 0; have f1 := WP.out.free 1; have f2 := WP.out.free 2; clear q)))
              go_roundw
              case rel =>
                refine ⟨3, by omega, rfl, ?_, nog', ?_, Lib.hid (Qw.st3 QP.out (Nat.le_succ _) _ _ _)⟩
                · rw [Tg.wl_new _ hbi]; exact OP.out.st3 nog' _ _ _
                · rw [Tg.wt_new (i := 2) _ 90 c hbi, Tg.wt_other (i := 2) (j := 0) bt _ 90 a (by decide), Tg.wt_other (i := 2) (j := 1) bt _ 90 b (by decide), if_neg (show ¬ ((90 : Int) = 91) by decide)]
                  exact Lib.hid (WP.out.st3 _ _ _)
              case measure => simp [intOf]
        · obtain rfl : i = 3 := by omega
          have hwl := Tg.wl_len bt (Tg.n3 n0 n1 n2) 3
          obtain ⟨e1, e2, e3, e4, e5⟩ := Tg.wl_target bt (Tg.n3 n0 n1 n2) hn 90 a b c ha hb hc
          have TG := tgTarget (own.vals (Tg.wl_bdd bt _ hn 3 (by decide))) (Nat.le_refl _) (Tg.ms 17 90 15) (by decide) (by decide) (TK.out _ (Qw.trans Q9.out HQ.out)) a b c (by omega) (by omega) (by omega) (by omega) (by omega) (by omega)
          rw [show (Tg.ms 17 90 15).pl = 17 from rfl, show (Tg.ms 17 90 15).di = 90 from rfl, show (Tg.ms 17 90 15).un = 21 from rfl, show (Tg.ms 17 90 15).po = 15 from rfl, e1, e2, e3, e4, e5] at TG
          obtain ⟨g, cap, hv⟩ := own_form own (by omega)
          have TH := Lib.hid TG
          clear TG e1 e2 e3 e4 e5 own nog hb0 hb1 hb2 CT h3 hi
          generalize (Tg.wl bt (Tg.n3 n0 n1 n2) 3).length = ln at *
          generalize Tg.wt bt (Tg.n3 n0 n1 n2) 90 a 3 0 = s0 at *
          generalize Tg.wt bt (Tg.n3 n0 n1 n2) 90 b 3 1 = s1 at *
          generalize Tg.wt bt (Tg.n3 n0 n1 n2) 90 c 3 2 = s2 at *
          subst hv
          have d0 := (DX8.out _ HQ.out).cell' 0 (.int .i64 a) rfl
          have d1 := (DX8.out _ HQ.out).cell' 1 (.int .i64 b) rfl
          have d2 := (DX8.out _ HQ.out).cell' 2 (.int .i64 c) rfl
          go_upto_region 18 with (first | (refine ld_md 15 rfl (SX.out _ HQ.out) ?_) | (go_at_call 27; ((with_reducible refine (TH.out).mono ?_); rintro e wq ⟨rfl, q⟩; have QQ := Lib.hid q; clear q)))
          refine code_of (fun w' => Bx w' wq.heap.size #[.int .i64 s0, .int .i64 s1, .int .i64 s2] 23 ∧ Qw wr w') ⟨Bx.new _ _ _, Qw.al QQ.out _⟩ ?_
          clear QQ TH d0 d1 d2
          generalize wq.heap.size = G at *
          rintro w18 ⟨GG, q⟩
          have GX := Lib.hid GG
          have WX := Lib.hid (HW.out.kept q)
          have QX := Lib.hid (Qw.trans HQ.out q)
          clear GG q HW HQ
          by_cases hl : 1 < ln
          · have hl1 : decide (1 < ln) = true := decide_eq_true hl
            have hl2 : (1 : Int) < (ln : Int) := by omega
            rw [hl1]
            go_wp2_with (go_at_call 12; ((with_reducible refine (AW.out _ (Qw.trans Q9.out QX.out)).mono ?_); rintro e wy ⟨rfl, q⟩; have QY := Lib.hid q; have g0 := (GX.out.kept q).cell' 0 (.int .i64 s0) rfl; have v0 := (WX.out.kept q).cell' 0 (.int .i64 s0) rfl; have g1 := (GX.out.kept q).cell' 1 (.int .i64 s1) rfl; have v1 := (WX.out.kept q).cell' 1 (.int .i64 s1) rfl; have g2 := (GX.out.kept q).cell' 2 (.int .i64 s2) rfl; have v2 := (WX.out.kept q).cell' 2 (.int .i64 s2) rfl; clear q))
            go_ret
            exact ⟨rfl, Qw.trans Q9.out (Qw.trans QX.out QY.out)⟩
          · have hl1 : decide (1 < ln) = false := decide_eq_false hl
            have hl2 : ¬ ((1 : Int) < (ln : Int)) := by omega
            rw [hl1]
            go_wp2_with (go_at_call 12; ((with_reducible refine (AW.out _ (Qw.trans Q9.out QX.out)).mono ?_); rintro e wy ⟨rfl, q⟩; have QY := Lib.hid q; have g0 := (GX.out.kept q).cell' 0 (.int .i64 s0) rfl; have v0 := (WX.out.kept q).cell' 0 (.int .i64 s0) rfl; have g1 := (GX.out.kept q).cell' 1 (.int .i64 s1) rfl; have v1 := (WX.out.kept q).cell' 1 (.int .i64 s1) rfl; have g2 := (GX.out.kept q).cell' 2 (.int .i64 s2) rfl; have v2 := (WX.out.kept q).cell' 2 (.int .i64 s2) rfl; clear q))
            have hm : decide ((1 : Int) < (ln : Int)) = false := decide_eq_false (by omega)
            simp only [hm, Bool.not_false]
            go_ret
            exact ⟨rfl, Qw.trans Q9.out (Qw.trans QX.out QY.out)⟩
    · have k2 := X7.out.cell' 2 (.int .i64 90) rfl
      have g2 := X7.out.free 2
      have X8 : Hid (Bx (w7.setCell ⟨P, 2, none⟩ (.int .i64 91)) P (mdc (Tg.ms 17 91 15)) MT) := Lib.hid (X7.out.set 2 _)
      go_upto_region 6 with fail
      refine code_of (fun w' => Bx w' P (mdc (Tg.ms 17 91 15)) MT ∧ Bx w' N #[.int .i64 n0, .int .i64 n1, .int .i64 n2] 3 ∧ Qw wc w') ⟨X8.out, N7.out.other nNP _, Q8.out.setCell (p := ⟨P, 2, none⟩) hP' _⟩ ?_
      clear X7 X8 N7 Q8 nNP k2 g2
      rintro w8 ⟨S, NN, q⟩
      have DX8 := Lib.hid (fun (w' : World) (q' : Qw w8 w') => DX.out.kept (Qw.trans q q'))
      have SX := Lib.hid (fun (w' : World) (q' : Qw w8 w') => S.kept q')
      have NX := Lib.hid (fun (w' : World) (q' : Qw w8 w') => NN.kept q')
      have Q9 := Lib.hid (Qw.trans Q0.out (Qw.trans Q1.out q))
      have lD := (DX8.out _ (Qw.refl w8)).lt
      have d0 := (DX8.out _ (Qw.refl w8)).cell' 0 (.int .i64 a) rfl
      have d1 := (DX8.out _ (Qw.refl w8)).cell' 1 (.int .i64 b) rfl
      have d2 := (DX8.out _ (Qw.refl w8)).cell' 2 (.int .i64 c) rfl
      clear S NN q DX Q0 Q1 hP'
      obtain ⟨bt, hb0, hb1, hb2⟩ : ∃ bt : Nat → Bool, (bits BinOp.and IntKind.i64 t 1 == 0) = !(bt 0) ∧ (bits BinOp.and IntKind.i64 (t / 2) 1 == 0) = !(bt 1) ∧ (bits BinOp.and IntKind.i64 (t / 4) 1 == 0) = !(bt 2) := ⟨fun j => !(if j = 0 then (bits BinOp.and IntKind.i64 t 1 == 0) else if j = 1 then (bits BinOp.and IntKind.i64 (t / 2) 1 == 0) else (bits BinOp.and IntKind.i64 (t / 4) 1 == 0)), by simp, by simp, by simp⟩
      go_wp2
      go_loopw [16, 18] (fun lv iv wr => ∃ (i : Nat), i ≤ 3 ∧ iv = .int .i64 (i : Int) ∧ OwnM w8.heap.size wr lv (Tg.wl bt (Tg.n3 n0 n1 n2) i) ∧ (∀ g, lv.ownBlock = some g → g ≠ w8.heap.size + 1) ∧ Hid (Bx wr (w8.heap.size + 1) #[.int .i64 (Tg.wt bt (Tg.n3 n0 n1 n2) 91 a i 0), .int .i64 (Tg.wt bt (Tg.n3 n0 n1 n2) 91 b i 1), .int .i64 (Tg.wt bt (Tg.n3 n0 n1 n2) 91 c i 2)] 23) ∧ Hid (Qw w8 wr)) (fun _ iv _ => 3 - (intOf iv).toNat)
      case atStart => exact ⟨0, by omega, rfl, (own_start w8 70 77).qw (Qw.al (Qw.refl _) _), fun g hg => (by have h : w8.heap.size = g := (by simpa [Value.ownBlock] using hg); omega), Lib.hid (bxn _ _ _ _), Lib.hid (Qw.al (Qw.al (Qw.refl _) _) _)⟩
      case round =>
        clear d0 d1 d2 lD
        obtain ⟨i, hi, rfl, own, nog, HW, HQ⟩ := hrel
        by_cases h3 : i < 3
        · have h3' : (i : Int) < 3 := by omega
          have hW := HW.out.lt
          rcases (show i = 0 ∨ i = 1 ∨ i = 2 by omega) with rfl | rfl | rfl
          · have hwl := Tg.wl_len bt (Tg.n3 n0 n1 n2) 0
            cases hbi : bt 0
            · rw [hbi] at hb0
              go_wp2_with (go_at_call 15; ((with_reducible refine (CT.out _).mono ?_); rintro e wm ⟨rfl, q⟩; have QM := Lib.hid q; clear q))
              go_roundw
              case rel => exact ⟨1, by omega, rfl, by rw [Tg.wl_same _ hbi]; exact own.qw QM.out, nog, by rw [Tg.wt_same _ _ _ _ hbi, Tg.wt_same _ _ _ _ hbi, Tg.wt_same _ _ _ _ hbi]; exact Lib.hid (HW.out.kept QM.out), Lib.hid (Qw.trans HQ.out QM.out)⟩
              case measure => simp [intOf]
            · rw [hbi] at hb0
              have GT : Hid (∀ w' : World, Calls Tryd.prog 35 #[.agg #[.int .i64 a, .int .i64 b, .int .i64 c], .int .i64 88] w' fun e w'' => e = .returned (.int .i64 a) ∧ Qw w' w'') := Lib.hid (fun w' => rgGet 0 a b c (by decide) w')
              have PU : Hid (∀ w' : World, Calls Tryd.prog 36 #[.agg #[.int .i64 (Tg.wt bt (Tg.n3 n0 n1 n2) 91 a 0 0), .int .i64 (Tg.wt bt (Tg.n3 n0 n1 n2) 91 b 0 1), .int .i64 (Tg.wt bt (Tg.n3 n0 n1 n2) 91 c 0 2)], .int .i64 88, .int .i64 (n0 + a)] w' fun e w'' => e = .returned (.agg #[.int .i64 ((n0 + a)), .int .i64 (Tg.wt bt (Tg.n3 n0 n1 n2) 91 b 0 1), .int .i64 (Tg.wt bt (Tg.n3 n0 n1 n2) 91 c 0 2)]) ∧ Qw w' w'') := Lib.hid (fun w' => rgPut 0 (n0 + a) _ _ _ (by decide) w')
              go_wp2_with (first | (go_at_call 15; ((with_reducible refine (CT.out _).mono ?_); rintro e wm ⟨rfl, q⟩; have QM := Lib.hid q; have QM8 := Lib.hid (Qw.al (Qw.trans HQ.out q) (.cells #[.int .i64 88, .int .i64 (n0 * 1000)] 58)); have OM := Lib.hid (own.qw (Qw.al q (.cells #[.int .i64 88, .int .i64 (n0 * 1000)] 58))); have WM := Lib.hid (HW.out.kept (Qw.al q (.cells #[.int .i64 88, .int .i64 (n0 * 1000)] 58))); have n0' := (NX.out _ (Qw.trans HQ.out q)).cell' 0 (.int .i64 n0) rfl; have ln0 := (NX.out _ (Qw.trans HQ.out q)).lt; clear q)) | (refine val_append 57 66 (88, n0 * 1000) w8.heap.size u16 (Tg.wl bt (Tg.n3 n0 n1 n2) 0) wm.heap.size rfl rfl (Bx.new wm _ _) OM.out (by omega) (by have := QM8.out.size; omega) ?_; intro sl' wa o g nr; have QA := Lib.hid (app_qw QM8.out OM.out g); have WA := Lib.hid (app_bx WM.out nog g); have OA := Lib.hid o; have nog' : ∀ g, sl'.ownBlock = some g → g ≠ w8.heap.size + 1 := (fun g h => (nr g h).elim (nog g) (fun k => (by have := WM.out.lt; omega))); have n0' := (NX.out _ QA.out).cell' 0 (.int .i64 n0) rfl; have d0 := (DX8.out _ QA.out).cell' 0 (.int .i64 a) rfl; have d1 := (DX8.out _ QA.out).cell' 1 (.int .i64 b) rfl; have d2 := (DX8.out _ QA.out).cell' 2 (.int .i64 c) rfl; clear o g nr) | (go_at_call 36; ((with_reducible refine (PU.out _).mono ?_); rintro e wp ⟨rfl, q⟩; have WP := Lib.hid (WG.out.kept q); have OP := Lib.hid (OG.out.qw q); have QP := Lib.hid (Qw.trans QG.out q); clear a0 a1 a2; have a0 := WP.out.cell' 0 (.int .i64 (Tg.wt bt (Tg.n3 n0 n1 n2) 91 a 0 0)) rfl; have a1 := WP.out.cell' 1 (.int .i64 (Tg.wt bt (Tg.n3 n0 n1 n2) 91 b 0 1)) rfl; have a2 := WP.out.cell' 2 (.int .i64 (Tg.wt bt (Tg.n3 n0 n1 n2) 91 c 0 2)) rfl; have f0 := WP.out.free 0; have f1 := WP.out.free 1; have f2 := WP.out.free 2; clear q)) | (go_at_call 35; ((with_reducible refine (GT.out _).mono ?_); rintro e wg ⟨rfl, q⟩; have WG := Lib.hid (WA.out.kept q); have OG := Lib.hid (OA.out.qw q); have QG := Lib.hid (Qw.trans QA.out q); have a0 := WG.out.cell' 0 (.int .i64 (Tg.wt bt (Tg.n3 n0 n1 n2) 91 a 0 0)) rfl; have a1 := WG.out.cell' 1 (.int .i64 (Tg.wt bt (Tg.n3 n0 n1 n2) 91 b 0 1)) rfl; have a2 := WG.out.cell' 2 (.int .i64 (Tg.wt bt (Tg.n3 n0 n1 n2) 91 c 0 2)) rfl; clear q)))
              go_roundw
              case rel =>
                refine ⟨1, by omega, rfl, ?_, nog', ?_, Lib.hid (Qw.st3 QP.out (Nat.le_succ _) _ _ _)⟩
                · rw [Tg.wl_new _ hbi]; exact OP.out.st3 nog' _ _ _
                · rw [Tg.wt_new (i := 0) _ 91 a hbi, Tg.wt_other (i := 0) (j := 1) bt _ 91 b (by decide), Tg.wt_other (i := 0) (j := 2) bt _ 91 c (by decide), if_pos (show ((91 : Int) = 91) by decide)]
                  exact Lib.hid (WP.out.st3 _ _ _)
              case measure => simp [intOf]
          · have hwl := Tg.wl_len bt (Tg.n3 n0 n1 n2) 1
            cases hbi : bt 1
            · rw [hbi] at hb1
              go_wp2_with (go_at_call 15; ((with_reducible refine (CT.out _).mono ?_); rintro e wm ⟨rfl, q⟩; have QM := Lib.hid q; clear q))
              go_roundw
              case rel => exact ⟨2, by omega, rfl, by rw [Tg.wl_same _ hbi]; exact own.qw QM.out, nog, by rw [Tg.wt_same _ _ _ _ hbi, Tg.wt_same _ _ _ _ hbi, Tg.wt_same _ _ _ _ hbi]; exact Lib.hid (HW.out.kept QM.out), Lib.hid (Qw.trans HQ.out QM.out)⟩
              case measure => simp [intOf]
            · rw [hbi] at hb1
              have GT : Hid (∀ w' : World, Calls Tryd.prog 35 #[.agg #[.int .i64 a, .int .i64 b, .int .i64 c], .int .i64 89] w' fun e w'' => e = .returned (.int .i64 b) ∧ Qw w' w'') := Lib.hid (fun w' => rgGet 1 a b c (by decide) w')
              have PU : Hid (∀ w' : World, Calls Tryd.prog 36 #[.agg #[.int .i64 (Tg.wt bt (Tg.n3 n0 n1 n2) 91 a 1 0), .int .i64 (Tg.wt bt (Tg.n3 n0 n1 n2) 91 b 1 1), .int .i64 (Tg.wt bt (Tg.n3 n0 n1 n2) 91 c 1 2)], .int .i64 89, .int .i64 (n1 + b)] w' fun e w'' => e = .returned (.agg #[.int .i64 (Tg.wt bt (Tg.n3 n0 n1 n2) 91 a 1 0), .int .i64 ((n1 + b)), .int .i64 (Tg.wt bt (Tg.n3 n0 n1 n2) 91 c 1 2)]) ∧ Qw w' w'') := Lib.hid (fun w' => rgPut 1 (n1 + b) _ _ _ (by decide) w')
              go_wp2_with (first | (go_at_call 15; ((with_reducible refine (CT.out _).mono ?_); rintro e wm ⟨rfl, q⟩; have QM := Lib.hid q; have QM8 := Lib.hid (Qw.al (Qw.trans HQ.out q) (.cells #[.int .i64 89, .int .i64 (n1 * 1000)] 58)); have OM := Lib.hid (own.qw (Qw.al q (.cells #[.int .i64 89, .int .i64 (n1 * 1000)] 58))); have WM := Lib.hid (HW.out.kept (Qw.al q (.cells #[.int .i64 89, .int .i64 (n1 * 1000)] 58))); have n0' := (NX.out _ (Qw.trans HQ.out q)).cell' 1 (.int .i64 n1) rfl; have ln0 := (NX.out _ (Qw.trans HQ.out q)).lt; clear q)) | (refine val_append 57 66 (89, n1 * 1000) w8.heap.size u16 (Tg.wl bt (Tg.n3 n0 n1 n2) 1) wm.heap.size rfl rfl (Bx.new wm _ _) OM.out (by omega) (by have := QM8.out.size; omega) ?_; intro sl' wa o g nr; have QA := Lib.hid (app_qw QM8.out OM.out g); have WA := Lib.hid (app_bx WM.out nog g); have OA := Lib.hid o; have nog' : ∀ g, sl'.ownBlock = some g → g ≠ w8.heap.size + 1 := (fun g h => (nr g h).elim (nog g) (fun k => (by have := WM.out.lt; omega))); have n0' := (NX.out _ QA.out).cell' 1 (.int .i64 n1) rfl; have d0 := (DX8.out _ QA.out).cell' 0 (.int .i64 a) rfl; have d1 := (DX8.out _ QA.out).cell' 1 (.int .i64 b) rfl; have d2 := (DX8.out _ QA.out).cell' 2 (.int .i64 c) rfl; clear o g nr) | (go_at_call 36; ((with_reducible refine (PU.out _).mono ?_); rintro e wp ⟨rfl, q⟩; have WP := Lib.hid (WG.out.kept q); have OP := Lib.hid (OG.out.qw q); have QP := Lib.hid (Qw.trans QG.out q); clear a0 a1 a2; have a0 := WP.out.cell' 0 (.int .i64 (Tg.wt bt (Tg.n3 n0 n1 n2) 91 a 1 0)) rfl; have a1 := WP.out.cell' 1 (.int .i64 (Tg.wt bt (Tg.n3 n0 n1 n2) 91 b 1 1)) rfl; have a2 := WP.out.cell' 2 (.int .i64 (Tg.wt bt (Tg.n3 n0 n1 n2) 91 c 1 2)) rfl; have f0 := WP.out.free 0; have f1 := WP.out.free 1; have f2 := WP.out.free 2; clear q)) | (go_at_call 35; ((with_reducible refine (GT.out _).mono ?_); rintro e wg ⟨rfl, q⟩; have WG := Lib.hid (WA.out.kept q); have OG := Lib.hid (OA.out.qw q); have QG := Lib.hid (Qw.trans QA.out q); have a0 := WG.out.cell' 0 (.int .i64 (Tg.wt bt (Tg.n3 n0 n1 n2) 91 a 1 0)) rfl; have a1 := WG.out.cell' 1 (.int .i64 (Tg.wt bt (Tg.n3 n0 n1 n2) 91 b 1 1)) rfl; have a2 := WG.out.cell' 2 (.int .i64 (Tg.wt bt (Tg.n3 n0 n1 n2) 91 c 1 2)) rfl; clear q)))
              go_roundw
              case rel =>
                refine ⟨2, by omega, rfl, ?_, nog', ?_, Lib.hid (Qw.st3 QP.out (Nat.le_succ _) _ _ _)⟩
                · rw [Tg.wl_new _ hbi]; exact OP.out.st3 nog' _ _ _
                · rw [Tg.wt_new (i := 1) _ 91 b hbi, Tg.wt_other (i := 1) (j := 0) bt _ 91 a (by decide), Tg.wt_other (i := 1) (j := 2) bt _ 91 c (by decide), if_pos (show ((91 : Int) = 91) by decide)]
                  exact Lib.hid (WP.out.st3 _ _ _)
              case measure => simp [intOf]
          · have hwl := Tg.wl_len bt (Tg.n3 n0 n1 n2) 2
            cases hbi : bt 2
            · rw [hbi] at hb2
              go_wp2_with (go_at_call 15; ((with_reducible refine (CT.out _).mono ?_); rintro e wm ⟨rfl, q⟩; have QM := Lib.hid q; clear q))
              go_roundw
              case rel => exact ⟨3, by omega, rfl, by rw [Tg.wl_same _ hbi]; exact own.qw QM.out, nog, by rw [Tg.wt_same _ _ _ _ hbi, Tg.wt_same _ _ _ _ hbi, Tg.wt_same _ _ _ _ hbi]; exact Lib.hid (HW.out.kept QM.out), Lib.hid (Qw.trans HQ.out QM.out)⟩
              case measure => simp [intOf]
            · rw [hbi] at hb2
              have GT : Hid (∀ w' : World, Calls Tryd.prog 35 #[.agg #[.int .i64 a, .int .i64 b, .int .i64 c], .int .i64 90] w' fun e w'' => e = .returned (.int .i64 c) ∧ Qw w' w'') := Lib.hid (fun w' => rgGet 2 a b c (by decide) w')
              have PU : Hid (∀ w' : World, Calls Tryd.prog 36 #[.agg #[.int .i64 (Tg.wt bt (Tg.n3 n0 n1 n2) 91 a 2 0), .int .i64 (Tg.wt bt (Tg.n3 n0 n1 n2) 91 b 2 1), .int .i64 (Tg.wt bt (Tg.n3 n0 n1 n2) 91 c 2 2)], .int .i64 90, .int .i64 (n2 + c)] w' fun e w'' => e = .returned (.agg #[.int .i64 (Tg.wt bt (Tg.n3 n0 n1 n2) 91 a 2 0), .int .i64 (Tg.wt bt (Tg.n3 n0 n1 n2) 91 b 2 1), .int .i64 ((n2 + c))]) ∧ Qw w' w'') := Lib.hid (fun w' => rgPut 2 (n2 + c) _ _ _ (by decide) w')
              go_wp2_with (first | (go_at_call 15; ((with_reducible refine (CT.out _).mono ?_); rintro e wm ⟨rfl, q⟩; have QM := Lib.hid q; have QM8 := Lib.hid (Qw.al (Qw.trans HQ.out q) (.cells #[.int .i64 90, .int .i64 (n2 * 1000)] 58)); have OM := Lib.hid (own.qw (Qw.al q (.cells #[.int .i64 90, .int .i64 (n2 * 1000)] 58))); have WM := Lib.hid (HW.out.kept (Qw.al q (.cells #[.int .i64 90, .int .i64 (n2 * 1000)] 58))); have n0' := (NX.out _ (Qw.trans HQ.out q)).cell' 2 (.int .i64 n2) rfl; have ln0 := (NX.out _ (Qw.trans HQ.out q)).lt; clear q)) | (refine val_append 57 66 (90, n2 * 1000) w8.heap.size u16 (Tg.wl bt (Tg.n3 n0 n1 n2) 2) wm.heap.size rfl rfl (Bx.new wm _ _) OM.out (by omega) (by have := QM8.out.size; omega) ?_; intro sl' wa o g nr; have QA := Lib.hid (app_qw QM8.out OM.out g); have WA := Lib.hid (app_bx WM.out nog g); have OA := Lib.hid o; have nog' : ∀ g, sl'.ownBlock = some g → g ≠ w8.heap.size + 1 := (fun g h => (nr g h).elim (nog g) (fun k => (by have := WM.out.lt; omega))); have n0' := (NX.out _ QA.out).cell' 2 (.int .i64 n2) rfl; have d0 := (DX8.out _ QA.out).cell' 0 (.int .i64 a) rfl; have d1 := (DX8.out _ QA.out).cell' 1 (.int .i64 b) rfl; have d2 := (DX8.out _ QA.out).cell' 2 (.int .i64 c) rfl; clear o g nr) | (go_at_call 36; ((with_reducible refine (PU.out _).mono ?_); rintro e wp ⟨rfl, q⟩; have WP := Lib.hid (WG.out.kept q); have OP := Lib.hid (OG.out.qw q); have QP := Lib.hid (Qw.trans QG.out q); clear a0 a1 a2; have a0 := WP.out.cell' 0 (.int .i64 (Tg.wt bt (Tg.n3 n0 n1 n2) 91 a 2 0)) rfl; have a1 := WP.out.cell' 1 (.int .i64 (Tg.wt bt (Tg.n3 n0 n1 n2) 91 b 2 1)) rfl; have a2 := WP.out.cell' 2 (.int .i64 (Tg.wt bt (Tg.n3 n0 n1 n2) 91 c 2 2)) rfl; have f0 := WP.out.free 0; have f1 := WP.out.free 1; have f2 := WP.out.free 2; clear q)) | (go_at_call 35; ((with_reducible refine (GT.out _).mono ?_); rintro e wg ⟨rfl, q⟩; have WG := Lib.hid (WA.out.kept q); have OG := Lib.hid (OA.out.qw q); have QG := Lib.hid (Qw.trans QA.out q); have a0 := WG.out.cell' 0 (.int .i64 (Tg.wt bt (Tg.n3 n0 n1 n2) 91 a 2 0)) rfl; have a1 := WG.out.cell' 1 (.int .i64 (Tg.wt bt (Tg.n3 n0 n1 n2) 91 b 2 1)) rfl; have a2 := WG.out.cell' 2 (.int .i64 (Tg.wt bt (Tg.n3 n0 n1 n2) 91 c 2 2)) rfl; clear q)))
              go_roundw
              case rel =>
                refine ⟨3, by omega, rfl, ?_, nog', ?_, Lib.hid (Qw.st3 QP.out (Nat.le_succ _) _ _ _)⟩
                · rw [Tg.wl_new _ hbi]; exact OP.out.st3 nog' _ _ _
                · rw [Tg.wt_new (i := 2) _ 91 c hbi, Tg.wt_other (i := 2) (j := 0) bt _ 91 a (by decide), Tg.wt_other (i := 2) (j := 1) bt _ 91 b (by decide), if_pos (show ((91 : Int) = 91) by decide)]
                  exact Lib.hid (WP.out.st3 _ _ _)
              case measure => simp [intOf]
        · obtain rfl : i = 3 := by omega
          have hwl := Tg.wl_len bt (Tg.n3 n0 n1 n2) 3
          obtain ⟨e1, e2, e3, e4, e5⟩ := Tg.wl_target bt (Tg.n3 n0 n1 n2) hn 91 a b c ha hb hc
          have TG := tgTarget (own.vals (Tg.wl_bdd bt _ hn 3 (by decide))) (Nat.le_refl _) (Tg.ms 17 91 15) (by decide) (by decide) (TK.out _ (Qw.trans Q9.out HQ.out)) a b c (by omega) (by omega) (by omega) (by omega) (by omega) (by omega)
          rw [show (Tg.ms 17 91 15).pl = 17 from rfl, show (Tg.ms 17 91 15).di = 91 from rfl, show (Tg.ms 17 91 15).un = 21 from rfl, show (Tg.ms 17 91 15).po = 15 from rfl, e1, e2, e3, e4, e5] at TG
          obtain ⟨g, cap, hv⟩ := own_form own (by omega)
          have TH := Lib.hid TG
          clear TG e1 e2 e3 e4 e5 own nog hb0 hb1 hb2 CT h3 hi
          generalize (Tg.wl bt (Tg.n3 n0 n1 n2) 3).length = ln at *
          generalize Tg.wt bt (Tg.n3 n0 n1 n2) 91 a 3 0 = s0 at *
          generalize Tg.wt bt (Tg.n3 n0 n1 n2) 91 b 3 1 = s1 at *
          generalize Tg.wt bt (Tg.n3 n0 n1 n2) 91 c 3 2 = s2 at *
          subst hv
          have d0 := (DX8.out _ HQ.out).cell' 0 (.int .i64 a) rfl
          have d1 := (DX8.out _ HQ.out).cell' 1 (.int .i64 b) rfl
          have d2 := (DX8.out _ HQ.out).cell' 2 (.int .i64 c) rfl
          go_upto_region 18 with (first | (refine ld_md 15 rfl (SX.out _ HQ.out) ?_) | (go_at_call 27; ((with_reducible refine (TH.out).mono ?_); rintro e wq ⟨rfl, q⟩; have QQ := Lib.hid q; clear q)))
          refine code_of (fun w' => Bx w' wq.heap.size #[.int .i64 s0, .int .i64 s1, .int .i64 s2] 23 ∧ Qw wr w') ⟨Bx.new _ _ _, Qw.al QQ.out _⟩ ?_
          clear QQ TH d0 d1 d2
          generalize wq.heap.size = G at *
          rintro w18 ⟨GG, q⟩
          have GX := Lib.hid GG
          have WX := Lib.hid (HW.out.kept q)
          have QX := Lib.hid (Qw.trans HQ.out q)
          clear GG q HW HQ
          by_cases hl : 1 < ln
          · have hl1 : decide (1 < ln) = true := decide_eq_true hl
            have hl2 : (1 : Int) < (ln : Int) := by omega
            rw [hl1]
            go_wp2_with (go_at_call 12; ((with_reducible refine (AW.out _ (Qw.trans Q9.out QX.out)).mono ?_); rintro e wy ⟨rfl, q⟩; have QY := Lib.hid q; have g0 := (GX.out.kept q).cell' 0 (.int .i64 s0) rfl; have v0 := (WX.out.kept q).cell' 0 (.int .i64 s0) rfl; have g1 := (GX.out.kept q).cell' 1 (.int .i64 s1) rfl; have v1 := (WX.out.kept q).cell' 1 (.int .i64 s1) rfl; have g2 := (GX.out.kept q).cell' 2 (.int .i64 s2) rfl; have v2 := (WX.out.kept q).cell' 2 (.int .i64 s2) rfl; clear q))
            go_ret
            exact ⟨rfl, Qw.trans Q9.out (Qw.trans QX.out QY.out)⟩
          · have hl1 : decide (1 < ln) = false := decide_eq_false hl
            have hl2 : ¬ ((1 : Int) < (ln : Int)) := by omega
            rw [hl1]
            go_wp2_with (go_at_call 12; ((with_reducible refine (AW.out _ (Qw.trans Q9.out QX.out)).mono ?_); rintro e wy ⟨rfl, q⟩; have QY := Lib.hid q; have g0 := (GX.out.kept q).cell' 0 (.int .i64 s0) rfl; have v0 := (WX.out.kept q).cell' 0 (.int .i64 s0) rfl; have g1 := (GX.out.kept q).cell' 1 (.int .i64 s1) rfl; have v1 := (WX.out.kept q).cell' 1 (.int .i64 s1) rfl; have g2 := (GX.out.kept q).cell' 2 (.int .i64 s2) rfl; have v2 := (WX.out.kept q).cell' 2 (.int .i64 s2) rfl; clear q))
            have hm : decide ((1 : Int) < (ln : Int)) = false := decide_eq_false (by omega)
            simp only [hm, Bool.not_false]
            go_ret
            exact ⟨rfl, Qw.trans Q9.out (Qw.trans QX.out QY.out)⟩

/-! ### the row and the card -/
theorem reads_frameWords (os : Os) {H : Type} (enc : TypeId × Value → H) : ∃ places, DataW.whole enc Tryd.prog ((laidWorldC os).forCall (fun _ _ => 0) ⟨#[], #[.agg #[.int .i64 0, .int .i64 0, .int .i64 0], .int .i64 0, .int .i64 0, .int .i64 0, .int .i64 0, .bool false], []⟩).memory Tryd.f9.params.toList Rows.frameWordsSpec.vars false #[(.agg #[.int .i64 0, .int .i64 0, .int .i64 0] : Value), .int .i64 0, .int .i64 0, .int .i64 0, .int .i64 0, .bool false].toList 8 = some ([.agg [.lit (.int .i64 0), .lit (.int .i64 0), .lit (.int .i64 0)], .lit (.int .i64 0), .lit (.int .i64 0), .lit (.int .i64 0), .lit (.int .i64 0), .lit (.bool false)], [], places) :=
  ⟨[], by kernel_rfl⟩
set_option maxRecDepth 100000 in
theorem lifted_frameWords (os : Os) (started : os.Started) (H : Type) (enc : TypeId × Value → H) (F : Stop.Interp) :
    ReturnsInHanded {} Tryd.checked os 9 .any ((OpenSpec.ofChange Rows.frameWordsSpec).preRow enc Tryd.prog Tryd.f9 Rows.frameWordsRow.domain false Rows.frameWordsRow.laid) (((OpenSpec.ofChange Rows.frameWordsSpec).at F).post enc Tryd.prog Tryd.f9 false true false false) := by
  obtain ⟨places, hx⟩ := reads_frameWords os enc
  refine returnsInHanded_of_row (C := Tryd.checked) (s := OpenSpec.ofChange Rows.frameWordsSpec) ownC started (by kernel_rfl) Tryd.func9
    (witness_row_at (enc := enc) (C := Tryd.checked) false (laidWorldC os) #[.agg #[.int .i64 0, .int .i64 0, .int .i64 0], .int .i64 0, .int .i64 0, .int .i64 0, .int .i64 0, .bool false] rfl (by kernel_rfl) (by kernel_rfl) (by kernel_rfl)
      (OpenSpec.preRow_of_cond 8 hx (by kernel_rfl) (fun k hk => by cases hk) (by kernel_rfl) (laid_metC os _))) ?_
  intro W base args ds gs before hval0 hW _ _ _ hL _ _
  have ht : Tc W := tableC hL
  have hval : ∀ (j : Nat) t v, Tryd.f9.params[j]? = some t → args[j]? = some v → Value.okWide Tryd.prog W .any base t v := hval0
  have hW' := hW
  obtain ⟨p, q, hA0, hV, rfl, hfz, hnd⟩ := hW
  have hA : DataW.TrodAll enc Tryd.prog W 0 (fun _ => true) true Tryd.f9.params.toList args.toList ds p := hA0
  rw [Tryd.params9] at hA hval
  obtain ⟨v0, vs0, d0, ds0, p0, q0, hargs, rfl, rfl, h0, r0⟩ := trodAll_cons hA
  obtain ⟨v1, vs1, d1, ds1, p1, q1, rfl, rfl, rfl, h1, r1⟩ := trodAll_cons r0
  obtain ⟨v2, vs2, d2, ds2, p2, q2, rfl, rfl, rfl, h2, r2⟩ := trodAll_cons r1
  obtain ⟨v3, vs3, d3, ds3, p3, q3, rfl, rfl, rfl, h3, r3⟩ := trodAll_cons r2
  obtain ⟨v4, vs4, d4, ds4, p4, q4, rfl, rfl, rfl, h4, r4⟩ := trodAll_cons r3
  obtain ⟨v5, vs5, d5, ds5, p5, q5, rfl, rfl, rfl, h5, r5⟩ := trodAll_cons r4
  obtain ⟨rfl, rfl, rfl⟩ := trodAll_nil r5
  obtain rfl : args = #[v0, v1, v2, v3, v4, v5] := by cases args; simp_all
  obtain ⟨rfl, rfl⟩ := trodVars_none hV
  obtain ⟨a0_0, a0_1, a0_2, rfl, rfl, rfl, w0_0, w0_1, w0_2⟩ := open_vec (hval 0 23 v0 rfl rfl) h0
  obtain ⟨x0_0, y0_0⟩ := i64_wfC w0_0
  obtain ⟨x0_1, y0_1⟩ := i64_wfC w0_1
  obtain ⟨x0_2, y0_2⟩ := i64_wfC w0_2
  obtain ⟨a1, rfl, rfl, rfl, w1⟩ := open_int Tryd.underlying3 (hval 1 3 v1 rfl rfl) h1
  obtain ⟨x1, y1⟩ := i64_wfC w1
  obtain ⟨a2, rfl, rfl, rfl, w2⟩ := open_int Tryd.underlying3 (hval 2 3 v2 rfl rfl) h2
  obtain ⟨x2, y2⟩ := i64_wfC w2
  obtain ⟨a3, rfl, rfl, rfl, w3⟩ := open_int Tryd.underlying3 (hval 3 3 v3 rfl rfl) h3
  obtain ⟨x3, y3⟩ := i64_wfC w3
  obtain ⟨a4, rfl, rfl, rfl, w4⟩ := open_int Tryd.underlying3 (hval 4 3 v4 rfl rfl) h4
  obtain ⟨x4, y4⟩ := i64_wfC w4
  obtain ⟨a5, rfl, rfl, rfl⟩ := open_bool Tryd.underlying4 (hval 5 4 v5 rfl rfl) h5
  clear hA0 hval0 hL
  simp only [List.append_nil] at hW'
  refine (walk_frameWords a0_0 x0_0 y0_0 a0_1 x0_1 y0_1 a0_2 x0_2 y0_2 a1 x1 y1 a2 x2 y2 a3 x3 y3 a4 x4 y4 a5 W ht).mono fun e W' ⟨he, bel⟩ => ?_
  subst he
  exact ⟨_, rfl, _, _, _, [], _, [], hW', trodAll_mk1 (shut_bool Tryd.underlying4 _), (trodAll_cons_mk (shut_vec w0_0 w0_1 w0_2) (trodAll_cons_mk (shut_int Tryd.underlying3 w1) (trodAll_cons_mk (shut_int Tryd.underlying3 w2) (trodAll_cons_mk (shut_int Tryd.underlying3 w3) (trodAll_cons_mk (shut_int Tryd.underlying3 w4) (trodAll_cons_mk (shut_bool Tryd.underlying4 _) trodAll_mk0)))))), rfl, Below.frame bel _, fun h => by cases h⟩

theorem frameWords_said : Rows.FrameWordsSaid :=
  OpenClaim.holds_of_cond 9 Tryd.f9 rfl rfl rfl rfl rfl rfl rfl ⟨rfl, rfl, rfl, rfl, rfl⟩ rfl rfl rfl rfl rfl (by kernel_rfl) Tryd.func9 (by kernel_rfl)
    (of_decide_eq_true (by kernel_rfl)) (by unfold Func.isWrapper; first | (rw [if_pos (by decide +kernel)]; kernel_rfl) | (rw [if_neg (by decide +kernel)]; exact ⟨rfl, rfl⟩))
    (fun os started H enc _ F => by rw [OpenClaim.pre_eq_preRow]; exact lifted_frameWords os started H enc F)

theorem plain_frameWords (f : FuncId) (fn : Func) (hf : Tryd.pinned.checked.prog.funcNamed "cnc/cnclaw12.FrameWords" = some f) (hfn : Tryd.pinned.checked.prog.funcs[f]? = some fn) :
    false = Tryd.pinned.checked.prog.looks [] ∧ ∀ (j : Nat) t, fn.params[j]? = some t → Tryd.pinned.checked.prog.wantsStandIn t = false := by
  obtain rfl : f = 9 := Option.some.inj ((show Tryd.prog.funcNamed "cnc/cnclaw12.FrameWords" = some 9 by kernel_rfl).symm.trans hf) |>.symm
  obtain rfl : fn = Tryd.f9 := (Option.some.inj (Tryd.func9.symm.trans hfn)).symm
  refine ⟨by kernel_rfl, fun j t ht => ?_⟩
  rw [Tryd.params9] at ht
  have hm : t = 23 ∨ t = 3 ∨ t = 4 := by simpa using Array.mem_of_getElem? ht
  rcases hm with rfl | rfl | rfl
  · exact (show Tryd.prog.wantsStandIn 23 = false by kernel_rfl)
  · exact (show Tryd.prog.wantsStandIn 3 = false by kernel_rfl)
  · exact (show Tryd.prog.wantsStandIn 4 = false by kernel_rfl)

/-- The statement. -/
theorem frameWords_card : Rows.FrameWordsCardSaid :=
  Claim7.holds_tied_plain_at .later [] _ _ _ _ frameWords_said (fun _ h => by cases h) (by kernel_rfl) (fun _ h => by cases h) frameWords_row_tie rfl ⟨rfl, rfl⟩ (by kernel_rfl) rfl plain_frameWords (by kernel_rfl)

end Go.Proofs.YtnjcbgnghfppoaaDoor
