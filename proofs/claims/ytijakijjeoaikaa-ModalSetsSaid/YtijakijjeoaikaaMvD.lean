
/- Drawing a modal state from a tape: the walk. -/
import Derived.Test.YtijakijjeoaikaaMvC
import Derived.Deep.DeepCutAuto
import Derived.Deep.Cut
set_option linter.unusedVariables false
set_option linter.unusedSimpArgs false
namespace Go.Proofs.Ytijakijjeoaikaa
open Go.RowKit

theorem bxn2 (w : World) (a : Obj) (cs : Array Value) (t : TypeId) : Bx ((w.alloc a).alloc (.cells cs t)) (w.heap.size + 1) cs t := by
  have h := Bx.new (w.alloc a) cs t
  have e : (w.alloc a).heap.size = w.heap.size + 1 := by simp
  rwa [e] at h
theorem bxn3 (w : World) (a b : Obj) (cs : Array Value) (t : TypeId) : Bx (((w.alloc a).alloc b).alloc (.cells cs t)) (w.heap.size + 1 + 1) cs t := by
  have h := Bx.new ((w.alloc a).alloc b) cs t
  have e : ((w.alloc a).alloc b).heap.size = w.heap.size + 1 + 1 := by simp
  rwa [e] at h
theorem Mx.start {w w1 : World} {B R : Nat} {tv : Value} {zs : List Int} {k : Nat} (h : TapeAt w B tv zs k) (q : Qw w w1) (hp : w.heap.size ≤ R) (X : Bx w1 R (mdc Md.S.zero) MT) :
    Mx w B R w1.heap.size (w1.heap.size + 1) (w1.heap.size + 1 + 1) tv zs (((w1.alloc (.cells (ivm mol) 3)).alloc (.cells (ivm lel) 3)).alloc (.cells (ivm pal) 3)) := by
  have q2 : Qw w (((w1.alloc (.cells (ivm mol) 3)).alloc (.cells (ivm lel) 3)).alloc (.cells (ivm pal) 3)) := Qw.al (Qw.al (Qw.al q _) _) _
  have hs := q.size
  exact ⟨k, h.kept q2, ((X.alloc _).alloc _).alloc _, ((Bx.new w1 _ _).alloc _).alloc _, (bxn2 w1 _ _ _).alloc _, bxn3 w1 _ _ _ _, ⟨q2.os, q2.tape, q2.output, q2.size, fun b hb _ => q2.block b hb⟩, lt_of_block h.1, hp, hs, by omega, by omega⟩
theorem grownRow {w w1 : World} {B R : Nat} (g : w.grownBy w1 (some B)) (hR : w.heap.size ≤ R) (cs : Array Value) : w.grownBy (w1.setRow R cs) (some B) :=
  ⟨g.os, g.tape, g.output, by rw [setRow_size]; exact g.size, fun b hb hn => (setRow_other w1 R b cs (by omega)).trans (g.block b hb hn)⟩
set_option maxRecDepth 100000 in
set_option maxHeartbeats 40000000 in
theorem modalM {w : World} {B : Nat} {tv : Value} {zs : List Int} {k : Nat} (h : TapeAt w B tv zs k) : Calls Try.prog 32 #[.pointer (some ⟨B, 0, none⟩)] w fun e w' => (∃ s : Md.S, e = .returned (.agg (mdc s))) ∧ w.grownBy w' (some B) := by
  have HT := Lib.hid h
  clear h
  go_enter Try.func32, Try.ntmps32
  go_upto_region 4 with (refine al_md ?_; intro w1 R hp X q; have X1 := Lib.hid X; have Q1 := Lib.hid q; clear X q)
  have HM := Mx.start HT.out Q1.out hp X1.out
  refine code_of (fun w' => Mx w B R w1.heap.size (w1.heap.size + 1) (w1.heap.size + 1 + 1) tv zs w') HM ?_
  clear HM HT Q1 X1
  generalize w1.heap.size + 1 + 1 = D3 at *
  generalize w1.heap.size + 1 = D2 at *
  generalize w1.heap.size = D1 at *
  intro w2 hm
  have HM := Lib.hid hm
  clear hm w1
  go_cut [6] (fun pv wx => ∃ (P : Nat) (s : Md.S), pv = .pointer (some ⟨P, 0, none⟩) ∧ Hid (Mz w B R D1 D2 D3 tv zs P s wx))
  case first =>
    refine wp_region_M (Mx w B R D1 D2 D3 tv zs) 39 (by kernel_rfl) ?_
    have hSS : Mx w B R D1 D2 D3 tv zs (World.drew w2) := HM.out.new (Qw.dr (Qw.refl w2))
    generalize World.drew w2 = wd at *
    clear HM
    refine wpAnyM_take (i := 0) (v := ?_) rfl (by kernel_rfl) (fun _ _ _ h => h) (Or.inl ⟨by rfl, ?_⟩) hSS ?_
    rotate_left 1
    · intro wS hwS
      go_simp
      try with_reducible rfl
    simp only [List.getElem_toArray, List.getElem_cons_succ, List.getElem_cons_zero, Act.put, List.setIfInBounds_toArray, List.set_cons_zero, List.set_cons_succ]
    refine wpAnyM_take (i := 1) (v := ?_) rfl (by kernel_rfl) (fun _ _ _ h => h) (Or.inl ⟨by rfl, ?_⟩) hSS ?_
    rotate_left 1
    · intro wS hwS
      go_simp
      try with_reducible rfl
    simp only [List.getElem_toArray, List.getElem_cons_succ, List.getElem_cons_zero, Act.put, List.setIfInBounds_toArray, List.set_cons_zero, List.set_cons_succ]
    refine wpAnyM_take (i := 2) (v := ?_) rfl (by kernel_rfl) (fun _ _ _ h => h) (Or.inl ⟨by rfl, ?_⟩) hSS ?_
    rotate_left 1
    · intro wS hwS
      go_simp
      try with_reducible rfl
    simp only [List.getElem_toArray, List.getElem_cons_succ, List.getElem_cons_zero, Act.put, List.setIfInBounds_toArray, List.set_cons_zero, List.set_cons_succ]
    refine wpAnyM_take (i := 3) (v := ?_) rfl (by kernel_rfl) (fun _ _ _ h => h) (Or.inl ⟨by rfl, ?_⟩) hSS ?_
    rotate_left 1
    · intro wS hwS
      go_simp
      try with_reducible rfl
    simp only [List.getElem_toArray, List.getElem_cons_succ, List.getElem_cons_zero, Act.put, List.setIfInBounds_toArray, List.set_cons_zero, List.set_cons_succ]
    refine wpAnyM_take (i := 7) (v := ?_) rfl (by kernel_rfl) (fun _ _ _ h => h) (Or.inl ⟨by rfl, ?_⟩) hSS ?_
    rotate_left 1
    · intro wS hwS
      go_simp
      try with_reducible rfl
    simp only [List.getElem_toArray, List.getElem_cons_succ, List.getElem_cons_zero, Act.put, List.setIfInBounds_toArray, List.set_cons_zero, List.set_cons_succ]
    refine wpAnyM_take (i := 9) (v := ?_) rfl (by kernel_rfl) (fun _ _ _ h => h) (Or.inl ⟨by rfl, ?_⟩) hSS ?_
    rotate_left 1
    · intro wS hwS
      go_simp
      try with_reducible rfl
    simp only [List.getElem_toArray, List.getElem_cons_succ, List.getElem_cons_zero, Act.put, List.setIfInBounds_toArray, List.set_cons_zero, List.set_cons_succ]
    refine wpAnyM_take (i := 11) (v := ?_) rfl (by kernel_rfl) (fun _ _ _ h => h) (Or.inl ⟨by rfl, ?_⟩) hSS ?_
    rotate_left 1
    · intro wS hwS
      go_simp
      try with_reducible rfl
    simp only [List.getElem_toArray, List.getElem_cons_succ, List.getElem_cons_zero, Act.put, List.setIfInBounds_toArray, List.set_cons_zero, List.set_cons_succ]
    refine wpAnyM_take (i := 13) (v := ?_) rfl (by kernel_rfl) (fun _ _ _ h => h) (Or.inl ⟨by rfl, ?_⟩) hSS ?_
    rotate_left 1
    · intro wS hwS
      go_simp
      try with_reducible rfl
    simp only [List.getElem_toArray, List.getElem_cons_succ, List.getElem_cons_zero, Act.put, List.setIfInBounds_toArray, List.set_cons_zero, List.set_cons_succ]
    refine wpAnyM_take (i := 15) (v := ?_) rfl (by kernel_rfl) (fun _ _ _ h => h) (Or.inl ⟨by rfl, ?_⟩) hSS ?_
    rotate_left 1
    · intro wS hwS
      go_simp
      try with_reducible rfl
    simp only [List.getElem_toArray, List.getElem_cons_succ, List.getElem_cons_zero, Act.put, List.setIfInBounds_toArray, List.set_cons_zero, List.set_cons_succ]
    refine wpAnyM_take (i := 17) (v := ?_) rfl (by kernel_rfl) (fun _ _ _ h => h) (Or.inl ⟨by rfl, ?_⟩) hSS ?_
    rotate_left 1
    · intro wS hwS
      go_simp
      try with_reducible rfl
    simp only [List.getElem_toArray, List.getElem_cons_succ, List.getElem_cons_zero, Act.put, List.setIfInBounds_toArray, List.set_cons_zero, List.set_cons_succ]
    refine wpAnyM_take (i := 18) (v := ?_) rfl (by kernel_rfl) (fun _ _ _ h => h) (Or.inl ⟨by rfl, ?_⟩) hSS ?_
    rotate_left 1
    · intro wS hwS
      go_simp
      try with_reducible rfl
    simp only [List.getElem_toArray, List.getElem_cons_succ, List.getElem_cons_zero, Act.put, List.setIfInBounds_toArray, List.set_cons_zero, List.set_cons_succ]
    refine wpAnyM_take (i := 22) (v := ?_) rfl (by kernel_rfl) (fun _ _ _ h => h) (Or.inl ⟨by rfl, ?_⟩) hSS ?_
    rotate_left 1
    · intro wS hwS
      go_simp
      try with_reducible rfl
    simp only [List.getElem_toArray, List.getElem_cons_succ, List.getElem_cons_zero, Act.put, List.setIfInBounds_toArray, List.set_cons_zero, List.set_cons_succ]
    refine wpAnyM_take (i := 24) (v := ?_) rfl (by kernel_rfl) (fun _ _ _ h => h) (Or.inl ⟨by rfl, ?_⟩) hSS ?_
    rotate_left 1
    · intro wS hwS
      go_simp
      try with_reducible rfl
    simp only [List.getElem_toArray, List.getElem_cons_succ, List.getElem_cons_zero, Act.put, List.setIfInBounds_toArray, List.set_cons_zero, List.set_cons_succ]
    refine wpAnyM_take (i := 26) (v := ?_) rfl (by kernel_rfl) (fun _ _ _ h => h) (Or.inl ⟨by rfl, ?_⟩) hSS ?_
    rotate_left 1
    · intro wS hwS
      go_simp
      try with_reducible rfl
    simp only [List.getElem_toArray, List.getElem_cons_succ, List.getElem_cons_zero, Act.put, List.setIfInBounds_toArray, List.set_cons_zero, List.set_cons_succ]
    refine wpAnyM_take (i := 27) (v := ?_) rfl (by kernel_rfl) (fun _ _ _ h => h) (Or.inl ⟨by rfl, ?_⟩) hSS ?_
    rotate_left 1
    · intro wS hwS
      go_simp
      try with_reducible rfl
    simp only [List.getElem_toArray, List.getElem_cons_succ, List.getElem_cons_zero, Act.put, List.setIfInBounds_toArray, List.set_cons_zero, List.set_cons_succ]
    refine wpAnyM_take (i := 31) (v := ?_) rfl (by kernel_rfl) (fun _ _ _ h => h) (Or.inl ⟨by rfl, ?_⟩) hSS ?_
    rotate_left 1
    · intro wS hwS
      go_simp
      try with_reducible rfl
    simp only [List.getElem_toArray, List.getElem_cons_succ, List.getElem_cons_zero, Act.put, List.setIfInBounds_toArray, List.set_cons_zero, List.set_cons_succ]
    refine wpAnyM_take (i := 33) (v := ?_) rfl (by kernel_rfl) (fun _ _ _ h => h) (Or.inl ⟨by rfl, ?_⟩) hSS ?_
    rotate_left 1
    · intro wS hwS
      go_simp
      try with_reducible rfl
    simp only [List.getElem_toArray, List.getElem_cons_succ, List.getElem_cons_zero, Act.put, List.setIfInBounds_toArray, List.set_cons_zero, List.set_cons_succ]
    refine wpAnyM_take (i := 35) (v := ?_) rfl (by kernel_rfl) (fun _ _ _ h => h) (Or.inl ⟨by rfl, ?_⟩) hSS ?_
    rotate_left 1
    · intro wS hwS
      go_simp
      try with_reducible rfl
    simp only [List.getElem_toArray, List.getElem_cons_succ, List.getElem_cons_zero, Act.put, List.setIfInBounds_toArray, List.set_cons_zero, List.set_cons_succ]
    refine wpAnyM_two (i := 4) (j := 38) rfl rfl (by kernel_rfl) rfl rfl (fun K hK => ?_) (fun K hK => ?_)
    · go_simp
      refine (nextX 15 (by decide) (by decide) _ hSS).mono ?_
      rintro e w5 ⟨⟨n, rfl, b0, b1⟩, m, g⟩
      obtain ⟨N0, x0, rfl, hN0, hx⟩ := mol_at n b0 b1
      have C0 := Lib.hid (fun wS (q : Mx w B R D1 D2 D3 tv zs wS) => (Mx.x1 q).cell' N0 _ hx)
      have lN0 : (N0 : Int) < 15 := by omega
      clear b0 b1 hx
      refine hK _ _ (fun _ => m) ?_
      clear hK K hSS g
      have hSS := m
      clear m
      try simp only [List.getElem_toArray, List.getElem_cons_succ, List.getElem_cons_zero, Act.put, List.setIfInBounds_toArray, List.set_cons_zero, List.set_cons_succ]
      refine wpAnyM_take (i := 5) (v := ?_) rfl (by kernel_rfl) (fun _ _ _ h => h) (Or.inl ⟨by rfl, ?_⟩) hSS ?_
      rotate_left 1
      · intro wS hwS
        go_simp
        try with_reducible rfl
      simp only [List.getElem_toArray, List.getElem_cons_succ, List.getElem_cons_zero, Act.put, List.setIfInBounds_toArray, List.set_cons_zero, List.set_cons_succ]
      refine wpAnyM_take (i := 6) (v := ?_) rfl (by kernel_rfl) (fun _ _ _ h => h) (Or.inl ⟨by rfl, ?_⟩) hSS ?_
      rotate_left 1
      · intro wS hwS
        have c := C0.out wS hwS; go_simp
        try with_reducible rfl
      simp only [List.getElem_toArray, List.getElem_cons_succ, List.getElem_cons_zero, Act.put, List.setIfInBounds_toArray, List.set_cons_zero, List.set_cons_succ]
      refine wpAnyM_two (i := 8) (j := 38) rfl rfl (by kernel_rfl) rfl rfl (fun K hK => ?_) (fun K hK => ?_)
      · go_simp
        refine (rangeX 17 19 (by decide) (by decide) (by decide) _ hSS).mono ?_
        rintro e w5 ⟨⟨r1, rfl⟩, m, g⟩
        refine hK _ _ (fun _ => m) ?_
        clear hK K hSS g
        have hSS := m
        clear m
        try simp only [List.getElem_toArray, List.getElem_cons_succ, List.getElem_cons_zero, Act.put, List.setIfInBounds_toArray, List.set_cons_zero, List.set_cons_succ]
        refine wpAnyM_two (i := 10) (j := 38) rfl rfl (by kernel_rfl) rfl rfl (fun K hK => ?_) (fun K hK => ?_)
        · go_simp
          refine (rangeX 90 91 (by decide) (by decide) (by decide) _ hSS).mono ?_
          rintro e w5 ⟨⟨r2, rfl⟩, m, g⟩
          refine hK _ _ (fun _ => m) ?_
          clear hK K hSS g
          have hSS := m
          clear m
          try simp only [List.getElem_toArray, List.getElem_cons_succ, List.getElem_cons_zero, Act.put, List.setIfInBounds_toArray, List.set_cons_zero, List.set_cons_succ]
          refine wpAnyM_two (i := 12) (j := 38) rfl rfl (by kernel_rfl) rfl rfl (fun K hK => ?_) (fun K hK => ?_)
          · go_simp
            refine (rangeX 20 21 (by decide) (by decide) (by decide) _ hSS).mono ?_
            rintro e w5 ⟨⟨r3, rfl⟩, m, g⟩
            refine hK _ _ (fun _ => m) ?_
            clear hK K hSS g
            have hSS := m
            clear m
            try simp only [List.getElem_toArray, List.getElem_cons_succ, List.getElem_cons_zero, Act.put, List.setIfInBounds_toArray, List.set_cons_zero, List.set_cons_succ]
            refine wpAnyM_two (i := 14) (j := 38) rfl rfl (by kernel_rfl) rfl rfl (fun K hK => ?_) (fun K hK => ?_)
            · go_simp
              refine (rangeX 94 95 (by decide) (by decide) (by decide) _ hSS).mono ?_
              rintro e w5 ⟨⟨r4, rfl⟩, m, g⟩
              refine hK _ _ (fun _ => m) ?_
              clear hK K hSS g
              have hSS := m
              clear m
              try simp only [List.getElem_toArray, List.getElem_cons_succ, List.getElem_cons_zero, Act.put, List.setIfInBounds_toArray, List.set_cons_zero, List.set_cons_succ]
              refine wpAnyM_two (i := 16) (j := 38) rfl rfl (by kernel_rfl) rfl rfl (fun K hK => ?_) (fun K hK => ?_)
              · go_simp
                refine (rangeX 40 42 (by decide) (by decide) (by decide) _ hSS).mono ?_
                rintro e w5 ⟨⟨r5, rfl⟩, m, g⟩
                refine hK _ _ (fun _ => m) ?_
                clear hK K hSS g
                have hSS := m
                clear m
                try simp only [List.getElem_toArray, List.getElem_cons_succ, List.getElem_cons_zero, Act.put, List.setIfInBounds_toArray, List.set_cons_zero, List.set_cons_succ]
                refine wpAnyM_two (i := 19) (j := 38) rfl rfl (by kernel_rfl) rfl rfl (fun K hK => ?_) (fun K hK => ?_)
                · go_simp
                  refine (nextX 3 (by decide) (by decide) _ hSS).mono ?_
                  rintro e w5 ⟨⟨n, rfl, b0, b1⟩, m, g⟩
                  obtain ⟨N6, x6, rfl, hN6, hx⟩ := lel_at n b0 b1
                  have C6 := Lib.hid (fun wS (q : Mx w B R D1 D2 D3 tv zs wS) => (Mx.x2 q).cell' N6 _ hx)
                  have lN6 : (N6 : Int) < 3 := by omega
                  clear b0 b1 hx
                  refine hK _ _ (fun _ => m) ?_
                  clear hK K hSS g
                  have hSS := m
                  clear m
                  try simp only [List.getElem_toArray, List.getElem_cons_succ, List.getElem_cons_zero, Act.put, List.setIfInBounds_toArray, List.set_cons_zero, List.set_cons_succ]
                  refine wpAnyM_take (i := 20) (v := ?_) rfl (by kernel_rfl) (fun _ _ _ h => h) (Or.inl ⟨by rfl, ?_⟩) hSS ?_
                  rotate_left 1
                  · intro wS hwS
                    go_simp
                    try with_reducible rfl
                  simp only [List.getElem_toArray, List.getElem_cons_succ, List.getElem_cons_zero, Act.put, List.setIfInBounds_toArray, List.set_cons_zero, List.set_cons_succ]
                  refine wpAnyM_take (i := 21) (v := ?_) rfl (by kernel_rfl) (fun _ _ _ h => h) (Or.inl ⟨by rfl, ?_⟩) hSS ?_
                  rotate_left 1
                  · intro wS hwS
                    have c := C6.out wS hwS; go_simp
                    try with_reducible rfl
                  simp only [List.getElem_toArray, List.getElem_cons_succ, List.getElem_cons_zero, Act.put, List.setIfInBounds_toArray, List.set_cons_zero, List.set_cons_succ]
                  refine wpAnyM_two (i := 23) (j := 38) rfl rfl (by kernel_rfl) rfl rfl (fun K hK => ?_) (fun K hK => ?_)
                  · go_simp
                    refine (rangeX 98 99 (by decide) (by decide) (by decide) _ hSS).mono ?_
                    rintro e w5 ⟨⟨r7, rfl⟩, m, g⟩
                    refine hK _ _ (fun _ => m) ?_
                    clear hK K hSS g
                    have hSS := m
                    clear m
                    try simp only [List.getElem_toArray, List.getElem_cons_succ, List.getElem_cons_zero, Act.put, List.setIfInBounds_toArray, List.set_cons_zero, List.set_cons_succ]
                    refine wpAnyM_two (i := 25) (j := 38) rfl rfl (by kernel_rfl) rfl rfl (fun K hK => ?_) (fun K hK => ?_)
                    · go_simp
                      refine (rangeX 54 59 (by decide) (by decide) (by decide) _ hSS).mono ?_
                      rintro e w5 ⟨⟨r8, rfl⟩, m, g⟩
                      refine hK _ _ (fun _ => m) ?_
                      clear hK K hSS g
                      have hSS := m
                      clear m
                      try simp only [List.getElem_toArray, List.getElem_cons_succ, List.getElem_cons_zero, Act.put, List.setIfInBounds_toArray, List.set_cons_zero, List.set_cons_succ]
                      refine wpAnyM_two (i := 28) (j := 38) rfl rfl (by kernel_rfl) rfl rfl (fun K hK => ?_) (fun K hK => ?_)
                      · go_simp
                        refine (nextX 2 (by decide) (by decide) _ hSS).mono ?_
                        rintro e w5 ⟨⟨n, rfl, b0, b1⟩, m, g⟩
                        obtain ⟨N9, x9, rfl, hN9, hx⟩ := pal_at n b0 b1
                        have C9 := Lib.hid (fun wS (q : Mx w B R D1 D2 D3 tv zs wS) => (Mx.x3 q).cell' N9 _ hx)
                        have lN9 : (N9 : Int) < 2 := by omega
                        clear b0 b1 hx
                        refine hK _ _ (fun _ => m) ?_
                        clear hK K hSS g
                        have hSS := m
                        clear m
                        try simp only [List.getElem_toArray, List.getElem_cons_succ, List.getElem_cons_zero, Act.put, List.setIfInBounds_toArray, List.set_cons_zero, List.set_cons_succ]
                        refine wpAnyM_take (i := 29) (v := ?_) rfl (by kernel_rfl) (fun _ _ _ h => h) (Or.inl ⟨by rfl, ?_⟩) hSS ?_
                        rotate_left 1
                        · intro wS hwS
                          go_simp
                          try with_reducible rfl
                        simp only [List.getElem_toArray, List.getElem_cons_succ, List.getElem_cons_zero, Act.put, List.setIfInBounds_toArray, List.set_cons_zero, List.set_cons_succ]
                        refine wpAnyM_take (i := 30) (v := ?_) rfl (by kernel_rfl) (fun _ _ _ h => h) (Or.inl ⟨by rfl, ?_⟩) hSS ?_
                        rotate_left 1
                        · intro wS hwS
                          have c := C9.out wS hwS; go_simp
                          try with_reducible rfl
                        simp only [List.getElem_toArray, List.getElem_cons_succ, List.getElem_cons_zero, Act.put, List.setIfInBounds_toArray, List.set_cons_zero, List.set_cons_succ]
                        refine wpAnyM_two (i := 32) (j := 38) rfl rfl (by kernel_rfl) rfl rfl (fun K hK => ?_) (fun K hK => ?_)
                        · go_simp
                          refine (rangeX 15 16 (by decide) (by decide) (by decide) _ hSS).mono ?_
                          rintro e w5 ⟨⟨r10, rfl⟩, m, g⟩
                          refine hK _ _ (fun _ => m) ?_
                          clear hK K hSS g
                          have hSS := m
                          clear m
                          try simp only [List.getElem_toArray, List.getElem_cons_succ, List.getElem_cons_zero, Act.put, List.setIfInBounds_toArray, List.set_cons_zero, List.set_cons_succ]
                          refine wpAnyM_two (i := 34) (j := 38) rfl rfl (by kernel_rfl) rfl rfl (fun K hK => ?_) (fun K hK => ?_)
                          · go_simp
                            refine (rangeX 68 69 (by decide) (by decide) (by decide) _ hSS).mono ?_
                            rintro e w5 ⟨⟨r11, rfl⟩, m, g⟩
                            refine hK _ _ (fun _ => m) ?_
                            clear hK K hSS g
                            have hSS := m
                            clear m
                            try simp only [List.getElem_toArray, List.getElem_cons_succ, List.getElem_cons_zero, Act.put, List.setIfInBounds_toArray, List.set_cons_zero, List.set_cons_succ]
                            refine wpAnyM_two (i := 36) (j := 38) rfl rfl (by kernel_rfl) rfl rfl (fun K hK => ?_) (fun K hK => ?_)
                            · go_simp
                              refine (rangeX 3 5 (by decide) (by decide) (by decide) _ hSS).mono ?_
                              rintro e w5 ⟨⟨r12, rfl⟩, m, g⟩
                              refine hK _ _ (fun _ => m) ?_
                              clear hK K hSS g
                              have hSS := m
                              clear m
                              try simp only [List.getElem_toArray, List.getElem_cons_succ, List.getElem_cons_zero, Act.put, List.setIfInBounds_toArray, List.set_cons_zero, List.set_cons_succ]
                              refine wpAnyM_take (i := 37) (v := ?_) rfl (by kernel_rfl) (fun _ _ _ h => h) (Or.inl ⟨by rfl, ?_⟩) hSS ?_
                              rotate_left 1
                              · intro wS hwS
                                go_simp
                                try with_reducible rfl
                              simp only [List.getElem_toArray, List.getElem_cons_succ, List.getElem_cons_zero, Act.put, List.setIfInBounds_toArray, List.set_cons_zero, List.set_cons_succ]
                              refine wpAnyM_one (i := 38) rfl (by kernel_rfl) rfl (fun K hK => ?_)
                              refine al_wp ?_
                              intro w5 P hP X q
                              have Z := Lib.hid (Mz.new hSS q hP X)
                              refine hK _ _ (fun _ => hSS.new q) ?_
                              have m := hSS.new q
                              clear hK K hSS X hP q
                              have hSS := m
                              clear m
                              try simp only [List.getElem_toArray, List.getElem_cons_succ, List.getElem_cons_zero, Act.put, List.setIfInBounds_toArray, List.set_cons_zero, List.set_cons_succ]
                              refine wpAnyM_one (i := 39) rfl (by kernel_rfl) rfl (fun K hK => ?_)
                              refine st_wp 6 47 (t := ⟨x0, r1, r2, r3, r4, r5, x6, r7, r8, x9, r10, r11, r12, false, false, 0, 0, 0, 0, 0, 0, 0⟩) rfl rfl Z.out.x ?_
                              refine hK _ _ (fun h => absurd h (by decide)) ?_
                              clear hK K
                              try simp only [List.getElem_toArray, List.getElem_cons_succ, List.getElem_cons_zero, Act.put, List.setIfInBounds_toArray, List.set_cons_zero, List.set_cons_succ]
                              refine wpAnyM_done (by kernel_rfl) ?_ _
                              go_wp2
                              go_meet
                              exact ⟨_, ⟨x0, r1, r2, r3, r4, r5, x6, r7, r8, x9, r10, r11, r12, false, false, 0, 0, 0, 0, 0, 0, 0⟩, rfl, Lib.hid (Z.out.row _)⟩
                            · refine al_wp ?_
                              intro w5 P hP X q
                              have Z := Lib.hid (Mz.new hSS q hP X)
                              refine hK _ _ (fun _ => hSS.new q) ?_
                              have m := hSS.new q
                              clear hK K hSS X hP q
                              have hSS := m
                              clear m
                              try simp only [List.getElem_toArray, List.getElem_cons_succ, List.getElem_cons_zero, Act.put, List.setIfInBounds_toArray, List.set_cons_zero, List.set_cons_succ]
                              refine wpAnyM_one (i := 36) rfl (by kernel_rfl) rfl (fun K hK => ?_)
                              go_simp
                              refine (rangeX 3 5 (by decide) (by decide) (by decide) _ hSS).mono ?_
                              rintro e w5 ⟨⟨r12, rfl⟩, m, g⟩
                              have Z2 := Lib.hid (Z.out.next m g)
                              clear Z
                              have Z := Z2
                              clear Z2
                              refine hK _ _ (fun _ => m) ?_
                              clear hK K hSS g
                              have hSS := m
                              clear m
                              try simp only [List.getElem_toArray, List.getElem_cons_succ, List.getElem_cons_zero, Act.put, List.setIfInBounds_toArray, List.set_cons_zero, List.set_cons_succ]
                              refine wpAnyM_take (i := 37) (v := ?_) rfl (by kernel_rfl) (fun _ _ _ h => h) (Or.inl ⟨by rfl, ?_⟩) hSS ?_
                              rotate_left 1
                              · intro wS hwS
                                go_simp
                                try with_reducible rfl
                              simp only [List.getElem_toArray, List.getElem_cons_succ, List.getElem_cons_zero, Act.put, List.setIfInBounds_toArray, List.set_cons_zero, List.set_cons_succ]
                              refine wpAnyM_one (i := 39) rfl (by kernel_rfl) rfl (fun K hK => ?_)
                              refine st_wp 6 47 (t := ⟨x0, r1, r2, r3, r4, r5, x6, r7, r8, x9, r10, r11, r12, false, false, 0, 0, 0, 0, 0, 0, 0⟩) rfl rfl Z.out.x ?_
                              refine hK _ _ (fun h => absurd h (by decide)) ?_
                              clear hK K
                              try simp only [List.getElem_toArray, List.getElem_cons_succ, List.getElem_cons_zero, Act.put, List.setIfInBounds_toArray, List.set_cons_zero, List.set_cons_succ]
                              refine wpAnyM_done (by kernel_rfl) ?_ _
                              go_wp2
                              go_meet
                              exact ⟨_, ⟨x0, r1, r2, r3, r4, r5, x6, r7, r8, x9, r10, r11, r12, false, false, 0, 0, 0, 0, 0, 0, 0⟩, rfl, Lib.hid (Z.out.row _)⟩
                          · refine al_wp ?_
                            intro w5 P hP X q
                            have Z := Lib.hid (Mz.new hSS q hP X)
                            refine hK _ _ (fun _ => hSS.new q) ?_
                            have m := hSS.new q
                            clear hK K hSS X hP q
                            have hSS := m
                            clear m
                            try simp only [List.getElem_toArray, List.getElem_cons_succ, List.getElem_cons_zero, Act.put, List.setIfInBounds_toArray, List.set_cons_zero, List.set_cons_succ]
                            refine wpAnyM_one (i := 34) rfl (by kernel_rfl) rfl (fun K hK => ?_)
                            go_simp
                            refine (rangeX 68 69 (by decide) (by decide) (by decide) _ hSS).mono ?_
                            rintro e w5 ⟨⟨r11, rfl⟩, m, g⟩
                            have Z2 := Lib.hid (Z.out.next m g)
                            clear Z
                            have Z := Z2
                            clear Z2
                            refine hK _ _ (fun _ => m) ?_
                            clear hK K hSS g
                            have hSS := m
                            clear m
                            try simp only [List.getElem_toArray, List.getElem_cons_succ, List.getElem_cons_zero, Act.put, List.setIfInBounds_toArray, List.set_cons_zero, List.set_cons_succ]
                            refine wpAnyM_one (i := 36) rfl (by kernel_rfl) rfl (fun K hK => ?_)
                            go_simp
                            refine (rangeX 3 5 (by decide) (by decide) (by decide) _ hSS).mono ?_
                            rintro e w5 ⟨⟨r12, rfl⟩, m, g⟩
                            have Z2 := Lib.hid (Z.out.next m g)
                            clear Z
                            have Z := Z2
                            clear Z2
                            refine hK _ _ (fun _ => m) ?_
                            clear hK K hSS g
                            have hSS := m
                            clear m
                            try simp only [List.getElem_toArray, List.getElem_cons_succ, List.getElem_cons_zero, Act.put, List.setIfInBounds_toArray, List.set_cons_zero, List.set_cons_succ]
                            refine wpAnyM_take (i := 37) (v := ?_) rfl (by kernel_rfl) (fun _ _ _ h => h) (Or.inl ⟨by rfl, ?_⟩) hSS ?_
                            rotate_left 1
                            · intro wS hwS
                              go_simp
                              try with_reducible rfl
                            simp only [List.getElem_toArray, List.getElem_cons_succ, List.getElem_cons_zero, Act.put, List.setIfInBounds_toArray, List.set_cons_zero, List.set_cons_succ]
                            refine wpAnyM_one (i := 39) rfl (by kernel_rfl) rfl (fun K hK => ?_)
                            refine st_wp 6 47 (t := ⟨x0, r1, r2, r3, r4, r5, x6, r7, r8, x9, r10, r11, r12, false, false, 0, 0, 0, 0, 0, 0, 0⟩) rfl rfl Z.out.x ?_
                            refine hK _ _ (fun h => absurd h (by decide)) ?_
                            clear hK K
                            try simp only [List.getElem_toArray, List.getElem_cons_succ, List.getElem_cons_zero, Act.put, List.setIfInBounds_toArray, List.set_cons_zero, List.set_cons_succ]
                            refine wpAnyM_done (by kernel_rfl) ?_ _
                            go_wp2
                            go_meet
                            exact ⟨_, ⟨x0, r1, r2, r3, r4, r5, x6, r7, r8, x9, r10, r11, r12, false, false, 0, 0, 0, 0, 0, 0, 0⟩, rfl, Lib.hid (Z.out.row _)⟩
                        · refine al_wp ?_
                          intro w5 P hP X q
                          have Z := Lib.hid (Mz.new hSS q hP X)
                          refine hK _ _ (fun _ => hSS.new q) ?_
                          have m := hSS.new q
                          clear hK K hSS X hP q
                          have hSS := m
                          clear m
                          try simp only [List.getElem_toArray, List.getElem_cons_succ, List.getElem_cons_zero, Act.put, List.setIfInBounds_toArray, List.set_cons_zero, List.set_cons_succ]
                          refine wpAnyM_one (i := 32) rfl (by kernel_rfl) rfl (fun K hK => ?_)
                          go_simp
                          refine (rangeX 15 16 (by decide) (by decide) (by decide) _ hSS).mono ?_
                          rintro e w5 ⟨⟨r10, rfl⟩, m, g⟩
                          have Z2 := Lib.hid (Z.out.next m g)
                          clear Z
                          have Z := Z2
                          clear Z2
                          refine hK _ _ (fun _ => m) ?_
                          clear hK K hSS g
                          have hSS := m
                          clear m
                          try simp only [List.getElem_toArray, List.getElem_cons_succ, List.getElem_cons_zero, Act.put, List.setIfInBounds_toArray, List.set_cons_zero, List.set_cons_succ]
                          refine wpAnyM_one (i := 34) rfl (by kernel_rfl) rfl (fun K hK => ?_)
                          go_simp
                          refine (rangeX 68 69 (by decide) (by decide) (by decide) _ hSS).mono ?_
                          rintro e w5 ⟨⟨r11, rfl⟩, m, g⟩
                          have Z2 := Lib.hid (Z.out.next m g)
                          clear Z
                          have Z := Z2
                          clear Z2
                          refine hK _ _ (fun _ => m) ?_
                          clear hK K hSS g
                          have hSS := m
                          clear m
                          try simp only [List.getElem_toArray, List.getElem_cons_succ, List.getElem_cons_zero, Act.put, List.setIfInBounds_toArray, List.set_cons_zero, List.set_cons_succ]
                          refine wpAnyM_one (i := 36) rfl (by kernel_rfl) rfl (fun K hK => ?_)
                          go_simp
                          refine (rangeX 3 5 (by decide) (by decide) (by decide) _ hSS).mono ?_
                          rintro e w5 ⟨⟨r12, rfl⟩, m, g⟩
                          have Z2 := Lib.hid (Z.out.next m g)
                          clear Z
                          have Z := Z2
                          clear Z2
                          refine hK _ _ (fun _ => m) ?_
                          clear hK K hSS g
                          have hSS := m
                          clear m
                          try simp only [List.getElem_toArray, List.getElem_cons_succ, List.getElem_cons_zero, Act.put, List.setIfInBounds_toArray, List.set_cons_zero, List.set_cons_succ]
                          refine wpAnyM_take (i := 37) (v := ?_) rfl (by kernel_rfl) (fun _ _ _ h => h) (Or.inl ⟨by rfl, ?_⟩) hSS ?_
                          rotate_left 1
                          · intro wS hwS
                            go_simp
                            try with_reducible rfl
                          simp only [List.getElem_toArray, List.getElem_cons_succ, List.getElem_cons_zero, Act.put, List.setIfInBounds_toArray, List.set_cons_zero, List.set_cons_succ]
                          refine wpAnyM_one (i := 39) rfl (by kernel_rfl) rfl (fun K hK => ?_)
                          refine st_wp 6 47 (t := ⟨x0, r1, r2, r3, r4, r5, x6, r7, r8, x9, r10, r11, r12, false, false, 0, 0, 0, 0, 0, 0, 0⟩) rfl rfl Z.out.x ?_
                          refine hK _ _ (fun h => absurd h (by decide)) ?_
                          clear hK K
                          try simp only [List.getElem_toArray, List.getElem_cons_succ, List.getElem_cons_zero, Act.put, List.setIfInBounds_toArray, List.set_cons_zero, List.set_cons_succ]
                          refine wpAnyM_done (by kernel_rfl) ?_ _
                          go_wp2
                          go_meet
                          exact ⟨_, ⟨x0, r1, r2, r3, r4, r5, x6, r7, r8, x9, r10, r11, r12, false, false, 0, 0, 0, 0, 0, 0, 0⟩, rfl, Lib.hid (Z.out.row _)⟩
                      · refine al_wp ?_
                        intro w5 P hP X q
                        have Z := Lib.hid (Mz.new hSS q hP X)
                        refine hK _ _ (fun _ => hSS.new q) ?_
                        have m := hSS.new q
                        clear hK K hSS X hP q
                        have hSS := m
                        clear m
                        try simp only [List.getElem_toArray, List.getElem_cons_succ, List.getElem_cons_zero, Act.put, List.setIfInBounds_toArray, List.set_cons_zero, List.set_cons_succ]
                        refine wpAnyM_one (i := 28) rfl (by kernel_rfl) rfl (fun K hK => ?_)
                        go_simp
                        refine (nextX 2 (by decide) (by decide) _ hSS).mono ?_
                        rintro e w5 ⟨⟨n, rfl, b0, b1⟩, m, g⟩
                        obtain ⟨N9, x9, rfl, hN9, hx⟩ := pal_at n b0 b1
                        have C9 := Lib.hid (fun wS (q : Mx w B R D1 D2 D3 tv zs wS) => (Mx.x3 q).cell' N9 _ hx)
                        have lN9 : (N9 : Int) < 2 := by omega
                        clear b0 b1 hx
                        have Z2 := Lib.hid (Z.out.next m g)
                        clear Z
                        have Z := Z2
                        clear Z2
                        refine hK _ _ (fun _ => m) ?_
                        clear hK K hSS g
                        have hSS := m
                        clear m
                        try simp only [List.getElem_toArray, List.getElem_cons_succ, List.getElem_cons_zero, Act.put, List.setIfInBounds_toArray, List.set_cons_zero, List.set_cons_succ]
                        refine wpAnyM_take (i := 29) (v := ?_) rfl (by kernel_rfl) (fun _ _ _ h => h) (Or.inl ⟨by rfl, ?_⟩) hSS ?_
                        rotate_left 1
                        · intro wS hwS
                          go_simp
                          try with_reducible rfl
                        simp only [List.getElem_toArray, List.getElem_cons_succ, List.getElem_cons_zero, Act.put, List.setIfInBounds_toArray, List.set_cons_zero, List.set_cons_succ]
                        refine wpAnyM_take (i := 30) (v := ?_) rfl (by kernel_rfl) (fun _ _ _ h => h) (Or.inl ⟨by rfl, ?_⟩) hSS ?_
                        rotate_left 1
                        · intro wS hwS
                          have c := C9.out wS hwS; go_simp
                          try with_reducible rfl
                        simp only [List.getElem_toArray, List.getElem_cons_succ, List.getElem_cons_zero, Act.put, List.setIfInBounds_toArray, List.set_cons_zero, List.set_cons_succ]
                        refine wpAnyM_one (i := 32) rfl (by kernel_rfl) rfl (fun K hK => ?_)
                        go_simp
                        refine (rangeX 15 16 (by decide) (by decide) (by decide) _ hSS).mono ?_
                        rintro e w5 ⟨⟨r10, rfl⟩, m, g⟩
                        have Z2 := Lib.hid (Z.out.next m g)
                        clear Z
                        have Z := Z2
                        clear Z2
                        refine hK _ _ (fun _ => m) ?_
                        clear hK K hSS g
                        have hSS := m
                        clear m
                        try simp only [List.getElem_toArray, List.getElem_cons_succ, List.getElem_cons_zero, Act.put, List.setIfInBounds_toArray, List.set_cons_zero, List.set_cons_succ]
                        refine wpAnyM_one (i := 34) rfl (by kernel_rfl) rfl (fun K hK => ?_)
                        go_simp
                        refine (rangeX 68 69 (by decide) (by decide) (by decide) _ hSS).mono ?_
                        rintro e w5 ⟨⟨r11, rfl⟩, m, g⟩
                        have Z2 := Lib.hid (Z.out.next m g)
                        clear Z
                        have Z := Z2
                        clear Z2
                        refine hK _ _ (fun _ => m) ?_
                        clear hK K hSS g
                        have hSS := m
                        clear m
                        try simp only [List.getElem_toArray, List.getElem_cons_succ, List.getElem_cons_zero, Act.put, List.setIfInBounds_toArray, List.set_cons_zero, List.set_cons_succ]
                        refine wpAnyM_one (i := 36) rfl (by kernel_rfl) rfl (fun K hK => ?_)
                        go_simp
                        refine (rangeX 3 5 (by decide) (by decide) (by decide) _ hSS).mono ?_
                        rintro e w5 ⟨⟨r12, rfl⟩, m, g⟩
                        have Z2 := Lib.hid (Z.out.next m g)
                        clear Z
                        have Z := Z2
                        clear Z2
                        refine hK _ _ (fun _ => m) ?_
                        clear hK K hSS g
                        have hSS := m
                        clear m
                        try simp only [List.getElem_toArray, List.getElem_cons_succ, List.getElem_cons_zero, Act.put, List.setIfInBounds_toArray, List.set_cons_zero, List.set_cons_succ]
                        refine wpAnyM_take (i := 37) (v := ?_) rfl (by kernel_rfl) (fun _ _ _ h => h) (Or.inl ⟨by rfl, ?_⟩) hSS ?_
                        rotate_left 1
                        · intro wS hwS
                          go_simp
                          try with_reducible rfl
                        simp only [List.getElem_toArray, List.getElem_cons_succ, List.getElem_cons_zero, Act.put, List.setIfInBounds_toArray, List.set_cons_zero, List.set_cons_succ]
                        refine wpAnyM_one (i := 39) rfl (by kernel_rfl) rfl (fun K hK => ?_)
                        refine st_wp 6 47 (t := ⟨x0, r1, r2, r3, r4, r5, x6, r7, r8, x9, r10, r11, r12, false, false, 0, 0, 0, 0, 0, 0, 0⟩) rfl rfl Z.out.x ?_
                        refine hK _ _ (fun h => absurd h (by decide)) ?_
                        clear hK K
                        try simp only [List.getElem_toArray, List.getElem_cons_succ, List.getElem_cons_zero, Act.put, List.setIfInBounds_toArray, List.set_cons_zero, List.set_cons_succ]
                        refine wpAnyM_done (by kernel_rfl) ?_ _
                        go_wp2
                        go_meet
                        exact ⟨_, ⟨x0, r1, r2, r3, r4, r5, x6, r7, r8, x9, r10, r11, r12, false, false, 0, 0, 0, 0, 0, 0, 0⟩, rfl, Lib.hid (Z.out.row _)⟩
                    · refine al_wp ?_
                      intro w5 P hP X q
                      have Z := Lib.hid (Mz.new hSS q hP X)
                      refine hK _ _ (fun _ => hSS.new q) ?_
                      have m := hSS.new q
                      clear hK K hSS X hP q
                      have hSS := m
                      clear m
                      try simp only [List.getElem_toArray, List.getElem_cons_succ, List.getElem_cons_zero, Act.put, List.setIfInBounds_toArray, List.set_cons_zero, List.set_cons_succ]
                      refine wpAnyM_one (i := 25) rfl (by kernel_rfl) rfl (fun K hK => ?_)
                      go_simp
                      refine (rangeX 54 59 (by decide) (by decide) (by decide) _ hSS).mono ?_
                      rintro e w5 ⟨⟨r8, rfl⟩, m, g⟩
                      have Z2 := Lib.hid (Z.out.next m g)
                      clear Z
                      have Z := Z2
                      clear Z2
                      refine hK _ _ (fun _ => m) ?_
                      clear hK K hSS g
                      have hSS := m
                      clear m
                      try simp only [List.getElem_toArray, List.getElem_cons_succ, List.getElem_cons_zero, Act.put, List.setIfInBounds_toArray, List.set_cons_zero, List.set_cons_succ]
                      refine wpAnyM_one (i := 28) rfl (by kernel_rfl) rfl (fun K hK => ?_)
                      go_simp
                      refine (nextX 2 (by decide) (by decide) _ hSS).mono ?_
                      rintro e w5 ⟨⟨n, rfl, b0, b1⟩, m, g⟩
                      obtain ⟨N9, x9, rfl, hN9, hx⟩ := pal_at n b0 b1
                      have C9 := Lib.hid (fun wS (q : Mx w B R D1 D2 D3 tv zs wS) => (Mx.x3 q).cell' N9 _ hx)
                      have lN9 : (N9 : Int) < 2 := by omega
                      clear b0 b1 hx
                      have Z2 := Lib.hid (Z.out.next m g)
                      clear Z
                      have Z := Z2
                      clear Z2
                      refine hK _ _ (fun _ => m) ?_
                      clear hK K hSS g
                      have hSS := m
                      clear m
                      try simp only [List.getElem_toArray, List.getElem_cons_succ, List.getElem_cons_zero, Act.put, List.setIfInBounds_toArray, List.set_cons_zero, List.set_cons_succ]
                      refine wpAnyM_take (i := 29) (v := ?_) rfl (by kernel_rfl) (fun _ _ _ h => h) (Or.inl ⟨by rfl, ?_⟩) hSS ?_
                      rotate_left 1
                      · intro wS hwS
                        go_simp
                        try with_reducible rfl
                      simp only [List.getElem_toArray, List.getElem_cons_succ, List.getElem_cons_zero, Act.put, List.setIfInBounds_toArray, List.set_cons_zero, List.set_cons_succ]
                      refine wpAnyM_take (i := 30) (v := ?_) rfl (by kernel_rfl) (fun _ _ _ h => h) (Or.inl ⟨by rfl, ?_⟩) hSS ?_
                      rotate_left 1
                      · intro wS hwS
                        have c := C9.out wS hwS; go_simp
                        try with_reducible rfl
                      simp only [List.getElem_toArray, List.getElem_cons_succ, List.getElem_cons_zero, Act.put, List.setIfInBounds_toArray, List.set_cons_zero, List.set_cons_succ]
                      refine wpAnyM_one (i := 32) rfl (by kernel_rfl) rfl (fun K hK => ?_)
                      go_simp
                      refine (rangeX 15 16 (by decide) (by decide) (by decide) _ hSS).mono ?_
                      rintro e w5 ⟨⟨r10, rfl⟩, m, g⟩
                      have Z2 := Lib.hid (Z.out.next m g)
                      clear Z
                      have Z := Z2
                      clear Z2
                      refine hK _ _ (fun _ => m) ?_
                      clear hK K hSS g
                      have hSS := m
                      clear m
                      try simp only [List.getElem_toArray, List.getElem_cons_succ, List.getElem_cons_zero, Act.put, List.setIfInBounds_toArray, List.set_cons_zero, List.set_cons_succ]
                      refine wpAnyM_one (i := 34) rfl (by kernel_rfl) rfl (fun K hK => ?_)
                      go_simp
                      refine (rangeX 68 69 (by decide) (by decide) (by decide) _ hSS).mono ?_
                      rintro e w5 ⟨⟨r11, rfl⟩, m, g⟩
                      have Z2 := Lib.hid (Z.out.next m g)
                      clear Z
                      have Z := Z2
                      clear Z2
                      refine hK _ _ (fun _ => m) ?_
                      clear hK K hSS g
                      have hSS := m
                      clear m
                      try simp only [List.getElem_toArray, List.getElem_cons_succ, List.getElem_cons_zero, Act.put, List.setIfInBounds_toArray, List.set_cons_zero, List.set_cons_succ]
                      refine wpAnyM_one (i := 36) rfl (by kernel_rfl) rfl (fun K hK => ?_)
                      go_simp
                      refine (rangeX 3 5 (by decide) (by decide) (by decide) _ hSS).mono ?_
                      rintro e w5 ⟨⟨r12, rfl⟩, m, g⟩
                      have Z2 := Lib.hid (Z.out.next m g)
                      clear Z
                      have Z := Z2
                      clear Z2
                      refine hK _ _ (fun _ => m) ?_
                      clear hK K hSS g
                      have hSS := m
                      clear m
                      try simp only [List.getElem_toArray, List.getElem_cons_succ, List.getElem_cons_zero, Act.put, List.setIfInBounds_toArray, List.set_cons_zero, List.set_cons_succ]
                      refine wpAnyM_take (i := 37) (v := ?_) rfl (by kernel_rfl) (fun _ _ _ h => h) (Or.inl ⟨by rfl, ?_⟩) hSS ?_
                      rotate_left 1
                      · intro wS hwS
                        go_simp
                        try with_reducible rfl
                      simp only [List.getElem_toArray, List.getElem_cons_succ, List.getElem_cons_zero, Act.put, List.setIfInBounds_toArray, List.set_cons_zero, List.set_cons_succ]
                      refine wpAnyM_one (i := 39) rfl (by kernel_rfl) rfl (fun K hK => ?_)
                      refine st_wp 6 47 (t := ⟨x0, r1, r2, r3, r4, r5, x6, r7, r8, x9, r10, r11, r12, false, false, 0, 0, 0, 0, 0, 0, 0⟩) rfl rfl Z.out.x ?_
                      refine hK _ _ (fun h => absurd h (by decide)) ?_
                      clear hK K
                      try simp only [List.getElem_toArray, List.getElem_cons_succ, List.getElem_cons_zero, Act.put, List.setIfInBounds_toArray, List.set_cons_zero, List.set_cons_succ]
                      refine wpAnyM_done (by kernel_rfl) ?_ _
                      go_wp2
                      go_meet
                      exact ⟨_, ⟨x0, r1, r2, r3, r4, r5, x6, r7, r8, x9, r10, r11, r12, false, false, 0, 0, 0, 0, 0, 0, 0⟩, rfl, Lib.hid (Z.out.row _)⟩
                  · refine al_wp ?_
                    intro w5 P hP X q
                    have Z := Lib.hid (Mz.new hSS q hP X)
                    refine hK _ _ (fun _ => hSS.new q) ?_
                    have m := hSS.new q
                    clear hK K hSS X hP q
                    have hSS := m
                    clear m
                    try simp only [List.getElem_toArray, List.getElem_cons_succ, List.getElem_cons_zero, Act.put, List.setIfInBounds_toArray, List.set_cons_zero, List.set_cons_succ]
                    refine wpAnyM_one (i := 23) rfl (by kernel_rfl) rfl (fun K hK => ?_)
                    go_simp
                    refine (rangeX 98 99 (by decide) (by decide) (by decide) _ hSS).mono ?_
                    rintro e w5 ⟨⟨r7, rfl⟩, m, g⟩
                    have Z2 := Lib.hid (Z.out.next m g)
                    clear Z
                    have Z := Z2
                    clear Z2
                    refine hK _ _ (fun _ => m) ?_
                    clear hK K hSS g
                    have hSS := m
                    clear m
                    try simp only [List.getElem_toArray, List.getElem_cons_succ, List.getElem_cons_zero, Act.put, List.setIfInBounds_toArray, List.set_cons_zero, List.set_cons_succ]
                    refine wpAnyM_one (i := 25) rfl (by kernel_rfl) rfl (fun K hK => ?_)
                    go_simp
                    refine (rangeX 54 59 (by decide) (by decide) (by decide) _ hSS).mono ?_
                    rintro e w5 ⟨⟨r8, rfl⟩, m, g⟩
                    have Z2 := Lib.hid (Z.out.next m g)
                    clear Z
                    have Z := Z2
                    clear Z2
                    refine hK _ _ (fun _ => m) ?_
                    clear hK K hSS g
                    have hSS := m
                    clear m
                    try simp only [List.getElem_toArray, List.getElem_cons_succ, List.getElem_cons_zero, Act.put, List.setIfInBounds_toArray, List.set_cons_zero, List.set_cons_succ]
                    refine wpAnyM_one (i := 28) rfl (by kernel_rfl) rfl (fun K hK => ?_)
                    go_simp
                    refine (nextX 2 (by decide) (by decide) _ hSS).mono ?_
                    rintro e w5 ⟨⟨n, rfl, b0, b1⟩, m, g⟩
                    obtain ⟨N9, x9, rfl, hN9, hx⟩ := pal_at n b0 b1
                    have C9 := Lib.hid (fun wS (q : Mx w B R D1 D2 D3 tv zs wS) => (Mx.x3 q).cell' N9 _ hx)
                    have lN9 : (N9 : Int) < 2 := by omega
                    clear b0 b1 hx
                    have Z2 := Lib.hid (Z.out.next m g)
                    clear Z
                    have Z := Z2
                    clear Z2
                    refine hK _ _ (fun _ => m) ?_
                    clear hK K hSS g
                    have hSS := m
                    clear m
                    try simp only [List.getElem_toArray, List.getElem_cons_succ, List.getElem_cons_zero, Act.put, List.setIfInBounds_toArray, List.set_cons_zero, List.set_cons_succ]
                    refine wpAnyM_take (i := 29) (v := ?_) rfl (by kernel_rfl) (fun _ _ _ h => h) (Or.inl ⟨by rfl, ?_⟩) hSS ?_
                    rotate_left 1
                    · intro wS hwS
                      go_simp
                      try with_reducible rfl
                    simp only [List.getElem_toArray, List.getElem_cons_succ, List.getElem_cons_zero, Act.put, List.setIfInBounds_toArray, List.set_cons_zero, List.set_cons_succ]
                    refine wpAnyM_take (i := 30) (v := ?_) rfl (by kernel_rfl) (fun _ _ _ h => h) (Or.inl ⟨by rfl, ?_⟩) hSS ?_
                    rotate_left 1
                    · intro wS hwS
                      have c := C9.out wS hwS; go_simp
                      try with_reducible rfl
                    simp only [List.getElem_toArray, List.getElem_cons_succ, List.getElem_cons_zero, Act.put, List.setIfInBounds_toArray, List.set_cons_zero, List.set_cons_succ]
                    refine wpAnyM_one (i := 32) rfl (by kernel_rfl) rfl (fun K hK => ?_)
                    go_simp
                    refine (rangeX 15 16 (by decide) (by decide) (by decide) _ hSS).mono ?_
                    rintro e w5 ⟨⟨r10, rfl⟩, m, g⟩
                    have Z2 := Lib.hid (Z.out.next m g)
                    clear Z
                    have Z := Z2
                    clear Z2
                    refine hK _ _ (fun _ => m) ?_
                    clear hK K hSS g
                    have hSS := m
                    clear m
                    try simp only [List.getElem_toArray, List.getElem_cons_succ, List.getElem_cons_zero, Act.put, List.setIfInBounds_toArray, List.set_cons_zero, List.set_cons_succ]
                    refine wpAnyM_one (i := 34) rfl (by kernel_rfl) rfl (fun K hK => ?_)
                    go_simp
                    refine (rangeX 68 69 (by decide) (by decide) (by decide) _ hSS).mono ?_
                    rintro e w5 ⟨⟨r11, rfl⟩, m, g⟩
                    have Z2 := Lib.hid (Z.out.next m g)
                    clear Z
                    have Z := Z2
                    clear Z2
                    refine hK _ _ (fun _ => m) ?_
                    clear hK K hSS g
                    have hSS := m
                    clear m
                    try simp only [List.getElem_toArray, List.getElem_cons_succ, List.getElem_cons_zero, Act.put, List.setIfInBounds_toArray, List.set_cons_zero, List.set_cons_succ]
                    refine wpAnyM_one (i := 36) rfl (by kernel_rfl) rfl (fun K hK => ?_)
                    go_simp
                    refine (rangeX 3 5 (by decide) (by decide) (by decide) _ hSS).mono ?_
                    rintro e w5 ⟨⟨r12, rfl⟩, m, g⟩
                    have Z2 := Lib.hid (Z.out.next m g)
                    clear Z
                    have Z := Z2
                    clear Z2
                    refine hK _ _ (fun _ => m) ?_
                    clear hK K hSS g
                    have hSS := m
                    clear m
                    try simp only [List.getElem_toArray, List.getElem_cons_succ, List.getElem_cons_zero, Act.put, List.setIfInBounds_toArray, List.set_cons_zero, List.set_cons_succ]
                    refine wpAnyM_take (i := 37) (v := ?_) rfl (by kernel_rfl) (fun _ _ _ h => h) (Or.inl ⟨by rfl, ?_⟩) hSS ?_
                    rotate_left 1
                    · intro wS hwS
                      go_simp
                      try with_reducible rfl
                    simp only [List.getElem_toArray, List.getElem_cons_succ, List.getElem_cons_zero, Act.put, List.setIfInBounds_toArray, List.set_cons_zero, List.set_cons_succ]
                    refine wpAnyM_one (i := 39) rfl (by kernel_rfl) rfl (fun K hK => ?_)
                    refine st_wp 6 47 (t := ⟨x0, r1, r2, r3, r4, r5, x6, r7, r8, x9, r10, r11, r12, false, false, 0, 0, 0, 0, 0, 0, 0⟩) rfl rfl Z.out.x ?_
                    refine hK _ _ (fun h => absurd h (by decide)) ?_
                    clear hK K
                    try simp only [List.getElem_toArray, List.getElem_cons_succ, List.getElem_cons_zero, Act.put, List.setIfInBounds_toArray, List.set_cons_zero, List.set_cons_succ]
                    refine wpAnyM_done (by kernel_rfl) ?_ _
                    go_wp2
                    go_meet
                    exact ⟨_, ⟨x0, r1, r2, r3, r4, r5, x6, r7, r8, x9, r10, r11, r12, false, false, 0, 0, 0, 0, 0, 0, 0⟩, rfl, Lib.hid (Z.out.row _)⟩
                · refine al_wp ?_
                  intro w5 P hP X q
                  have Z := Lib.hid (Mz.new hSS q hP X)
                  refine hK _ _ (fun _ => hSS.new q) ?_
                  have m := hSS.new q
                  clear hK K hSS X hP q
                  have hSS := m
                  clear m
                  try simp only [List.getElem_toArray, List.getElem_cons_succ, List.getElem_cons_zero, Act.put, List.setIfInBounds_toArray, List.set_cons_zero, List.set_cons_succ]
                  refine wpAnyM_one (i := 19) rfl (by kernel_rfl) rfl (fun K hK => ?_)
                  go_simp
                  refine (nextX 3 (by decide) (by decide) _ hSS).mono ?_
                  rintro e w5 ⟨⟨n, rfl, b0, b1⟩, m, g⟩
                  obtain ⟨N6, x6, rfl, hN6, hx⟩ := lel_at n b0 b1
                  have C6 := Lib.hid (fun wS (q : Mx w B R D1 D2 D3 tv zs wS) => (Mx.x2 q).cell' N6 _ hx)
                  have lN6 : (N6 : Int) < 3 := by omega
                  clear b0 b1 hx
                  have Z2 := Lib.hid (Z.out.next m g)
                  clear Z
                  have Z := Z2
                  clear Z2
                  refine hK _ _ (fun _ => m) ?_
                  clear hK K hSS g
                  have hSS := m
                  clear m
                  try simp only [List.getElem_toArray, List.getElem_cons_succ, List.getElem_cons_zero, Act.put, List.setIfInBounds_toArray, List.set_cons_zero, List.set_cons_succ]
                  refine wpAnyM_take (i := 20) (v := ?_) rfl (by kernel_rfl) (fun _ _ _ h => h) (Or.inl ⟨by rfl, ?_⟩) hSS ?_
                  rotate_left 1
                  · intro wS hwS
                    go_simp
                    try with_reducible rfl
                  simp only [List.getElem_toArray, List.getElem_cons_succ, List.getElem_cons_zero, Act.put, List.setIfInBounds_toArray, List.set_cons_zero, List.set_cons_succ]
                  refine wpAnyM_take (i := 21) (v := ?_) rfl (by kernel_rfl) (fun _ _ _ h => h) (Or.inl ⟨by rfl, ?_⟩) hSS ?_
                  rotate_left 1
                  · intro wS hwS
                    have c := C6.out wS hwS; go_simp
                    try with_reducible rfl
                  simp only [List.getElem_toArray, List.getElem_cons_succ, List.getElem_cons_zero, Act.put, List.setIfInBounds_toArray, List.set_cons_zero, List.set_cons_succ]
                  refine wpAnyM_one (i := 23) rfl (by kernel_rfl) rfl (fun K hK => ?_)
                  go_simp
                  refine (rangeX 98 99 (by decide) (by decide) (by decide) _ hSS).mono ?_
                  rintro e w5 ⟨⟨r7, rfl⟩, m, g⟩
                  have Z2 := Lib.hid (Z.out.next m g)
                  clear Z
                  have Z := Z2
                  clear Z2
                  refine hK _ _ (fun _ => m) ?_
                  clear hK K hSS g
                  have hSS := m
                  clear m
                  try simp only [List.getElem_toArray, List.getElem_cons_succ, List.getElem_cons_zero, Act.put, List.setIfInBounds_toArray, List.set_cons_zero, List.set_cons_succ]
                  refine wpAnyM_one (i := 25) rfl (by kernel_rfl) rfl (fun K hK => ?_)
                  go_simp
                  refine (rangeX 54 59 (by decide) (by decide) (by decide) _ hSS).mono ?_
                  rintro e w5 ⟨⟨r8, rfl⟩, m, g⟩
                  have Z2 := Lib.hid (Z.out.next m g)
                  clear Z
                  have Z := Z2
                  clear Z2
                  refine hK _ _ (fun _ => m) ?_
                  clear hK K hSS g
                  have hSS := m
                  clear m
                  try simp only [List.getElem_toArray, List.getElem_cons_succ, List.getElem_cons_zero, Act.put, List.setIfInBounds_toArray, List.set_cons_zero, List.set_cons_succ]
                  refine wpAnyM_one (i := 28) rfl (by kernel_rfl) rfl (fun K hK => ?_)
                  go_simp
                  refine (nextX 2 (by decide) (by decide) _ hSS).mono ?_
                  rintro e w5 ⟨⟨n, rfl, b0, b1⟩, m, g⟩
                  obtain ⟨N9, x9, rfl, hN9, hx⟩ := pal_at n b0 b1
                  have C9 := Lib.hid (fun wS (q : Mx w B R D1 D2 D3 tv zs wS) => (Mx.x3 q).cell' N9 _ hx)
                  have lN9 : (N9 : Int) < 2 := by omega
                  clear b0 b1 hx
                  have Z2 := Lib.hid (Z.out.next m g)
                  clear Z
                  have Z := Z2
                  clear Z2
                  refine hK _ _ (fun _ => m) ?_
                  clear hK K hSS g
                  have hSS := m
                  clear m
                  try simp only [List.getElem_toArray, List.getElem_cons_succ, List.getElem_cons_zero, Act.put, List.setIfInBounds_toArray, List.set_cons_zero, List.set_cons_succ]
                  refine wpAnyM_take (i := 29) (v := ?_) rfl (by kernel_rfl) (fun _ _ _ h => h) (Or.inl ⟨by rfl, ?_⟩) hSS ?_
                  rotate_left 1
                  · intro wS hwS
                    go_simp
                    try with_reducible rfl
                  simp only [List.getElem_toArray, List.getElem_cons_succ, List.getElem_cons_zero, Act.put, List.setIfInBounds_toArray, List.set_cons_zero, List.set_cons_succ]
                  refine wpAnyM_take (i := 30) (v := ?_) rfl (by kernel_rfl) (fun _ _ _ h => h) (Or.inl ⟨by rfl, ?_⟩) hSS ?_
                  rotate_left 1
                  · intro wS hwS
                    have c := C9.out wS hwS; go_simp
                    try with_reducible rfl
                  simp only [List.getElem_toArray, List.getElem_cons_succ, List.getElem_cons_zero, Act.put, List.setIfInBounds_toArray, List.set_cons_zero, List.set_cons_succ]
                  refine wpAnyM_one (i := 32) rfl (by kernel_rfl) rfl (fun K hK => ?_)
                  go_simp
                  refine (rangeX 15 16 (by decide) (by decide) (by decide) _ hSS).mono ?_
                  rintro e w5 ⟨⟨r10, rfl⟩, m, g⟩
                  have Z2 := Lib.hid (Z.out.next m g)
                  clear Z
                  have Z := Z2
                  clear Z2
                  refine hK _ _ (fun _ => m) ?_
                  clear hK K hSS g
                  have hSS := m
                  clear m
                  try simp only [List.getElem_toArray, List.getElem_cons_succ, List.getElem_cons_zero, Act.put, List.setIfInBounds_toArray, List.set_cons_zero, List.set_cons_succ]
                  refine wpAnyM_one (i := 34) rfl (by kernel_rfl) rfl (fun K hK => ?_)
                  go_simp
                  refine (rangeX 68 69 (by decide) (by decide) (by decide) _ hSS).mono ?_
                  rintro e w5 ⟨⟨r11, rfl⟩, m, g⟩
                  have Z2 := Lib.hid (Z.out.next m g)
                  clear Z
                  have Z := Z2
                  clear Z2
                  refine hK _ _ (fun _ => m) ?_
                  clear hK K hSS g
                  have hSS := m
                  clear m
                  try simp only [List.getElem_toArray, List.getElem_cons_succ, List.getElem_cons_zero, Act.put, List.setIfInBounds_toArray, List.set_cons_zero, List.set_cons_succ]
                  refine wpAnyM_one (i := 36) rfl (by kernel_rfl) rfl (fun K hK => ?_)
                  go_simp
                  refine (rangeX 3 5 (by decide) (by decide) (by decide) _ hSS).mono ?_
                  rintro e w5 ⟨⟨r12, rfl⟩, m, g⟩
                  have Z2 := Lib.hid (Z.out.next m g)
                  clear Z
                  have Z := Z2
                  clear Z2
                  refine hK _ _ (fun _ => m) ?_
                  clear hK K hSS g
                  have hSS := m
                  clear m
                  try simp only [List.getElem_toArray, List.getElem_cons_succ, List.getElem_cons_zero, Act.put, List.setIfInBounds_toArray, List.set_cons_zero, List.set_cons_succ]
                  refine wpAnyM_take (i := 37) (v := ?_) rfl (by kernel_rfl) (fun _ _ _ h => h) (Or.inl ⟨by rfl, ?_⟩) hSS ?_
                  rotate_left 1
                  · intro wS hwS
                    go_simp
                    try with_reducible rfl
                  simp only [List.getElem_toArray, List.getElem_cons_succ, List.getElem_cons_zero, Act.put, List.setIfInBounds_toArray, List.set_cons_zero, List.set_cons_succ]
                  refine wpAnyM_one (i := 39) rfl (by kernel_rfl) rfl (fun K hK => ?_)
                  refine st_wp 6 47 (t := ⟨x0, r1, r2, r3, r4, r5, x6, r7, r8, x9, r10, r11, r12, false, false, 0, 0, 0, 0, 0, 0, 0⟩) rfl rfl Z.out.x ?_
                  refine hK _ _ (fun h => absurd h (by decide)) ?_
                  clear hK K
                  try simp only [List.getElem_toArray, List.getElem_cons_succ, List.getElem_cons_zero, Act.put, List.setIfInBounds_toArray, List.set_cons_zero, List.set_cons_succ]
                  refine wpAnyM_done (by kernel_rfl) ?_ _
                  go_wp2
                  go_meet
                  exact ⟨_, ⟨x0, r1, r2, r3, r4, r5, x6, r7, r8, x9, r10, r11, r12, false, false, 0, 0, 0, 0, 0, 0, 0⟩, rfl, Lib.hid (Z.out.row _)⟩
              · refine al_wp ?_
                intro w5 P hP X q
                have Z := Lib.hid (Mz.new hSS q hP X)
                refine hK _ _ (fun _ => hSS.new q) ?_
                have m := hSS.new q
                clear hK K hSS X hP q
                have hSS := m
                clear m
                try simp only [List.getElem_toArray, List.getElem_cons_succ, List.getElem_cons_zero, Act.put, List.setIfInBounds_toArray, List.set_cons_zero, List.set_cons_succ]
                refine wpAnyM_one (i := 16) rfl (by kernel_rfl) rfl (fun K hK => ?_)
                go_simp
                refine (rangeX 40 42 (by decide) (by decide) (by decide) _ hSS).mono ?_
                rintro e w5 ⟨⟨r5, rfl⟩, m, g⟩
                have Z2 := Lib.hid (Z.out.next m g)
                clear Z
                have Z := Z2
                clear Z2
                refine hK _ _ (fun _ => m) ?_
                clear hK K hSS g
                have hSS := m
                clear m
                try simp only [List.getElem_toArray, List.getElem_cons_succ, List.getElem_cons_zero, Act.put, List.setIfInBounds_toArray, List.set_cons_zero, List.set_cons_succ]
                refine wpAnyM_one (i := 19) rfl (by kernel_rfl) rfl (fun K hK => ?_)
                go_simp
                refine (nextX 3 (by decide) (by decide) _ hSS).mono ?_
                rintro e w5 ⟨⟨n, rfl, b0, b1⟩, m, g⟩
                obtain ⟨N6, x6, rfl, hN6, hx⟩ := lel_at n b0 b1
                have C6 := Lib.hid (fun wS (q : Mx w B R D1 D2 D3 tv zs wS) => (Mx.x2 q).cell' N6 _ hx)
                have lN6 : (N6 : Int) < 3 := by omega
                clear b0 b1 hx
                have Z2 := Lib.hid (Z.out.next m g)
                clear Z
                have Z := Z2
                clear Z2
                refine hK _ _ (fun _ => m) ?_
                clear hK K hSS g
                have hSS := m
                clear m
                try simp only [List.getElem_toArray, List.getElem_cons_succ, List.getElem_cons_zero, Act.put, List.setIfInBounds_toArray, List.set_cons_zero, List.set_cons_succ]
                refine wpAnyM_take (i := 20) (v := ?_) rfl (by kernel_rfl) (fun _ _ _ h => h) (Or.inl ⟨by rfl, ?_⟩) hSS ?_
                rotate_left 1
                · intro wS hwS
                  go_simp
                  try with_reducible rfl
                simp only [List.getElem_toArray, List.getElem_cons_succ, List.getElem_cons_zero, Act.put, List.setIfInBounds_toArray, List.set_cons_zero, List.set_cons_succ]
                refine wpAnyM_take (i := 21) (v := ?_) rfl (by kernel_rfl) (fun _ _ _ h => h) (Or.inl ⟨by rfl, ?_⟩) hSS ?_
                rotate_left 1
                · intro wS hwS
                  have c := C6.out wS hwS; go_simp
                  try with_reducible rfl
                simp only [List.getElem_toArray, List.getElem_cons_succ, List.getElem_cons_zero, Act.put, List.setIfInBounds_toArray, List.set_cons_zero, List.set_cons_succ]
                refine wpAnyM_one (i := 23) rfl (by kernel_rfl) rfl (fun K hK => ?_)
                go_simp
                refine (rangeX 98 99 (by decide) (by decide) (by decide) _ hSS).mono ?_
                rintro e w5 ⟨⟨r7, rfl⟩, m, g⟩
                have Z2 := Lib.hid (Z.out.next m g)
                clear Z
                have Z := Z2
                clear Z2
                refine hK _ _ (fun _ => m) ?_
                clear hK K hSS g
                have hSS := m
                clear m
                try simp only [List.getElem_toArray, List.getElem_cons_succ, List.getElem_cons_zero, Act.put, List.setIfInBounds_toArray, List.set_cons_zero, List.set_cons_succ]
                refine wpAnyM_one (i := 25) rfl (by kernel_rfl) rfl (fun K hK => ?_)
                go_simp
                refine (rangeX 54 59 (by decide) (by decide) (by decide) _ hSS).mono ?_
                rintro e w5 ⟨⟨r8, rfl⟩, m, g⟩
                have Z2 := Lib.hid (Z.out.next m g)
                clear Z
                have Z := Z2
                clear Z2
                refine hK _ _ (fun _ => m) ?_
                clear hK K hSS g
                have hSS := m
                clear m
                try simp only [List.getElem_toArray, List.getElem_cons_succ, List.getElem_cons_zero, Act.put, List.setIfInBounds_toArray, List.set_cons_zero, List.set_cons_succ]
                refine wpAnyM_one (i := 28) rfl (by kernel_rfl) rfl (fun K hK => ?_)
                go_simp
                refine (nextX 2 (by decide) (by decide) _ hSS).mono ?_
                rintro e w5 ⟨⟨n, rfl, b0, b1⟩, m, g⟩
                obtain ⟨N9, x9, rfl, hN9, hx⟩ := pal_at n b0 b1
                have C9 := Lib.hid (fun wS (q : Mx w B R D1 D2 D3 tv zs wS) => (Mx.x3 q).cell' N9 _ hx)
                have lN9 : (N9 : Int) < 2 := by omega
                clear b0 b1 hx
                have Z2 := Lib.hid (Z.out.next m g)
                clear Z
                have Z := Z2
                clear Z2
                refine hK _ _ (fun _ => m) ?_
                clear hK K hSS g
                have hSS := m
                clear m
                try simp only [List.getElem_toArray, List.getElem_cons_succ, List.getElem_cons_zero, Act.put, List.setIfInBounds_toArray, List.set_cons_zero, List.set_cons_succ]
                refine wpAnyM_take (i := 29) (v := ?_) rfl (by kernel_rfl) (fun _ _ _ h => h) (Or.inl ⟨by rfl, ?_⟩) hSS ?_
                rotate_left 1
                · intro wS hwS
                  go_simp
                  try with_reducible rfl
                simp only [List.getElem_toArray, List.getElem_cons_succ, List.getElem_cons_zero, Act.put, List.setIfInBounds_toArray, List.set_cons_zero, List.set_cons_succ]
                refine wpAnyM_take (i := 30) (v := ?_) rfl (by kernel_rfl) (fun _ _ _ h => h) (Or.inl ⟨by rfl, ?_⟩) hSS ?_
                rotate_left 1
                · intro wS hwS
                  have c := C9.out wS hwS; go_simp
                  try with_reducible rfl
                simp only [List.getElem_toArray, List.getElem_cons_succ, List.getElem_cons_zero, Act.put, List.setIfInBounds_toArray, List.set_cons_zero, List.set_cons_succ]
                refine wpAnyM_one (i := 32) rfl (by kernel_rfl) rfl (fun K hK => ?_)
                go_simp
                refine (rangeX 15 16 (by decide) (by decide) (by decide) _ hSS).mono ?_
                rintro e w5 ⟨⟨r10, rfl⟩, m, g⟩
                have Z2 := Lib.hid (Z.out.next m g)
                clear Z
                have Z := Z2
                clear Z2
                refine hK _ _ (fun _ => m) ?_
                clear hK K hSS g
                have hSS := m
                clear m
                try simp only [List.getElem_toArray, List.getElem_cons_succ, List.getElem_cons_zero, Act.put, List.setIfInBounds_toArray, List.set_cons_zero, List.set_cons_succ]
                refine wpAnyM_one (i := 34) rfl (by kernel_rfl) rfl (fun K hK => ?_)
                go_simp
                refine (rangeX 68 69 (by decide) (by decide) (by decide) _ hSS).mono ?_
                rintro e w5 ⟨⟨r11, rfl⟩, m, g⟩
                have Z2 := Lib.hid (Z.out.next m g)
                clear Z
                have Z := Z2
                clear Z2
                refine hK _ _ (fun _ => m) ?_
                clear hK K hSS g
                have hSS := m
                clear m
                try simp only [List.getElem_toArray, List.getElem_cons_succ, List.getElem_cons_zero, Act.put, List.setIfInBounds_toArray, List.set_cons_zero, List.set_cons_succ]
                refine wpAnyM_one (i := 36) rfl (by kernel_rfl) rfl (fun K hK => ?_)
                go_simp
                refine (rangeX 3 5 (by decide) (by decide) (by decide) _ hSS).mono ?_
                rintro e w5 ⟨⟨r12, rfl⟩, m, g⟩
                have Z2 := Lib.hid (Z.out.next m g)
                clear Z
                have Z := Z2
                clear Z2
                refine hK _ _ (fun _ => m) ?_
                clear hK K hSS g
                have hSS := m
                clear m
                try simp only [List.getElem_toArray, List.getElem_cons_succ, List.getElem_cons_zero, Act.put, List.setIfInBounds_toArray, List.set_cons_zero, List.set_cons_succ]
                refine wpAnyM_take (i := 37) (v := ?_) rfl (by kernel_rfl) (fun _ _ _ h => h) (Or.inl ⟨by rfl, ?_⟩) hSS ?_
                rotate_left 1
                · intro wS hwS
                  go_simp
                  try with_reducible rfl
                simp only [List.getElem_toArray, List.getElem_cons_succ, List.getElem_cons_zero, Act.put, List.setIfInBounds_toArray, List.set_cons_zero, List.set_cons_succ]
                refine wpAnyM_one (i := 39) rfl (by kernel_rfl) rfl (fun K hK => ?_)
                refine st_wp 6 47 (t := ⟨x0, r1, r2, r3, r4, r5, x6, r7, r8, x9, r10, r11, r12, false, false, 0, 0, 0, 0, 0, 0, 0⟩) rfl rfl Z.out.x ?_
                refine hK _ _ (fun h => absurd h (by decide)) ?_
                clear hK K
                try simp only [List.getElem_toArray, List.getElem_cons_succ, List.getElem_cons_zero, Act.put, List.setIfInBounds_toArray, List.set_cons_zero, List.set_cons_succ]
                refine wpAnyM_done (by kernel_rfl) ?_ _
                go_wp2
                go_meet
                exact ⟨_, ⟨x0, r1, r2, r3, r4, r5, x6, r7, r8, x9, r10, r11, r12, false, false, 0, 0, 0, 0, 0, 0, 0⟩, rfl, Lib.hid (Z.out.row _)⟩
            · refine al_wp ?_
              intro w5 P hP X q
              have Z := Lib.hid (Mz.new hSS q hP X)
              refine hK _ _ (fun _ => hSS.new q) ?_
              have m := hSS.new q
              clear hK K hSS X hP q
              have hSS := m
              clear m
              try simp only [List.getElem_toArray, List.getElem_cons_succ, List.getElem_cons_zero, Act.put, List.setIfInBounds_toArray, List.set_cons_zero, List.set_cons_succ]
              refine wpAnyM_one (i := 14) rfl (by kernel_rfl) rfl (fun K hK => ?_)
              go_simp
              refine (rangeX 94 95 (by decide) (by decide) (by decide) _ hSS).mono ?_
              rintro e w5 ⟨⟨r4, rfl⟩, m, g⟩
              have Z2 := Lib.hid (Z.out.next m g)
              clear Z
              have Z := Z2
              clear Z2
              refine hK _ _ (fun _ => m) ?_
              clear hK K hSS g
              have hSS := m
              clear m
              try simp only [List.getElem_toArray, List.getElem_cons_succ, List.getElem_cons_zero, Act.put, List.setIfInBounds_toArray, List.set_cons_zero, List.set_cons_succ]
              refine wpAnyM_one (i := 16) rfl (by kernel_rfl) rfl (fun K hK => ?_)
              go_simp
              refine (rangeX 40 42 (by decide) (by decide) (by decide) _ hSS).mono ?_
              rintro e w5 ⟨⟨r5, rfl⟩, m, g⟩
              have Z2 := Lib.hid (Z.out.next m g)
              clear Z
              have Z := Z2
              clear Z2
              refine hK _ _ (fun _ => m) ?_
              clear hK K hSS g
              have hSS := m
              clear m
              try simp only [List.getElem_toArray, List.getElem_cons_succ, List.getElem_cons_zero, Act.put, List.setIfInBounds_toArray, List.set_cons_zero, List.set_cons_succ]
              refine wpAnyM_one (i := 19) rfl (by kernel_rfl) rfl (fun K hK => ?_)
              go_simp
              refine (nextX 3 (by decide) (by decide) _ hSS).mono ?_
              rintro e w5 ⟨⟨n, rfl, b0, b1⟩, m, g⟩
              obtain ⟨N6, x6, rfl, hN6, hx⟩ := lel_at n b0 b1
              have C6 := Lib.hid (fun wS (q : Mx w B R D1 D2 D3 tv zs wS) => (Mx.x2 q).cell' N6 _ hx)
              have lN6 : (N6 : Int) < 3 := by omega
              clear b0 b1 hx
              have Z2 := Lib.hid (Z.out.next m g)
              clear Z
              have Z := Z2
              clear Z2
              refine hK _ _ (fun _ => m) ?_
              clear hK K hSS g
              have hSS := m
              clear m
              try simp only [List.getElem_toArray, List.getElem_cons_succ, List.getElem_cons_zero, Act.put, List.setIfInBounds_toArray, List.set_cons_zero, List.set_cons_succ]
              refine wpAnyM_take (i := 20) (v := ?_) rfl (by kernel_rfl) (fun _ _ _ h => h) (Or.inl ⟨by rfl, ?_⟩) hSS ?_
              rotate_left 1
              · intro wS hwS
                go_simp
                try with_reducible rfl
              simp only [List.getElem_toArray, List.getElem_cons_succ, List.getElem_cons_zero, Act.put, List.setIfInBounds_toArray, List.set_cons_zero, List.set_cons_succ]
              refine wpAnyM_take (i := 21) (v := ?_) rfl (by kernel_rfl) (fun _ _ _ h => h) (Or.inl ⟨by rfl, ?_⟩) hSS ?_
              rotate_left 1
              · intro wS hwS
                have c := C6.out wS hwS; go_simp
                try with_reducible rfl
              simp only [List.getElem_toArray, List.getElem_cons_succ, List.getElem_cons_zero, Act.put, List.setIfInBounds_toArray, List.set_cons_zero, List.set_cons_succ]
              refine wpAnyM_one (i := 23) rfl (by kernel_rfl) rfl (fun K hK => ?_)
              go_simp
              refine (rangeX 98 99 (by decide) (by decide) (by decide) _ hSS).mono ?_
              rintro e w5 ⟨⟨r7, rfl⟩, m, g⟩
              have Z2 := Lib.hid (Z.out.next m g)
              clear Z
              have Z := Z2
              clear Z2
              refine hK _ _ (fun _ => m) ?_
              clear hK K hSS g
              have hSS := m
              clear m
              try simp only [List.getElem_toArray, List.getElem_cons_succ, List.getElem_cons_zero, Act.put, List.setIfInBounds_toArray, List.set_cons_zero, List.set_cons_succ]
              refine wpAnyM_one (i := 25) rfl (by kernel_rfl) rfl (fun K hK => ?_)
              go_simp
              refine (rangeX 54 59 (by decide) (by decide) (by decide) _ hSS).mono ?_
              rintro e w5 ⟨⟨r8, rfl⟩, m, g⟩
              have Z2 := Lib.hid (Z.out.next m g)
              clear Z
              have Z := Z2
              clear Z2
              refine hK _ _ (fun _ => m) ?_
              clear hK K hSS g
              have hSS := m
              clear m
              try simp only [List.getElem_toArray, List.getElem_cons_succ, List.getElem_cons_zero, Act.put, List.setIfInBounds_toArray, List.set_cons_zero, List.set_cons_succ]
              refine wpAnyM_one (i := 28) rfl (by kernel_rfl) rfl (fun K hK => ?_)
              go_simp
              refine (nextX 2 (by decide) (by decide) _ hSS).mono ?_
              rintro e w5 ⟨⟨n, rfl, b0, b1⟩, m, g⟩
              obtain ⟨N9, x9, rfl, hN9, hx⟩ := pal_at n b0 b1
              have C9 := Lib.hid (fun wS (q : Mx w B R D1 D2 D3 tv zs wS) => (Mx.x3 q).cell' N9 _ hx)
              have lN9 : (N9 : Int) < 2 := by omega
              clear b0 b1 hx
              have Z2 := Lib.hid (Z.out.next m g)
              clear Z
              have Z := Z2
              clear Z2
              refine hK _ _ (fun _ => m) ?_
              clear hK K hSS g
              have hSS := m
              clear m
              try simp only [List.getElem_toArray, List.getElem_cons_succ, List.getElem_cons_zero, Act.put, List.setIfInBounds_toArray, List.set_cons_zero, List.set_cons_succ]
              refine wpAnyM_take (i := 29) (v := ?_) rfl (by kernel_rfl) (fun _ _ _ h => h) (Or.inl ⟨by rfl, ?_⟩) hSS ?_
              rotate_left 1
              · intro wS hwS
                go_simp
                try with_reducible rfl
              simp only [List.getElem_toArray, List.getElem_cons_succ, List.getElem_cons_zero, Act.put, List.setIfInBounds_toArray, List.set_cons_zero, List.set_cons_succ]
              refine wpAnyM_take (i := 30) (v := ?_) rfl (by kernel_rfl) (fun _ _ _ h => h) (Or.inl ⟨by rfl, ?_⟩) hSS ?_
              rotate_left 1
              · intro wS hwS
                have c := C9.out wS hwS; go_simp
                try with_reducible rfl
              simp only [List.getElem_toArray, List.getElem_cons_succ, List.getElem_cons_zero, Act.put, List.setIfInBounds_toArray, List.set_cons_zero, List.set_cons_succ]
              refine wpAnyM_one (i := 32) rfl (by kernel_rfl) rfl (fun K hK => ?_)
              go_simp
              refine (rangeX 15 16 (by decide) (by decide) (by decide) _ hSS).mono ?_
              rintro e w5 ⟨⟨r10, rfl⟩, m, g⟩
              have Z2 := Lib.hid (Z.out.next m g)
              clear Z
              have Z := Z2
              clear Z2
              refine hK _ _ (fun _ => m) ?_
              clear hK K hSS g
              have hSS := m
              clear m
              try simp only [List.getElem_toArray, List.getElem_cons_succ, List.getElem_cons_zero, Act.put, List.setIfInBounds_toArray, List.set_cons_zero, List.set_cons_succ]
              refine wpAnyM_one (i := 34) rfl (by kernel_rfl) rfl (fun K hK => ?_)
              go_simp
              refine (rangeX 68 69 (by decide) (by decide) (by decide) _ hSS).mono ?_
              rintro e w5 ⟨⟨r11, rfl⟩, m, g⟩
              have Z2 := Lib.hid (Z.out.next m g)
              clear Z
              have Z := Z2
              clear Z2
              refine hK _ _ (fun _ => m) ?_
              clear hK K hSS g
              have hSS := m
              clear m
              try simp only [List.getElem_toArray, List.getElem_cons_succ, List.getElem_cons_zero, Act.put, List.setIfInBounds_toArray, List.set_cons_zero, List.set_cons_succ]
              refine wpAnyM_one (i := 36) rfl (by kernel_rfl) rfl (fun K hK => ?_)
              go_simp
              refine (rangeX 3 5 (by decide) (by decide) (by decide) _ hSS).mono ?_
              rintro e w5 ⟨⟨r12, rfl⟩, m, g⟩
              have Z2 := Lib.hid (Z.out.next m g)
              clear Z
              have Z := Z2
              clear Z2
              refine hK _ _ (fun _ => m) ?_
              clear hK K hSS g
              have hSS := m
              clear m
              try simp only [List.getElem_toArray, List.getElem_cons_succ, List.getElem_cons_zero, Act.put, List.setIfInBounds_toArray, List.set_cons_zero, List.set_cons_succ]
              refine wpAnyM_take (i := 37) (v := ?_) rfl (by kernel_rfl) (fun _ _ _ h => h) (Or.inl ⟨by rfl, ?_⟩) hSS ?_
              rotate_left 1
              · intro wS hwS
                go_simp
                try with_reducible rfl
              simp only [List.getElem_toArray, List.getElem_cons_succ, List.getElem_cons_zero, Act.put, List.setIfInBounds_toArray, List.set_cons_zero, List.set_cons_succ]
              refine wpAnyM_one (i := 39) rfl (by kernel_rfl) rfl (fun K hK => ?_)
              refine st_wp 6 47 (t := ⟨x0, r1, r2, r3, r4, r5, x6, r7, r8, x9, r10, r11, r12, false, false, 0, 0, 0, 0, 0, 0, 0⟩) rfl rfl Z.out.x ?_
              refine hK _ _ (fun h => absurd h (by decide)) ?_
              clear hK K
              try simp only [List.getElem_toArray, List.getElem_cons_succ, List.getElem_cons_zero, Act.put, List.setIfInBounds_toArray, List.set_cons_zero, List.set_cons_succ]
              refine wpAnyM_done (by kernel_rfl) ?_ _
              go_wp2
              go_meet
              exact ⟨_, ⟨x0, r1, r2, r3, r4, r5, x6, r7, r8, x9, r10, r11, r12, false, false, 0, 0, 0, 0, 0, 0, 0⟩, rfl, Lib.hid (Z.out.row _)⟩
          · refine al_wp ?_
            intro w5 P hP X q
            have Z := Lib.hid (Mz.new hSS q hP X)
            refine hK _ _ (fun _ => hSS.new q) ?_
            have m := hSS.new q
            clear hK K hSS X hP q
            have hSS := m
            clear m
            try simp only [List.getElem_toArray, List.getElem_cons_succ, List.getElem_cons_zero, Act.put, List.setIfInBounds_toArray, List.set_cons_zero, List.set_cons_succ]
            refine wpAnyM_one (i := 12) rfl (by kernel_rfl) rfl (fun K hK => ?_)
            go_simp
            refine (rangeX 20 21 (by decide) (by decide) (by decide) _ hSS).mono ?_
            rintro e w5 ⟨⟨r3, rfl⟩, m, g⟩
            have Z2 := Lib.hid (Z.out.next m g)
            clear Z
            have Z := Z2
            clear Z2
            refine hK _ _ (fun _ => m) ?_
            clear hK K hSS g
            have hSS := m
            clear m
            try simp only [List.getElem_toArray, List.getElem_cons_succ, List.getElem_cons_zero, Act.put, List.setIfInBounds_toArray, List.set_cons_zero, List.set_cons_succ]
            refine wpAnyM_one (i := 14) rfl (by kernel_rfl) rfl (fun K hK => ?_)
            go_simp
            refine (rangeX 94 95 (by decide) (by decide) (by decide) _ hSS).mono ?_
            rintro e w5 ⟨⟨r4, rfl⟩, m, g⟩
            have Z2 := Lib.hid (Z.out.next m g)
            clear Z
            have Z := Z2
            clear Z2
            refine hK _ _ (fun _ => m) ?_
            clear hK K hSS g
            have hSS := m
            clear m
            try simp only [List.getElem_toArray, List.getElem_cons_succ, List.getElem_cons_zero, Act.put, List.setIfInBounds_toArray, List.set_cons_zero, List.set_cons_succ]
            refine wpAnyM_one (i := 16) rfl (by kernel_rfl) rfl (fun K hK => ?_)
            go_simp
            refine (rangeX 40 42 (by decide) (by decide) (by decide) _ hSS).mono ?_
            rintro e w5 ⟨⟨r5, rfl⟩, m, g⟩
            have Z2 := Lib.hid (Z.out.next m g)
            clear Z
            have Z := Z2
            clear Z2
            refine hK _ _ (fun _ => m) ?_
            clear hK K hSS g
            have hSS := m
            clear m
            try simp only [List.getElem_toArray, List.getElem_cons_succ, List.getElem_cons_zero, Act.put, List.setIfInBounds_toArray, List.set_cons_zero, List.set_cons_succ]
            refine wpAnyM_one (i := 19) rfl (by kernel_rfl) rfl (fun K hK => ?_)
            go_simp
            refine (nextX 3 (by decide) (by decide) _ hSS).mono ?_
            rintro e w5 ⟨⟨n, rfl, b0, b1⟩, m, g⟩
            obtain ⟨N6, x6, rfl, hN6, hx⟩ := lel_at n b0 b1
            have C6 := Lib.hid (fun wS (q : Mx w B R D1 D2 D3 tv zs wS) => (Mx.x2 q).cell' N6 _ hx)
            have lN6 : (N6 : Int) < 3 := by omega
            clear b0 b1 hx
            have Z2 := Lib.hid (Z.out.next m g)
            clear Z
            have Z := Z2
            clear Z2
            refine hK _ _ (fun _ => m) ?_
            clear hK K hSS g
            have hSS := m
            clear m
            try simp only [List.getElem_toArray, List.getElem_cons_succ, List.getElem_cons_zero, Act.put, List.setIfInBounds_toArray, List.set_cons_zero, List.set_cons_succ]
            refine wpAnyM_take (i := 20) (v := ?_) rfl (by kernel_rfl) (fun _ _ _ h => h) (Or.inl ⟨by rfl, ?_⟩) hSS ?_
            rotate_left 1
            · intro wS hwS
              go_simp
              try with_reducible rfl
            simp only [List.getElem_toArray, List.getElem_cons_succ, List.getElem_cons_zero, Act.put, List.setIfInBounds_toArray, List.set_cons_zero, List.set_cons_succ]
            refine wpAnyM_take (i := 21) (v := ?_) rfl (by kernel_rfl) (fun _ _ _ h => h) (Or.inl ⟨by rfl, ?_⟩) hSS ?_
            rotate_left 1
            · intro wS hwS
              have c := C6.out wS hwS; go_simp
              try with_reducible rfl
            simp only [List.getElem_toArray, List.getElem_cons_succ, List.getElem_cons_zero, Act.put, List.setIfInBounds_toArray, List.set_cons_zero, List.set_cons_succ]
            refine wpAnyM_one (i := 23) rfl (by kernel_rfl) rfl (fun K hK => ?_)
            go_simp
            refine (rangeX 98 99 (by decide) (by decide) (by decide) _ hSS).mono ?_
            rintro e w5 ⟨⟨r7, rfl⟩, m, g⟩
            have Z2 := Lib.hid (Z.out.next m g)
            clear Z
            have Z := Z2
            clear Z2
            refine hK _ _ (fun _ => m) ?_
            clear hK K hSS g
            have hSS := m
            clear m
            try simp only [List.getElem_toArray, List.getElem_cons_succ, List.getElem_cons_zero, Act.put, List.setIfInBounds_toArray, List.set_cons_zero, List.set_cons_succ]
            refine wpAnyM_one (i := 25) rfl (by kernel_rfl) rfl (fun K hK => ?_)
            go_simp
            refine (rangeX 54 59 (by decide) (by decide) (by decide) _ hSS).mono ?_
            rintro e w5 ⟨⟨r8, rfl⟩, m, g⟩
            have Z2 := Lib.hid (Z.out.next m g)
            clear Z
            have Z := Z2
            clear Z2
            refine hK _ _ (fun _ => m) ?_
            clear hK K hSS g
            have hSS := m
            clear m
            try simp only [List.getElem_toArray, List.getElem_cons_succ, List.getElem_cons_zero, Act.put, List.setIfInBounds_toArray, List.set_cons_zero, List.set_cons_succ]
            refine wpAnyM_one (i := 28) rfl (by kernel_rfl) rfl (fun K hK => ?_)
            go_simp
            refine (nextX 2 (by decide) (by decide) _ hSS).mono ?_
            rintro e w5 ⟨⟨n, rfl, b0, b1⟩, m, g⟩
            obtain ⟨N9, x9, rfl, hN9, hx⟩ := pal_at n b0 b1
            have C9 := Lib.hid (fun wS (q : Mx w B R D1 D2 D3 tv zs wS) => (Mx.x3 q).cell' N9 _ hx)
            have lN9 : (N9 : Int) < 2 := by omega
            clear b0 b1 hx
            have Z2 := Lib.hid (Z.out.next m g)
            clear Z
            have Z := Z2
            clear Z2
            refine hK _ _ (fun _ => m) ?_
            clear hK K hSS g
            have hSS := m
            clear m
            try simp only [List.getElem_toArray, List.getElem_cons_succ, List.getElem_cons_zero, Act.put, List.setIfInBounds_toArray, List.set_cons_zero, List.set_cons_succ]
            refine wpAnyM_take (i := 29) (v := ?_) rfl (by kernel_rfl) (fun _ _ _ h => h) (Or.inl ⟨by rfl, ?_⟩) hSS ?_
            rotate_left 1
            · intro wS hwS
              go_simp
              try with_reducible rfl
            simp only [List.getElem_toArray, List.getElem_cons_succ, List.getElem_cons_zero, Act.put, List.setIfInBounds_toArray, List.set_cons_zero, List.set_cons_succ]
            refine wpAnyM_take (i := 30) (v := ?_) rfl (by kernel_rfl) (fun _ _ _ h => h) (Or.inl ⟨by rfl, ?_⟩) hSS ?_
            rotate_left 1
            · intro wS hwS
              have c := C9.out wS hwS; go_simp
              try with_reducible rfl
            simp only [List.getElem_toArray, List.getElem_cons_succ, List.getElem_cons_zero, Act.put, List.setIfInBounds_toArray, List.set_cons_zero, List.set_cons_succ]
            refine wpAnyM_one (i := 32) rfl (by kernel_rfl) rfl (fun K hK => ?_)
            go_simp
            refine (rangeX 15 16 (by decide) (by decide) (by decide) _ hSS).mono ?_
            rintro e w5 ⟨⟨r10, rfl⟩, m, g⟩
            have Z2 := Lib.hid (Z.out.next m g)
            clear Z
            have Z := Z2
            clear Z2
            refine hK _ _ (fun _ => m) ?_
            clear hK K hSS g
            have hSS := m
            clear m
            try simp only [List.getElem_toArray, List.getElem_cons_succ, List.getElem_cons_zero, Act.put, List.setIfInBounds_toArray, List.set_cons_zero, List.set_cons_succ]
            refine wpAnyM_one (i := 34) rfl (by kernel_rfl) rfl (fun K hK => ?_)
            go_simp
            refine (rangeX 68 69 (by decide) (by decide) (by decide) _ hSS).mono ?_
            rintro e w5 ⟨⟨r11, rfl⟩, m, g⟩
            have Z2 := Lib.hid (Z.out.next m g)
            clear Z
            have Z := Z2
            clear Z2
            refine hK _ _ (fun _ => m) ?_
            clear hK K hSS g
            have hSS := m
            clear m
            try simp only [List.getElem_toArray, List.getElem_cons_succ, List.getElem_cons_zero, Act.put, List.setIfInBounds_toArray, List.set_cons_zero, List.set_cons_succ]
            refine wpAnyM_one (i := 36) rfl (by kernel_rfl) rfl (fun K hK => ?_)
            go_simp
            refine (rangeX 3 5 (by decide) (by decide) (by decide) _ hSS).mono ?_
            rintro e w5 ⟨⟨r12, rfl⟩, m, g⟩
            have Z2 := Lib.hid (Z.out.next m g)
            clear Z
            have Z := Z2
            clear Z2
            refine hK _ _ (fun _ => m) ?_
            clear hK K hSS g
            have hSS := m
            clear m
            try simp only [List.getElem_toArray, List.getElem_cons_succ, List.getElem_cons_zero, Act.put, List.setIfInBounds_toArray, List.set_cons_zero, List.set_cons_succ]
            refine wpAnyM_take (i := 37) (v := ?_) rfl (by kernel_rfl) (fun _ _ _ h => h) (Or.inl ⟨by rfl, ?_⟩) hSS ?_
            rotate_left 1
            · intro wS hwS
              go_simp
              try with_reducible rfl
            simp only [List.getElem_toArray, List.getElem_cons_succ, List.getElem_cons_zero, Act.put, List.setIfInBounds_toArray, List.set_cons_zero, List.set_cons_succ]
            refine wpAnyM_one (i := 39) rfl (by kernel_rfl) rfl (fun K hK => ?_)
            refine st_wp 6 47 (t := ⟨x0, r1, r2, r3, r4, r5, x6, r7, r8, x9, r10, r11, r12, false, false, 0, 0, 0, 0, 0, 0, 0⟩) rfl rfl Z.out.x ?_
            refine hK _ _ (fun h => absurd h (by decide)) ?_
            clear hK K
            try simp only [List.getElem_toArray, List.getElem_cons_succ, List.getElem_cons_zero, Act.put, List.setIfInBounds_toArray, List.set_cons_zero, List.set_cons_succ]
            refine wpAnyM_done (by kernel_rfl) ?_ _
            go_wp2
            go_meet
            exact ⟨_, ⟨x0, r1, r2, r3, r4, r5, x6, r7, r8, x9, r10, r11, r12, false, false, 0, 0, 0, 0, 0, 0, 0⟩, rfl, Lib.hid (Z.out.row _)⟩
        · refine al_wp ?_
          intro w5 P hP X q
          have Z := Lib.hid (Mz.new hSS q hP X)
          refine hK _ _ (fun _ => hSS.new q) ?_
          have m := hSS.new q
          clear hK K hSS X hP q
          have hSS := m
          clear m
          try simp only [List.getElem_toArray, List.getElem_cons_succ, List.getElem_cons_zero, Act.put, List.setIfInBounds_toArray, List.set_cons_zero, List.set_cons_succ]
          refine wpAnyM_one (i := 10) rfl (by kernel_rfl) rfl (fun K hK => ?_)
          go_simp
          refine (rangeX 90 91 (by decide) (by decide) (by decide) _ hSS).mono ?_
          rintro e w5 ⟨⟨r2, rfl⟩, m, g⟩
          have Z2 := Lib.hid (Z.out.next m g)
          clear Z
          have Z := Z2
          clear Z2
          refine hK _ _ (fun _ => m) ?_
          clear hK K hSS g
          have hSS := m
          clear m
          try simp only [List.getElem_toArray, List.getElem_cons_succ, List.getElem_cons_zero, Act.put, List.setIfInBounds_toArray, List.set_cons_zero, List.set_cons_succ]
          refine wpAnyM_one (i := 12) rfl (by kernel_rfl) rfl (fun K hK => ?_)
          go_simp
          refine (rangeX 20 21 (by decide) (by decide) (by decide) _ hSS).mono ?_
          rintro e w5 ⟨⟨r3, rfl⟩, m, g⟩
          have Z2 := Lib.hid (Z.out.next m g)
          clear Z
          have Z := Z2
          clear Z2
          refine hK _ _ (fun _ => m) ?_
          clear hK K hSS g
          have hSS := m
          clear m
          try simp only [List.getElem_toArray, List.getElem_cons_succ, List.getElem_cons_zero, Act.put, List.setIfInBounds_toArray, List.set_cons_zero, List.set_cons_succ]
          refine wpAnyM_one (i := 14) rfl (by kernel_rfl) rfl (fun K hK => ?_)
          go_simp
          refine (rangeX 94 95 (by decide) (by decide) (by decide) _ hSS).mono ?_
          rintro e w5 ⟨⟨r4, rfl⟩, m, g⟩
          have Z2 := Lib.hid (Z.out.next m g)
          clear Z
          have Z := Z2
          clear Z2
          refine hK _ _ (fun _ => m) ?_
          clear hK K hSS g
          have hSS := m
          clear m
          try simp only [List.getElem_toArray, List.getElem_cons_succ, List.getElem_cons_zero, Act.put, List.setIfInBounds_toArray, List.set_cons_zero, List.set_cons_succ]
          refine wpAnyM_one (i := 16) rfl (by kernel_rfl) rfl (fun K hK => ?_)
          go_simp
          refine (rangeX 40 42 (by decide) (by decide) (by decide) _ hSS).mono ?_
          rintro e w5 ⟨⟨r5, rfl⟩, m, g⟩
          have Z2 := Lib.hid (Z.out.next m g)
          clear Z
          have Z := Z2
          clear Z2
          refine hK _ _ (fun _ => m) ?_
          clear hK K hSS g
          have hSS := m
          clear m
          try simp only [List.getElem_toArray, List.getElem_cons_succ, List.getElem_cons_zero, Act.put, List.setIfInBounds_toArray, List.set_cons_zero, List.set_cons_succ]
          refine wpAnyM_one (i := 19) rfl (by kernel_rfl) rfl (fun K hK => ?_)
          go_simp
          refine (nextX 3 (by decide) (by decide) _ hSS).mono ?_
          rintro e w5 ⟨⟨n, rfl, b0, b1⟩, m, g⟩
          obtain ⟨N6, x6, rfl, hN6, hx⟩ := lel_at n b0 b1
          have C6 := Lib.hid (fun wS (q : Mx w B R D1 D2 D3 tv zs wS) => (Mx.x2 q).cell' N6 _ hx)
          have lN6 : (N6 : Int) < 3 := by omega
          clear b0 b1 hx
          have Z2 := Lib.hid (Z.out.next m g)
          clear Z
          have Z := Z2
          clear Z2
          refine hK _ _ (fun _ => m) ?_
          clear hK K hSS g
          have hSS := m
          clear m
          try simp only [List.getElem_toArray, List.getElem_cons_succ, List.getElem_cons_zero, Act.put, List.setIfInBounds_toArray, List.set_cons_zero, List.set_cons_succ]
          refine wpAnyM_take (i := 20) (v := ?_) rfl (by kernel_rfl) (fun _ _ _ h => h) (Or.inl ⟨by rfl, ?_⟩) hSS ?_
          rotate_left 1
          · intro wS hwS
            go_simp
            try with_reducible rfl
          simp only [List.getElem_toArray, List.getElem_cons_succ, List.getElem_cons_zero, Act.put, List.setIfInBounds_toArray, List.set_cons_zero, List.set_cons_succ]
          refine wpAnyM_take (i := 21) (v := ?_) rfl (by kernel_rfl) (fun _ _ _ h => h) (Or.inl ⟨by rfl, ?_⟩) hSS ?_
          rotate_left 1
          · intro wS hwS
            have c := C6.out wS hwS; go_simp
            try with_reducible rfl
          simp only [List.getElem_toArray, List.getElem_cons_succ, List.getElem_cons_zero, Act.put, List.setIfInBounds_toArray, List.set_cons_zero, List.set_cons_succ]
          refine wpAnyM_one (i := 23) rfl (by kernel_rfl) rfl (fun K hK => ?_)
          go_simp
          refine (rangeX 98 99 (by decide) (by decide) (by decide) _ hSS).mono ?_
          rintro e w5 ⟨⟨r7, rfl⟩, m, g⟩
          have Z2 := Lib.hid (Z.out.next m g)
          clear Z
          have Z := Z2
          clear Z2
          refine hK _ _ (fun _ => m) ?_
          clear hK K hSS g
          have hSS := m
          clear m
          try simp only [List.getElem_toArray, List.getElem_cons_succ, List.getElem_cons_zero, Act.put, List.setIfInBounds_toArray, List.set_cons_zero, List.set_cons_succ]
          refine wpAnyM_one (i := 25) rfl (by kernel_rfl) rfl (fun K hK => ?_)
          go_simp
          refine (rangeX 54 59 (by decide) (by decide) (by decide) _ hSS).mono ?_
          rintro e w5 ⟨⟨r8, rfl⟩, m, g⟩
          have Z2 := Lib.hid (Z.out.next m g)
          clear Z
          have Z := Z2
          clear Z2
          refine hK _ _ (fun _ => m) ?_
          clear hK K hSS g
          have hSS := m
          clear m
          try simp only [List.getElem_toArray, List.getElem_cons_succ, List.getElem_cons_zero, Act.put, List.setIfInBounds_toArray, List.set_cons_zero, List.set_cons_succ]
          refine wpAnyM_one (i := 28) rfl (by kernel_rfl) rfl (fun K hK => ?_)
          go_simp
          refine (nextX 2 (by decide) (by decide) _ hSS).mono ?_
          rintro e w5 ⟨⟨n, rfl, b0, b1⟩, m, g⟩
          obtain ⟨N9, x9, rfl, hN9, hx⟩ := pal_at n b0 b1
          have C9 := Lib.hid (fun wS (q : Mx w B R D1 D2 D3 tv zs wS) => (Mx.x3 q).cell' N9 _ hx)
          have lN9 : (N9 : Int) < 2 := by omega
          clear b0 b1 hx
          have Z2 := Lib.hid (Z.out.next m g)
          clear Z
          have Z := Z2
          clear Z2
          refine hK _ _ (fun _ => m) ?_
          clear hK K hSS g
          have hSS := m
          clear m
          try simp only [List.getElem_toArray, List.getElem_cons_succ, List.getElem_cons_zero, Act.put, List.setIfInBounds_toArray, List.set_cons_zero, List.set_cons_succ]
          refine wpAnyM_take (i := 29) (v := ?_) rfl (by kernel_rfl) (fun _ _ _ h => h) (Or.inl ⟨by rfl, ?_⟩) hSS ?_
          rotate_left 1
          · intro wS hwS
            go_simp
            try with_reducible rfl
          simp only [List.getElem_toArray, List.getElem_cons_succ, List.getElem_cons_zero, Act.put, List.setIfInBounds_toArray, List.set_cons_zero, List.set_cons_succ]
          refine wpAnyM_take (i := 30) (v := ?_) rfl (by kernel_rfl) (fun _ _ _ h => h) (Or.inl ⟨by rfl, ?_⟩) hSS ?_
          rotate_left 1
          · intro wS hwS
            have c := C9.out wS hwS; go_simp
            try with_reducible rfl
          simp only [List.getElem_toArray, List.getElem_cons_succ, List.getElem_cons_zero, Act.put, List.setIfInBounds_toArray, List.set_cons_zero, List.set_cons_succ]
          refine wpAnyM_one (i := 32) rfl (by kernel_rfl) rfl (fun K hK => ?_)
          go_simp
          refine (rangeX 15 16 (by decide) (by decide) (by decide) _ hSS).mono ?_
          rintro e w5 ⟨⟨r10, rfl⟩, m, g⟩
          have Z2 := Lib.hid (Z.out.next m g)
          clear Z
          have Z := Z2
          clear Z2
          refine hK _ _ (fun _ => m) ?_
          clear hK K hSS g
          have hSS := m
          clear m
          try simp only [List.getElem_toArray, List.getElem_cons_succ, List.getElem_cons_zero, Act.put, List.setIfInBounds_toArray, List.set_cons_zero, List.set_cons_succ]
          refine wpAnyM_one (i := 34) rfl (by kernel_rfl) rfl (fun K hK => ?_)
          go_simp
          refine (rangeX 68 69 (by decide) (by decide) (by decide) _ hSS).mono ?_
          rintro e w5 ⟨⟨r11, rfl⟩, m, g⟩
          have Z2 := Lib.hid (Z.out.next m g)
          clear Z
          have Z := Z2
          clear Z2
          refine hK _ _ (fun _ => m) ?_
          clear hK K hSS g
          have hSS := m
          clear m
          try simp only [List.getElem_toArray, List.getElem_cons_succ, List.getElem_cons_zero, Act.put, List.setIfInBounds_toArray, List.set_cons_zero, List.set_cons_succ]
          refine wpAnyM_one (i := 36) rfl (by kernel_rfl) rfl (fun K hK => ?_)
          go_simp
          refine (rangeX 3 5 (by decide) (by decide) (by decide) _ hSS).mono ?_
          rintro e w5 ⟨⟨r12, rfl⟩, m, g⟩
          have Z2 := Lib.hid (Z.out.next m g)
          clear Z
          have Z := Z2
          clear Z2
          refine hK _ _ (fun _ => m) ?_
          clear hK K hSS g
          have hSS := m
          clear m
          try simp only [List.getElem_toArray, List.getElem_cons_succ, List.getElem_cons_zero, Act.put, List.setIfInBounds_toArray, List.set_cons_zero, List.set_cons_succ]
          refine wpAnyM_take (i := 37) (v := ?_) rfl (by kernel_rfl) (fun _ _ _ h => h) (Or.inl ⟨by rfl, ?_⟩) hSS ?_
          rotate_left 1
          · intro wS hwS
            go_simp
            try with_reducible rfl
          simp only [List.getElem_toArray, List.getElem_cons_succ, List.getElem_cons_zero, Act.put, List.setIfInBounds_toArray, List.set_cons_zero, List.set_cons_succ]
          refine wpAnyM_one (i := 39) rfl (by kernel_rfl) rfl (fun K hK => ?_)
          refine st_wp 6 47 (t := ⟨x0, r1, r2, r3, r4, r5, x6, r7, r8, x9, r10, r11, r12, false, false, 0, 0, 0, 0, 0, 0, 0⟩) rfl rfl Z.out.x ?_
          refine hK _ _ (fun h => absurd h (by decide)) ?_
          clear hK K
          try simp only [List.getElem_toArray, List.getElem_cons_succ, List.getElem_cons_zero, Act.put, List.setIfInBounds_toArray, List.set_cons_zero, List.set_cons_succ]
          refine wpAnyM_done (by kernel_rfl) ?_ _
          go_wp2
          go_meet
          exact ⟨_, ⟨x0, r1, r2, r3, r4, r5, x6, r7, r8, x9, r10, r11, r12, false, false, 0, 0, 0, 0, 0, 0, 0⟩, rfl, Lib.hid (Z.out.row _)⟩
      · refine al_wp ?_
        intro w5 P hP X q
        have Z := Lib.hid (Mz.new hSS q hP X)
        refine hK _ _ (fun _ => hSS.new q) ?_
        have m := hSS.new q
        clear hK K hSS X hP q
        have hSS := m
        clear m
        try simp only [List.getElem_toArray, List.getElem_cons_succ, List.getElem_cons_zero, Act.put, List.setIfInBounds_toArray, List.set_cons_zero, List.set_cons_succ]
        refine wpAnyM_one (i := 8) rfl (by kernel_rfl) rfl (fun K hK => ?_)
        go_simp
        refine (rangeX 17 19 (by decide) (by decide) (by decide) _ hSS).mono ?_
        rintro e w5 ⟨⟨r1, rfl⟩, m, g⟩
        have Z2 := Lib.hid (Z.out.next m g)
        clear Z
        have Z := Z2
        clear Z2
        refine hK _ _ (fun _ => m) ?_
        clear hK K hSS g
        have hSS := m
        clear m
        try simp only [List.getElem_toArray, List.getElem_cons_succ, List.getElem_cons_zero, Act.put, List.setIfInBounds_toArray, List.set_cons_zero, List.set_cons_succ]
        refine wpAnyM_one (i := 10) rfl (by kernel_rfl) rfl (fun K hK => ?_)
        go_simp
        refine (rangeX 90 91 (by decide) (by decide) (by decide) _ hSS).mono ?_
        rintro e w5 ⟨⟨r2, rfl⟩, m, g⟩
        have Z2 := Lib.hid (Z.out.next m g)
        clear Z
        have Z := Z2
        clear Z2
        refine hK _ _ (fun _ => m) ?_
        clear hK K hSS g
        have hSS := m
        clear m
        try simp only [List.getElem_toArray, List.getElem_cons_succ, List.getElem_cons_zero, Act.put, List.setIfInBounds_toArray, List.set_cons_zero, List.set_cons_succ]
        refine wpAnyM_one (i := 12) rfl (by kernel_rfl) rfl (fun K hK => ?_)
        go_simp
        refine (rangeX 20 21 (by decide) (by decide) (by decide) _ hSS).mono ?_
        rintro e w5 ⟨⟨r3, rfl⟩, m, g⟩
        have Z2 := Lib.hid (Z.out.next m g)
        clear Z
        have Z := Z2
        clear Z2
        refine hK _ _ (fun _ => m) ?_
        clear hK K hSS g
        have hSS := m
        clear m
        try simp only [List.getElem_toArray, List.getElem_cons_succ, List.getElem_cons_zero, Act.put, List.setIfInBounds_toArray, List.set_cons_zero, List.set_cons_succ]
        refine wpAnyM_one (i := 14) rfl (by kernel_rfl) rfl (fun K hK => ?_)
        go_simp
        refine (rangeX 94 95 (by decide) (by decide) (by decide) _ hSS).mono ?_
        rintro e w5 ⟨⟨r4, rfl⟩, m, g⟩
        have Z2 := Lib.hid (Z.out.next m g)
        clear Z
        have Z := Z2
        clear Z2
        refine hK _ _ (fun _ => m) ?_
        clear hK K hSS g
        have hSS := m
        clear m
        try simp only [List.getElem_toArray, List.getElem_cons_succ, List.getElem_cons_zero, Act.put, List.setIfInBounds_toArray, List.set_cons_zero, List.set_cons_succ]
        refine wpAnyM_one (i := 16) rfl (by kernel_rfl) rfl (fun K hK => ?_)
        go_simp
        refine (rangeX 40 42 (by decide) (by decide) (by decide) _ hSS).mono ?_
        rintro e w5 ⟨⟨r5, rfl⟩, m, g⟩
        have Z2 := Lib.hid (Z.out.next m g)
        clear Z
        have Z := Z2
        clear Z2
        refine hK _ _ (fun _ => m) ?_
        clear hK K hSS g
        have hSS := m
        clear m
        try simp only [List.getElem_toArray, List.getElem_cons_succ, List.getElem_cons_zero, Act.put, List.setIfInBounds_toArray, List.set_cons_zero, List.set_cons_succ]
        refine wpAnyM_one (i := 19) rfl (by kernel_rfl) rfl (fun K hK => ?_)
        go_simp
        refine (nextX 3 (by decide) (by decide) _ hSS).mono ?_
        rintro e w5 ⟨⟨n, rfl, b0, b1⟩, m, g⟩
        obtain ⟨N6, x6, rfl, hN6, hx⟩ := lel_at n b0 b1
        have C6 := Lib.hid (fun wS (q : Mx w B R D1 D2 D3 tv zs wS) => (Mx.x2 q).cell' N6 _ hx)
        have lN6 : (N6 : Int) < 3 := by omega
        clear b0 b1 hx
        have Z2 := Lib.hid (Z.out.next m g)
        clear Z
        have Z := Z2
        clear Z2
        refine hK _ _ (fun _ => m) ?_
        clear hK K hSS g
        have hSS := m
        clear m
        try simp only [List.getElem_toArray, List.getElem_cons_succ, List.getElem_cons_zero, Act.put, List.setIfInBounds_toArray, List.set_cons_zero, List.set_cons_succ]
        refine wpAnyM_take (i := 20) (v := ?_) rfl (by kernel_rfl) (fun _ _ _ h => h) (Or.inl ⟨by rfl, ?_⟩) hSS ?_
        rotate_left 1
        · intro wS hwS
          go_simp
          try with_reducible rfl
        simp only [List.getElem_toArray, List.getElem_cons_succ, List.getElem_cons_zero, Act.put, List.setIfInBounds_toArray, List.set_cons_zero, List.set_cons_succ]
        refine wpAnyM_take (i := 21) (v := ?_) rfl (by kernel_rfl) (fun _ _ _ h => h) (Or.inl ⟨by rfl, ?_⟩) hSS ?_
        rotate_left 1
        · intro wS hwS
          have c := C6.out wS hwS; go_simp
          try with_reducible rfl
        simp only [List.getElem_toArray, List.getElem_cons_succ, List.getElem_cons_zero, Act.put, List.setIfInBounds_toArray, List.set_cons_zero, List.set_cons_succ]
        refine wpAnyM_one (i := 23) rfl (by kernel_rfl) rfl (fun K hK => ?_)
        go_simp
        refine (rangeX 98 99 (by decide) (by decide) (by decide) _ hSS).mono ?_
        rintro e w5 ⟨⟨r7, rfl⟩, m, g⟩
        have Z2 := Lib.hid (Z.out.next m g)
        clear Z
        have Z := Z2
        clear Z2
        refine hK _ _ (fun _ => m) ?_
        clear hK K hSS g
        have hSS := m
        clear m
        try simp only [List.getElem_toArray, List.getElem_cons_succ, List.getElem_cons_zero, Act.put, List.setIfInBounds_toArray, List.set_cons_zero, List.set_cons_succ]
        refine wpAnyM_one (i := 25) rfl (by kernel_rfl) rfl (fun K hK => ?_)
        go_simp
        refine (rangeX 54 59 (by decide) (by decide) (by decide) _ hSS).mono ?_
        rintro e w5 ⟨⟨r8, rfl⟩, m, g⟩
        have Z2 := Lib.hid (Z.out.next m g)
        clear Z
        have Z := Z2
        clear Z2
        refine hK _ _ (fun _ => m) ?_
        clear hK K hSS g
        have hSS := m
        clear m
        try simp only [List.getElem_toArray, List.getElem_cons_succ, List.getElem_cons_zero, Act.put, List.setIfInBounds_toArray, List.set_cons_zero, List.set_cons_succ]
        refine wpAnyM_one (i := 28) rfl (by kernel_rfl) rfl (fun K hK => ?_)
        go_simp
        refine (nextX 2 (by decide) (by decide) _ hSS).mono ?_
        rintro e w5 ⟨⟨n, rfl, b0, b1⟩, m, g⟩
        obtain ⟨N9, x9, rfl, hN9, hx⟩ := pal_at n b0 b1
        have C9 := Lib.hid (fun wS (q : Mx w B R D1 D2 D3 tv zs wS) => (Mx.x3 q).cell' N9 _ hx)
        have lN9 : (N9 : Int) < 2 := by omega
        clear b0 b1 hx
        have Z2 := Lib.hid (Z.out.next m g)
        clear Z
        have Z := Z2
        clear Z2
        refine hK _ _ (fun _ => m) ?_
        clear hK K hSS g
        have hSS := m
        clear m
        try simp only [List.getElem_toArray, List.getElem_cons_succ, List.getElem_cons_zero, Act.put, List.setIfInBounds_toArray, List.set_cons_zero, List.set_cons_succ]
        refine wpAnyM_take (i := 29) (v := ?_) rfl (by kernel_rfl) (fun _ _ _ h => h) (Or.inl ⟨by rfl, ?_⟩) hSS ?_
        rotate_left 1
        · intro wS hwS
          go_simp
          try with_reducible rfl
        simp only [List.getElem_toArray, List.getElem_cons_succ, List.getElem_cons_zero, Act.put, List.setIfInBounds_toArray, List.set_cons_zero, List.set_cons_succ]
        refine wpAnyM_take (i := 30) (v := ?_) rfl (by kernel_rfl) (fun _ _ _ h => h) (Or.inl ⟨by rfl, ?_⟩) hSS ?_
        rotate_left 1
        · intro wS hwS
          have c := C9.out wS hwS; go_simp
          try with_reducible rfl
        simp only [List.getElem_toArray, List.getElem_cons_succ, List.getElem_cons_zero, Act.put, List.setIfInBounds_toArray, List.set_cons_zero, List.set_cons_succ]
        refine wpAnyM_one (i := 32) rfl (by kernel_rfl) rfl (fun K hK => ?_)
        go_simp
        refine (rangeX 15 16 (by decide) (by decide) (by decide) _ hSS).mono ?_
        rintro e w5 ⟨⟨r10, rfl⟩, m, g⟩
        have Z2 := Lib.hid (Z.out.next m g)
        clear Z
        have Z := Z2
        clear Z2
        refine hK _ _ (fun _ => m) ?_
        clear hK K hSS g
        have hSS := m
        clear m
        try simp only [List.getElem_toArray, List.getElem_cons_succ, List.getElem_cons_zero, Act.put, List.setIfInBounds_toArray, List.set_cons_zero, List.set_cons_succ]
        refine wpAnyM_one (i := 34) rfl (by kernel_rfl) rfl (fun K hK => ?_)
        go_simp
        refine (rangeX 68 69 (by decide) (by decide) (by decide) _ hSS).mono ?_
        rintro e w5 ⟨⟨r11, rfl⟩, m, g⟩
        have Z2 := Lib.hid (Z.out.next m g)
        clear Z
        have Z := Z2
        clear Z2
        refine hK _ _ (fun _ => m) ?_
        clear hK K hSS g
        have hSS := m
        clear m
        try simp only [List.getElem_toArray, List.getElem_cons_succ, List.getElem_cons_zero, Act.put, List.setIfInBounds_toArray, List.set_cons_zero, List.set_cons_succ]
        refine wpAnyM_one (i := 36) rfl (by kernel_rfl) rfl (fun K hK => ?_)
        go_simp
        refine (rangeX 3 5 (by decide) (by decide) (by decide) _ hSS).mono ?_
        rintro e w5 ⟨⟨r12, rfl⟩, m, g⟩
        have Z2 := Lib.hid (Z.out.next m g)
        clear Z
        have Z := Z2
        clear Z2
        refine hK _ _ (fun _ => m) ?_
        clear hK K hSS g
        have hSS := m
        clear m
        try simp only [List.getElem_toArray, List.getElem_cons_succ, List.getElem_cons_zero, Act.put, List.setIfInBounds_toArray, List.set_cons_zero, List.set_cons_succ]
        refine wpAnyM_take (i := 37) (v := ?_) rfl (by kernel_rfl) (fun _ _ _ h => h) (Or.inl ⟨by rfl, ?_⟩) hSS ?_
        rotate_left 1
        · intro wS hwS
          go_simp
          try with_reducible rfl
        simp only [List.getElem_toArray, List.getElem_cons_succ, List.getElem_cons_zero, Act.put, List.setIfInBounds_toArray, List.set_cons_zero, List.set_cons_succ]
        refine wpAnyM_one (i := 39) rfl (by kernel_rfl) rfl (fun K hK => ?_)
        refine st_wp 6 47 (t := ⟨x0, r1, r2, r3, r4, r5, x6, r7, r8, x9, r10, r11, r12, false, false, 0, 0, 0, 0, 0, 0, 0⟩) rfl rfl Z.out.x ?_
        refine hK _ _ (fun h => absurd h (by decide)) ?_
        clear hK K
        try simp only [List.getElem_toArray, List.getElem_cons_succ, List.getElem_cons_zero, Act.put, List.setIfInBounds_toArray, List.set_cons_zero, List.set_cons_succ]
        refine wpAnyM_done (by kernel_rfl) ?_ _
        go_wp2
        go_meet
        exact ⟨_, ⟨x0, r1, r2, r3, r4, r5, x6, r7, r8, x9, r10, r11, r12, false, false, 0, 0, 0, 0, 0, 0, 0⟩, rfl, Lib.hid (Z.out.row _)⟩
    · refine al_wp ?_
      intro w5 P hP X q
      have Z := Lib.hid (Mz.new hSS q hP X)
      refine hK _ _ (fun _ => hSS.new q) ?_
      have m := hSS.new q
      clear hK K hSS X hP q
      have hSS := m
      clear m
      try simp only [List.getElem_toArray, List.getElem_cons_succ, List.getElem_cons_zero, Act.put, List.setIfInBounds_toArray, List.set_cons_zero, List.set_cons_succ]
      refine wpAnyM_one (i := 4) rfl (by kernel_rfl) rfl (fun K hK => ?_)
      go_simp
      refine (nextX 15 (by decide) (by decide) _ hSS).mono ?_
      rintro e w5 ⟨⟨n, rfl, b0, b1⟩, m, g⟩
      obtain ⟨N0, x0, rfl, hN0, hx⟩ := mol_at n b0 b1
      have C0 := Lib.hid (fun wS (q : Mx w B R D1 D2 D3 tv zs wS) => (Mx.x1 q).cell' N0 _ hx)
      have lN0 : (N0 : Int) < 15 := by omega
      clear b0 b1 hx
      have Z2 := Lib.hid (Z.out.next m g)
      clear Z
      have Z := Z2
      clear Z2
      refine hK _ _ (fun _ => m) ?_
      clear hK K hSS g
      have hSS := m
      clear m
      try simp only [List.getElem_toArray, List.getElem_cons_succ, List.getElem_cons_zero, Act.put, List.setIfInBounds_toArray, List.set_cons_zero, List.set_cons_succ]
      refine wpAnyM_take (i := 5) (v := ?_) rfl (by kernel_rfl) (fun _ _ _ h => h) (Or.inl ⟨by rfl, ?_⟩) hSS ?_
      rotate_left 1
      · intro wS hwS
        go_simp
        try with_reducible rfl
      simp only [List.getElem_toArray, List.getElem_cons_succ, List.getElem_cons_zero, Act.put, List.setIfInBounds_toArray, List.set_cons_zero, List.set_cons_succ]
      refine wpAnyM_take (i := 6) (v := ?_) rfl (by kernel_rfl) (fun _ _ _ h => h) (Or.inl ⟨by rfl, ?_⟩) hSS ?_
      rotate_left 1
      · intro wS hwS
        have c := C0.out wS hwS; go_simp
        try with_reducible rfl
      simp only [List.getElem_toArray, List.getElem_cons_succ, List.getElem_cons_zero, Act.put, List.setIfInBounds_toArray, List.set_cons_zero, List.set_cons_succ]
      refine wpAnyM_one (i := 8) rfl (by kernel_rfl) rfl (fun K hK => ?_)
      go_simp
      refine (rangeX 17 19 (by decide) (by decide) (by decide) _ hSS).mono ?_
      rintro e w5 ⟨⟨r1, rfl⟩, m, g⟩
      have Z2 := Lib.hid (Z.out.next m g)
      clear Z
      have Z := Z2
      clear Z2
      refine hK _ _ (fun _ => m) ?_
      clear hK K hSS g
      have hSS := m
      clear m
      try simp only [List.getElem_toArray, List.getElem_cons_succ, List.getElem_cons_zero, Act.put, List.setIfInBounds_toArray, List.set_cons_zero, List.set_cons_succ]
      refine wpAnyM_one (i := 10) rfl (by kernel_rfl) rfl (fun K hK => ?_)
      go_simp
      refine (rangeX 90 91 (by decide) (by decide) (by decide) _ hSS).mono ?_
      rintro e w5 ⟨⟨r2, rfl⟩, m, g⟩
      have Z2 := Lib.hid (Z.out.next m g)
      clear Z
      have Z := Z2
      clear Z2
      refine hK _ _ (fun _ => m) ?_
      clear hK K hSS g
      have hSS := m
      clear m
      try simp only [List.getElem_toArray, List.getElem_cons_succ, List.getElem_cons_zero, Act.put, List.setIfInBounds_toArray, List.set_cons_zero, List.set_cons_succ]
      refine wpAnyM_one (i := 12) rfl (by kernel_rfl) rfl (fun K hK => ?_)
      go_simp
      refine (rangeX 20 21 (by decide) (by decide) (by decide) _ hSS).mono ?_
      rintro e w5 ⟨⟨r3, rfl⟩, m, g⟩
      have Z2 := Lib.hid (Z.out.next m g)
      clear Z
      have Z := Z2
      clear Z2
      refine hK _ _ (fun _ => m) ?_
      clear hK K hSS g
      have hSS := m
      clear m
      try simp only [List.getElem_toArray, List.getElem_cons_succ, List.getElem_cons_zero, Act.put, List.setIfInBounds_toArray, List.set_cons_zero, List.set_cons_succ]
      refine wpAnyM_one (i := 14) rfl (by kernel_rfl) rfl (fun K hK => ?_)
      go_simp
      refine (rangeX 94 95 (by decide) (by decide) (by decide) _ hSS).mono ?_
      rintro e w5 ⟨⟨r4, rfl⟩, m, g⟩
      have Z2 := Lib.hid (Z.out.next m g)
      clear Z
      have Z := Z2
      clear Z2
      refine hK _ _ (fun _ => m) ?_
      clear hK K hSS g
      have hSS := m
      clear m
      try simp only [List.getElem_toArray, List.getElem_cons_succ, List.getElem_cons_zero, Act.put, List.setIfInBounds_toArray, List.set_cons_zero, List.set_cons_succ]
      refine wpAnyM_one (i := 16) rfl (by kernel_rfl) rfl (fun K hK => ?_)
      go_simp
      refine (rangeX 40 42 (by decide) (by decide) (by decide) _ hSS).mono ?_
      rintro e w5 ⟨⟨r5, rfl⟩, m, g⟩
      have Z2 := Lib.hid (Z.out.next m g)
      clear Z
      have Z := Z2
      clear Z2
      refine hK _ _ (fun _ => m) ?_
      clear hK K hSS g
      have hSS := m
      clear m
      try simp only [List.getElem_toArray, List.getElem_cons_succ, List.getElem_cons_zero, Act.put, List.setIfInBounds_toArray, List.set_cons_zero, List.set_cons_succ]
      refine wpAnyM_one (i := 19) rfl (by kernel_rfl) rfl (fun K hK => ?_)
      go_simp
      refine (nextX 3 (by decide) (by decide) _ hSS).mono ?_
      rintro e w5 ⟨⟨n, rfl, b0, b1⟩, m, g⟩
      obtain ⟨N6, x6, rfl, hN6, hx⟩ := lel_at n b0 b1
      have C6 := Lib.hid (fun wS (q : Mx w B R D1 D2 D3 tv zs wS) => (Mx.x2 q).cell' N6 _ hx)
      have lN6 : (N6 : Int) < 3 := by omega
      clear b0 b1 hx
      have Z2 := Lib.hid (Z.out.next m g)
      clear Z
      have Z := Z2
      clear Z2
      refine hK _ _ (fun _ => m) ?_
      clear hK K hSS g
      have hSS := m
      clear m
      try simp only [List.getElem_toArray, List.getElem_cons_succ, List.getElem_cons_zero, Act.put, List.setIfInBounds_toArray, List.set_cons_zero, List.set_cons_succ]
      refine wpAnyM_take (i := 20) (v := ?_) rfl (by kernel_rfl) (fun _ _ _ h => h) (Or.inl ⟨by rfl, ?_⟩) hSS ?_
      rotate_left 1
      · intro wS hwS
        go_simp
        try with_reducible rfl
      simp only [List.getElem_toArray, List.getElem_cons_succ, List.getElem_cons_zero, Act.put, List.setIfInBounds_toArray, List.set_cons_zero, List.set_cons_succ]
      refine wpAnyM_take (i := 21) (v := ?_) rfl (by kernel_rfl) (fun _ _ _ h => h) (Or.inl ⟨by rfl, ?_⟩) hSS ?_
      rotate_left 1
      · intro wS hwS
        have c := C6.out wS hwS; go_simp
        try with_reducible rfl
      simp only [List.getElem_toArray, List.getElem_cons_succ, List.getElem_cons_zero, Act.put, List.setIfInBounds_toArray, List.set_cons_zero, List.set_cons_succ]
      refine wpAnyM_one (i := 23) rfl (by kernel_rfl) rfl (fun K hK => ?_)
      go_simp
      refine (rangeX 98 99 (by decide) (by decide) (by decide) _ hSS).mono ?_
      rintro e w5 ⟨⟨r7, rfl⟩, m, g⟩
      have Z2 := Lib.hid (Z.out.next m g)
      clear Z
      have Z := Z2
      clear Z2
      refine hK _ _ (fun _ => m) ?_
      clear hK K hSS g
      have hSS := m
      clear m
      try simp only [List.getElem_toArray, List.getElem_cons_succ, List.getElem_cons_zero, Act.put, List.setIfInBounds_toArray, List.set_cons_zero, List.set_cons_succ]
      refine wpAnyM_one (i := 25) rfl (by kernel_rfl) rfl (fun K hK => ?_)
      go_simp
      refine (rangeX 54 59 (by decide) (by decide) (by decide) _ hSS).mono ?_
      rintro e w5 ⟨⟨r8, rfl⟩, m, g⟩
      have Z2 := Lib.hid (Z.out.next m g)
      clear Z
      have Z := Z2
      clear Z2
      refine hK _ _ (fun _ => m) ?_
      clear hK K hSS g
      have hSS := m
      clear m
      try simp only [List.getElem_toArray, List.getElem_cons_succ, List.getElem_cons_zero, Act.put, List.setIfInBounds_toArray, List.set_cons_zero, List.set_cons_succ]
      refine wpAnyM_one (i := 28) rfl (by kernel_rfl) rfl (fun K hK => ?_)
      go_simp
      refine (nextX 2 (by decide) (by decide) _ hSS).mono ?_
      rintro e w5 ⟨⟨n, rfl, b0, b1⟩, m, g⟩
      obtain ⟨N9, x9, rfl, hN9, hx⟩ := pal_at n b0 b1
      have C9 := Lib.hid (fun wS (q : Mx w B R D1 D2 D3 tv zs wS) => (Mx.x3 q).cell' N9 _ hx)
      have lN9 : (N9 : Int) < 2 := by omega
      clear b0 b1 hx
      have Z2 := Lib.hid (Z.out.next m g)
      clear Z
      have Z := Z2
      clear Z2
      refine hK _ _ (fun _ => m) ?_
      clear hK K hSS g
      have hSS := m
      clear m
      try simp only [List.getElem_toArray, List.getElem_cons_succ, List.getElem_cons_zero, Act.put, List.setIfInBounds_toArray, List.set_cons_zero, List.set_cons_succ]
      refine wpAnyM_take (i := 29) (v := ?_) rfl (by kernel_rfl) (fun _ _ _ h => h) (Or.inl ⟨by rfl, ?_⟩) hSS ?_
      rotate_left 1
      · intro wS hwS
        go_simp
        try with_reducible rfl
      simp only [List.getElem_toArray, List.getElem_cons_succ, List.getElem_cons_zero, Act.put, List.setIfInBounds_toArray, List.set_cons_zero, List.set_cons_succ]
      refine wpAnyM_take (i := 30) (v := ?_) rfl (by kernel_rfl) (fun _ _ _ h => h) (Or.inl ⟨by rfl, ?_⟩) hSS ?_
      rotate_left 1
      · intro wS hwS
        have c := C9.out wS hwS; go_simp
        try with_reducible rfl
      simp only [List.getElem_toArray, List.getElem_cons_succ, List.getElem_cons_zero, Act.put, List.setIfInBounds_toArray, List.set_cons_zero, List.set_cons_succ]
      refine wpAnyM_one (i := 32) rfl (by kernel_rfl) rfl (fun K hK => ?_)
      go_simp
      refine (rangeX 15 16 (by decide) (by decide) (by decide) _ hSS).mono ?_
      rintro e w5 ⟨⟨r10, rfl⟩, m, g⟩
      have Z2 := Lib.hid (Z.out.next m g)
      clear Z
      have Z := Z2
      clear Z2
      refine hK _ _ (fun _ => m) ?_
      clear hK K hSS g
      have hSS := m
      clear m
      try simp only [List.getElem_toArray, List.getElem_cons_succ, List.getElem_cons_zero, Act.put, List.setIfInBounds_toArray, List.set_cons_zero, List.set_cons_succ]
      refine wpAnyM_one (i := 34) rfl (by kernel_rfl) rfl (fun K hK => ?_)
      go_simp
      refine (rangeX 68 69 (by decide) (by decide) (by decide) _ hSS).mono ?_
      rintro e w5 ⟨⟨r11, rfl⟩, m, g⟩
      have Z2 := Lib.hid (Z.out.next m g)
      clear Z
      have Z := Z2
      clear Z2
      refine hK _ _ (fun _ => m) ?_
      clear hK K hSS g
      have hSS := m
      clear m
      try simp only [List.getElem_toArray, List.getElem_cons_succ, List.getElem_cons_zero, Act.put, List.setIfInBounds_toArray, List.set_cons_zero, List.set_cons_succ]
      refine wpAnyM_one (i := 36) rfl (by kernel_rfl) rfl (fun K hK => ?_)
      go_simp
      refine (rangeX 3 5 (by decide) (by decide) (by decide) _ hSS).mono ?_
      rintro e w5 ⟨⟨r12, rfl⟩, m, g⟩
      have Z2 := Lib.hid (Z.out.next m g)
      clear Z
      have Z := Z2
      clear Z2
      refine hK _ _ (fun _ => m) ?_
      clear hK K hSS g
      have hSS := m
      clear m
      try simp only [List.getElem_toArray, List.getElem_cons_succ, List.getElem_cons_zero, Act.put, List.setIfInBounds_toArray, List.set_cons_zero, List.set_cons_succ]
      refine wpAnyM_take (i := 37) (v := ?_) rfl (by kernel_rfl) (fun _ _ _ h => h) (Or.inl ⟨by rfl, ?_⟩) hSS ?_
      rotate_left 1
      · intro wS hwS
        go_simp
        try with_reducible rfl
      simp only [List.getElem_toArray, List.getElem_cons_succ, List.getElem_cons_zero, Act.put, List.setIfInBounds_toArray, List.set_cons_zero, List.set_cons_succ]
      refine wpAnyM_one (i := 39) rfl (by kernel_rfl) rfl (fun K hK => ?_)
      refine st_wp 6 47 (t := ⟨x0, r1, r2, r3, r4, r5, x6, r7, r8, x9, r10, r11, r12, false, false, 0, 0, 0, 0, 0, 0, 0⟩) rfl rfl Z.out.x ?_
      refine hK _ _ (fun h => absurd h (by decide)) ?_
      clear hK K
      try simp only [List.getElem_toArray, List.getElem_cons_succ, List.getElem_cons_zero, Act.put, List.setIfInBounds_toArray, List.set_cons_zero, List.set_cons_succ]
      refine wpAnyM_done (by kernel_rfl) ?_ _
      go_wp2
      go_meet
      exact ⟨_, ⟨x0, r1, r2, r3, r4, r5, x6, r7, r8, x9, r10, r11, r12, false, false, 0, 0, 0, 0, 0, 0, 0⟩, rfl, Lib.hid (Z.out.row _)⟩
  case rest =>
    clear HM
    obtain ⟨P, s, rfl, Z⟩ := hcut
    by_cases h64 : s.pa = 64
    · have z : (s.pa == 64) = true := by simpa using h64
      clear h64
      go_wp2_with (first | (go_at_call 35; (first | ((with_reducible refine (nextX 2 (by decide) (by decide) _ (Z.out).m).mono ?_); rintro e w11 ⟨⟨n1, rfl, _, _⟩, m, g⟩; have Z1 := Lib.hid ((Z.out).next m g); clear m g) | ((with_reducible refine (nextX 2 (by decide) (by decide) _ (Z1.out).m).mono ?_); rintro e w12 ⟨⟨n2, rfl, _, _⟩, m, g⟩; have Z2 := Lib.hid ((Z1.out).next m g); clear m g) | ((with_reducible refine (nextX 100000 (by decide) (by decide) _ (Z2.out).m).mono ?_); rintro e w13 ⟨⟨n3, rfl, _, _⟩, m, g⟩; have Z3 := Lib.hid ((Z2.out).next m g); clear m g) | ((with_reducible refine (nextX 9000 (by decide) (by decide) _ (Z3.out).m).mono ?_); rintro e w14 ⟨⟨n4, rfl, _, _⟩, m, g⟩; have Z4 := Lib.hid ((Z3.out).next m g); clear m g; have c13 := Z4.out.x.cell' 13 (.bool s.mi) rfl; have f13 := Z4.out.x.free 13; have c14 := Z4.out.x.cell' 14 (.bool s.fl) rfl; have f14 := Z4.out.x.free 14; have c16 := Z4.out.x.cell' 16 (.int .i64 s.fd) rfl; have f16 := Z4.out.x.free 16; have c17 := Z4.out.x.cell' 17 (.int .i64 s.se) rfl; have f17 := Z4.out.x.free 17) | ((with_reducible refine (nextX 5 (by decide) (by decide) _ (((((Z4.out.set 13 (.bool (n1 == 0)) { s with mi := n1 == 0 } rfl).set 14 (.bool (n2 == 0)) { s with mi := n1 == 0, fl := n2 == 0 } rfl).set 16 (.int .i64 n3) { s with mi := n1 == 0, fl := n2 == 0, fd := n3 } rfl).set 17 (.int .i64 n4) { s with mi := n1 == 0, fl := n2 == 0, fd := n3, se := n4 } rfl)).m).mono ?_); rintro e w15 ⟨⟨n5, rfl, _, _⟩, m, g⟩; have Z5 := Lib.hid ((((((Z4.out.set 13 (.bool (n1 == 0)) { s with mi := n1 == 0 } rfl).set 14 (.bool (n2 == 0)) { s with mi := n1 == 0, fl := n2 == 0 } rfl).set 16 (.int .i64 n3) { s with mi := n1 == 0, fl := n2 == 0, fd := n3 } rfl).set 17 (.int .i64 n4) { s with mi := n1 == 0, fl := n2 == 0, fd := n3, se := n4 } rfl)).next m g); clear m g) | ((with_reducible refine (nextX 5 (by decide) (by decide) _ (Z5.out).m).mono ?_); rintro e w16 ⟨⟨n6, rfl, _, _⟩, m, g⟩; have Z6 := Lib.hid ((Z5.out).next m g); clear m g) | ((with_reducible refine (nextX 4 (by decide) (by decide) _ (Z6.out).m).mono ?_); rintro e w17 ⟨⟨n7, rfl, _, _⟩, m, g⟩; have Z7 := Lib.hid ((Z6.out).next m g); clear m g) | ((with_reducible refine (nextX 4 (by decide) (by decide) _ (Z7.out).m).mono ?_); rintro e w18 ⟨⟨n8, rfl, _, _⟩, m, g⟩; have Z8 := Lib.hid ((Z7.out).next m g); clear m g; have c18 := Z8.out.x.cell' 18 (.int .i64 s.tl) rfl; have f18 := Z8.out.x.free 18; have c19 := Z8.out.x.cell' 19 (.int .i64 s.lo) rfl; have f19 := Z8.out.x.free 19; have c20 := Z8.out.x.cell' 20 (.int .i64 s.h) rfl; have f20 := Z8.out.x.free 20; have c21 := Z8.out.x.cell' 21 (.int .i64 s.d) rfl; have f21 := Z8.out.x.free 21; have c9 := Z8.out.x.cell' 9 (.int .i64 s.pa) rfl) | ((with_reducible refine (nextX 1001 (by decide) (by decide) _ (((((Z8.out.set 18 (.int .i64 n5) { s with mi := n1 == 0, fl := n2 == 0, fd := n3, se := n4, tl := n5 } rfl).set 19 (.int .i64 n6) { s with mi := n1 == 0, fl := n2 == 0, fd := n3, se := n4, tl := n5, lo := n6 } rfl).set 20 (.int .i64 n7) { s with mi := n1 == 0, fl := n2 == 0, fd := n3, se := n4, tl := n5, lo := n6, h := n7 } rfl).set 21 (.int .i64 n8) { s with mi := n1 == 0, fl := n2 == 0, fd := n3, se := n4, tl := n5, lo := n6, h := n7, d := n8 } rfl)).m).mono ?_); rintro e w19 ⟨⟨n9, rfl, _, _⟩, m, g⟩; have Z9 := Lib.hid ((((((Z8.out.set 18 (.int .i64 n5) { s with mi := n1 == 0, fl := n2 == 0, fd := n3, se := n4, tl := n5 } rfl).set 19 (.int .i64 n6) { s with mi := n1 == 0, fl := n2 == 0, fd := n3, se := n4, tl := n5, lo := n6 } rfl).set 20 (.int .i64 n7) { s with mi := n1 == 0, fl := n2 == 0, fd := n3, se := n4, tl := n5, lo := n6, h := n7 } rfl).set 21 (.int .i64 n8) { s with mi := n1 == 0, fl := n2 == 0, fd := n3, se := n4, tl := n5, lo := n6, h := n7, d := n8 } rfl)).next m g); clear m g; have c15 := Z9.out.x.cell' 15 (.int .i64 s.bl) rfl; have f15 := Z9.out.x.free 15))) | (refine ld_md 6 rfl ((Z9.out.set 15 (.int .i64 n9) { s with mi := n1 == 0, fl := n2 == 0, fd := n3, se := n4, tl := n5, lo := n6, h := n7, d := n8, bl := n9 } rfl)).x ?_) | (refine st_md 2 80 rfl rfl ((Z9.out.set 15 (.int .i64 n9) { s with mi := n1 == 0, fl := n2 == 0, fd := n3, se := n4, tl := n5, lo := n6, h := n7, d := n8, bl := n9 } rfl)).m.xr ?_))
      exact bodyPost_ret (ret_m1 2 Try.results32 rfl ((Z9.out.set 15 (.int .i64 n9) { s with mi := n1 == 0, fl := n2 == 0, fd := n3, se := n4, tl := n5, lo := n6, h := n7, d := n8, bl := n9 } rfl)).m.xr.srS) rfl ⟨⟨{ s with mi := n1 == 0, fl := n2 == 0, fd := n3, se := n4, tl := n5, lo := n6, h := n7, d := n8, bl := n9 }, rfl⟩, grownRow ((Z9.out.set 15 (.int .i64 n9) { s with mi := n1 == 0, fl := n2 == 0, fd := n3, se := n4, tl := n5, lo := n6, h := n7, d := n8, bl := n9 } rfl)).m.gr hp _⟩
    · have z : (s.pa == 64) = false := beq_eq_false_iff_ne.2 h64
      clear h64
      go_wp2_with (first | (go_at_call 35; (first | ((with_reducible refine (nextX 2 (by decide) (by decide) _ (Z.out).m).mono ?_); rintro e w11 ⟨⟨n1, rfl, _, _⟩, m, g⟩; have Z1 := Lib.hid ((Z.out).next m g); clear m g) | ((with_reducible refine (nextX 2 (by decide) (by decide) _ (Z1.out).m).mono ?_); rintro e w12 ⟨⟨n2, rfl, _, _⟩, m, g⟩; have Z2 := Lib.hid ((Z1.out).next m g); clear m g) | ((with_reducible refine (nextX 100000 (by decide) (by decide) _ (Z2.out).m).mono ?_); rintro e w13 ⟨⟨n3, rfl, _, _⟩, m, g⟩; have Z3 := Lib.hid ((Z2.out).next m g); clear m g) | ((with_reducible refine (nextX 9000 (by decide) (by decide) _ (Z3.out).m).mono ?_); rintro e w14 ⟨⟨n4, rfl, _, _⟩, m, g⟩; have Z4 := Lib.hid ((Z3.out).next m g); clear m g; have c13 := Z4.out.x.cell' 13 (.bool s.mi) rfl; have f13 := Z4.out.x.free 13; have c14 := Z4.out.x.cell' 14 (.bool s.fl) rfl; have f14 := Z4.out.x.free 14; have c16 := Z4.out.x.cell' 16 (.int .i64 s.fd) rfl; have f16 := Z4.out.x.free 16; have c17 := Z4.out.x.cell' 17 (.int .i64 s.se) rfl; have f17 := Z4.out.x.free 17) | ((with_reducible refine (nextX 5 (by decide) (by decide) _ (((((Z4.out.set 13 (.bool (n1 == 0)) { s with mi := n1 == 0 } rfl).set 14 (.bool (n2 == 0)) { s with mi := n1 == 0, fl := n2 == 0 } rfl).set 16 (.int .i64 n3) { s with mi := n1 == 0, fl := n2 == 0, fd := n3 } rfl).set 17 (.int .i64 n4) { s with mi := n1 == 0, fl := n2 == 0, fd := n3, se := n4 } rfl)).m).mono ?_); rintro e w15 ⟨⟨n5, rfl, _, _⟩, m, g⟩; have Z5 := Lib.hid ((((((Z4.out.set 13 (.bool (n1 == 0)) { s with mi := n1 == 0 } rfl).set 14 (.bool (n2 == 0)) { s with mi := n1 == 0, fl := n2 == 0 } rfl).set 16 (.int .i64 n3) { s with mi := n1 == 0, fl := n2 == 0, fd := n3 } rfl).set 17 (.int .i64 n4) { s with mi := n1 == 0, fl := n2 == 0, fd := n3, se := n4 } rfl)).next m g); clear m g) | ((with_reducible refine (nextX 5 (by decide) (by decide) _ (Z5.out).m).mono ?_); rintro e w16 ⟨⟨n6, rfl, _, _⟩, m, g⟩; have Z6 := Lib.hid ((Z5.out).next m g); clear m g) | ((with_reducible refine (nextX 4 (by decide) (by decide) _ (Z6.out).m).mono ?_); rintro e w17 ⟨⟨n7, rfl, _, _⟩, m, g⟩; have Z7 := Lib.hid ((Z6.out).next m g); clear m g) | ((with_reducible refine (nextX 4 (by decide) (by decide) _ (Z7.out).m).mono ?_); rintro e w18 ⟨⟨n8, rfl, _, _⟩, m, g⟩; have Z8 := Lib.hid ((Z7.out).next m g); clear m g; have c18 := Z8.out.x.cell' 18 (.int .i64 s.tl) rfl; have f18 := Z8.out.x.free 18; have c19 := Z8.out.x.cell' 19 (.int .i64 s.lo) rfl; have f19 := Z8.out.x.free 19; have c20 := Z8.out.x.cell' 20 (.int .i64 s.h) rfl; have f20 := Z8.out.x.free 20; have c21 := Z8.out.x.cell' 21 (.int .i64 s.d) rfl; have f21 := Z8.out.x.free 21; have c9 := Z8.out.x.cell' 9 (.int .i64 s.pa) rfl))) | (refine ld_md 6 rfl (((((Z8.out.set 18 (.int .i64 n5) { s with mi := n1 == 0, fl := n2 == 0, fd := n3, se := n4, tl := n5 } rfl).set 19 (.int .i64 n6) { s with mi := n1 == 0, fl := n2 == 0, fd := n3, se := n4, tl := n5, lo := n6 } rfl).set 20 (.int .i64 n7) { s with mi := n1 == 0, fl := n2 == 0, fd := n3, se := n4, tl := n5, lo := n6, h := n7 } rfl).set 21 (.int .i64 n8) { s with mi := n1 == 0, fl := n2 == 0, fd := n3, se := n4, tl := n5, lo := n6, h := n7, d := n8 } rfl)).x ?_) | (refine st_md 2 80 rfl rfl (((((Z8.out.set 18 (.int .i64 n5) { s with mi := n1 == 0, fl := n2 == 0, fd := n3, se := n4, tl := n5 } rfl).set 19 (.int .i64 n6) { s with mi := n1 == 0, fl := n2 == 0, fd := n3, se := n4, tl := n5, lo := n6 } rfl).set 20 (.int .i64 n7) { s with mi := n1 == 0, fl := n2 == 0, fd := n3, se := n4, tl := n5, lo := n6, h := n7 } rfl).set 21 (.int .i64 n8) { s with mi := n1 == 0, fl := n2 == 0, fd := n3, se := n4, tl := n5, lo := n6, h := n7, d := n8 } rfl)).m.xr ?_))
      exact bodyPost_ret (ret_m1 2 Try.results32 rfl (((((Z8.out.set 18 (.int .i64 n5) { s with mi := n1 == 0, fl := n2 == 0, fd := n3, se := n4, tl := n5 } rfl).set 19 (.int .i64 n6) { s with mi := n1 == 0, fl := n2 == 0, fd := n3, se := n4, tl := n5, lo := n6 } rfl).set 20 (.int .i64 n7) { s with mi := n1 == 0, fl := n2 == 0, fd := n3, se := n4, tl := n5, lo := n6, h := n7 } rfl).set 21 (.int .i64 n8) { s with mi := n1 == 0, fl := n2 == 0, fd := n3, se := n4, tl := n5, lo := n6, h := n7, d := n8 } rfl)).m.xr.srS) rfl ⟨⟨{ s with mi := n1 == 0, fl := n2 == 0, fd := n3, se := n4, tl := n5, lo := n6, h := n7, d := n8 }, rfl⟩, grownRow (((((Z8.out.set 18 (.int .i64 n5) { s with mi := n1 == 0, fl := n2 == 0, fd := n3, se := n4, tl := n5 } rfl).set 19 (.int .i64 n6) { s with mi := n1 == 0, fl := n2 == 0, fd := n3, se := n4, tl := n5, lo := n6 } rfl).set 20 (.int .i64 n7) { s with mi := n1 == 0, fl := n2 == 0, fd := n3, se := n4, tl := n5, lo := n6, h := n7 } rfl).set 21 (.int .i64 n8) { s with mi := n1 == 0, fl := n2 == 0, fd := n3, se := n4, tl := n5, lo := n6, h := n7, d := n8 } rfl)).m.gr hp _⟩
end Go.Proofs.Ytijakijjeoaikaa
