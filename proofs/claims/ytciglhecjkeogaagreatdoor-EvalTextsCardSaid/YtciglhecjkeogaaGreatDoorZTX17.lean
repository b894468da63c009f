import Derived.Test.YtciglhecjkeogaaGreatDoorZTX13
set_option linter.unusedVariables false
set_option linter.unusedSimpArgs false
namespace Go.Proofs.YtciglhecjkeogaaGreatDoor
open Go.RowKit
set_option maxRecDepth 100000 in
set_option maxHeartbeats 4000000 in
theorem sy_test {P : Nat} {a : Option Addr} {cap : Nat} {ts : List Lx.Tok} {len f : Nat} (AA : ∀ g, g ≤ f → SyAll P a cap ts len g) (i : Nat) (w : World) (h : Par w P a cap ts len i) (hf : Sy.need ts.length i 2 ≤ f + 1) :
    Calls Tryz.prog 136 #[.pointer (some ⟨P, 0, none⟩)] w (PR P a cap ts len w (Sy.pE ts (f + 1) 2 i)) := by
  unfold Sy.need at hf
  obtain ⟨hP, hO⟩ := h.lt
  have hle := h.le
  have H := Lib.hid h
  clear h
  have R : Hid (Bx (w.alloc (.cells exZ 31)) w.heap.size exZ 31) := Lib.hid (Bx.new w _ _)
  rw [Sy.pE, if_neg (by decide)]
  have c1 : ∀ w, Par w P a cap ts len i → Calls Tryz.prog 141 #[.pointer (some ⟨P, 0, none⟩)] w (PR P a cap ts len w (Sy.pE ts f 3 i)) := fun w h => (AA f (Nat.le_refl _)).e 3 i w (by omega) h (by unfold Sy.need; omega)
  have hfw := (Sy.fwd ts f).e 3 i hle
  cases e1x : Sy.pE ts f 3 i with
  | bad j =>
    rw [e1x] at c1
    have C1 := Lib.hid c1
    clear c1 hfw
    have q0 : Hid (Px P w w) := Lib.hid (Px.refl P w)
    go_enter Tryz.func136, Tryz.ntmps136
    go_wp2_with (go_at_call 141; ((with_reducible refine (C1.out _ (H.out.kept Qz)).mono ?_); rintro e w' ⟨rfl, q⟩; replace q0 : Hid (Px P w w') := Lib.hid (Px.trans Pz q); clear q))
    exact ⟨rfl, rfl, q0.out⟩
  | ok x j =>
    rw [e1x] at c1 hfw
    have C1 := Lib.hid c1
    have hfw2 : j ≤ ts.length := hfw.2
    have hfw1 : i < j := hfw.1
    clear c1 hfw
    obtain ⟨g, rfl⟩ : ∃ g, f = g + 1 := ⟨f - 1, by omega⟩
    simp only
    rw [Sy.pL]
    have cf : ∀ w, Par w P a cap ts len j → Calls Tryz.prog 135 #[.pointer (some ⟨P, 0, none⟩), .int .i64 17, .int .i64 22] w (PO P a cap ts len j w (Sy.lop 2 (Sy.tx ts j))) := fun w h => syOperator h 17 6 (by omega) (by omega)
    cases e0 : Sy.lop 2 (Sy.tx ts j) with
    | none =>
      rw [e0] at cf
      have CF := Lib.hid cf
      clear cf e0
      simp only
      have q0 : Hid (Px P w w) := Lib.hid (Px.refl P w)
      go_enter Tryz.func136, Tryz.ntmps136
      go_wp2_with (first | (go_at_call 141; ((with_reducible refine (C1.out _ (H.out.kept Qz)).mono ?_); rintro e w' ⟨ka, kc, rfl, k, hp, q⟩; have pw := (Par.lt hp).1; have K : Hid (KidsB w' (fun b => w.heap.size < b) ka kc (Sy.Ex.ks x)) := Lib.hid (KidsB.mono k (fun b hb => Nat.lt_of_lt_of_le (Bx.lt Rz) hb)); clear k; replace R : Hid (Bx w' w.heap.size exZ 31) := Lib.hid (Bx.px Rz q (by omega)); have X : Hid (Bx (w'.alloc (.cells #[.int .i64 x.op, .int .i64 x.n, .slice ka x.ks.length kc] 31)) w'.heap.size _ _) := Lib.hid (Bx.new w' _ _); replace H := Lib.hid hp; clear hp; replace q0 : Hid (Px P w w') := Lib.hid (Px.trans Pz q); clear q)) | (go_at_call 135; ((with_reducible refine (CF.out _ (H.out.kept Qz)).mono ?_); rintro e w' ⟨rfl, q⟩; replace R : Hid (Bx w' w.heap.size exZ 31) := Lib.hid (Bx.kept Rz q); have rl := R.out.lt; have r0 := R.out.cell' 0 _ rfl; have r1 := R.out.cell' 1 _ rfl; have r2 := R.out.cell' 2 _ rfl; have s0 := R.out.free 0; have s1 := R.out.free 1; have s2 := R.out.free 2; replace K : Hid (KidsB w' (fun b => w.heap.size < b) ka kc x.ks) := Lib.hid (KidsB.kept (by repeat (first | exact K.out | refine KidsB.alloc ?_ _ | refine KidsB.drew ?_)) q); have xw := X.out.lt; replace X := Lib.hid (Bx.kept (by repeat (first | exact X.out | refine Bx.alloc ?_ _ | refine Bx.drew ?_)) q); have z0 := X.out.cell' 0 _ rfl; have z1 := X.out.cell' 1 _ rfl; have z2 := X.out.cell' 2 _ rfl; replace H := Lib.hid (Par.kept H.out (Qw.trans Qz q)); replace q0 : Hid (Px P w w') := Lib.hid (Px.trans Pz (Px.of q)); clear q)))
      exact exRet (x := x) Tryz.results136 rfl rfl (exEnd (x := x) hP hO rfl rfl rfl R.out K.out H.out q0.out)
    | some o =>
      have hj := Sy.lop_lt e0
      rw [e0] at cf
      have CF := Lib.hid cf
      clear cf e0
      simp only
      have c2 : ∀ w, Par w P a cap ts len (j + 1) → Calls Tryz.prog 141 #[.pointer (some ⟨P, 0, none⟩)] w (PR P a cap ts len w (Sy.pE ts g 3 (j + 1))) := fun w h => (AA g (by omega)).e 3 (j + 1) w (by omega) h (by unfold Sy.need; omega)
      cases e2 : Sy.pE ts g 3 (j + 1) with
      | bad m =>
        rw [e2] at c2
        have C2 := Lib.hid c2
        clear c2 e2
        have q0 : Hid (Px P w w) := Lib.hid (Px.refl P w)
        go_enter Tryz.func136, Tryz.ntmps136
        go_wp2_with (first | (go_at_call 141; ((with_reducible refine (C1.out _ (H.out.kept Qz)).mono ?_); rintro e w' ⟨ka, kc, rfl, k, hp, q⟩; have pw := (Par.lt hp).1; have K : Hid (KidsB w' (fun b => w.heap.size < b) ka kc (Sy.Ex.ks x)) := Lib.hid (KidsB.mono k (fun b hb => Nat.lt_of_lt_of_le (Bx.lt Rz) hb)); clear k; replace R : Hid (Bx w' w.heap.size exZ 31) := Lib.hid (Bx.px Rz q (by omega)); have X : Hid (Bx (w'.alloc (.cells #[.int .i64 x.op, .int .i64 x.n, .slice ka x.ks.length kc] 31)) w'.heap.size _ _) := Lib.hid (Bx.new w' _ _); replace H := Lib.hid hp; clear hp; replace q0 : Hid (Px P w w') := Lib.hid (Px.trans Pz q); clear q)) | (go_at_call 135; ((with_reducible refine (CF.out _ (H.out.kept Qz)).mono ?_); rintro e w' ⟨rfl, hp, q⟩; have pw := (Par.lt hp).1; replace R : Hid (Bx w' w.heap.size exZ 31) := Lib.hid (Bx.px Rz q (by omega)); replace K : Hid (KidsB w' (fun b => w.heap.size < b) ka kc x.ks) := Lib.hid (KidsB.px (by repeat (first | exact K.out | refine KidsB.alloc ?_ _ | refine KidsB.drew ?_)) (fun b hb => by omega) q); have xw := X.out.lt; replace X := Lib.hid (Bx.px (by repeat (first | exact X.out | refine Bx.alloc ?_ _ | refine Bx.drew ?_)) q (by omega)); have z0 := X.out.cell' 0 _ rfl; have z1 := X.out.cell' 1 _ rfl; have z2 := X.out.cell' 2 _ rfl; replace H := Lib.hid hp; clear hp; replace q0 : Hid (Px P w w') := Lib.hid (Px.trans Pz q); clear q)))
        go_region_with ((go_at_call 141; ((with_reducible refine (C2.out _ (H.out.kept Qz)).mono ?_); rintro e w' ⟨rfl, q⟩; replace q0 : Hid (Px P w w') := Lib.hid (Px.trans Pz q); clear q; refine dying (P := Tryz.prog) (w := w') ⟨rfl, rfl, q0.out⟩ ?_)))
        all_goals exact trivial
      | ok y m =>
        rw [e2] at c2
        have C2 := Lib.hid c2
        clear c2 e2
        simp only [if_true]
        have q0 : Hid (Px P w w) := Lib.hid (Px.refl P w)
        go_enter Tryz.func136, Tryz.ntmps136
        go_wp2_with (first | (go_at_call 141; ((with_reducible refine (C1.out _ (H.out.kept Qz)).mono ?_); rintro e w' ⟨ka, kc, rfl, k, hp, q⟩; have pw := (Par.lt hp).1; have K : Hid (KidsB w' (fun b => w.heap.size < b) ka kc (Sy.Ex.ks x)) := Lib.hid (KidsB.mono k (fun b hb => Nat.lt_of_lt_of_le (Bx.lt Rz) hb)); clear k; replace R : Hid (Bx w' w.heap.size exZ 31) := Lib.hid (Bx.px Rz q (by omega)); have X : Hid (Bx (w'.alloc (.cells #[.int .i64 x.op, .int .i64 x.n, .slice ka x.ks.length kc] 31)) w'.heap.size _ _) := Lib.hid (Bx.new w' _ _); replace H := Lib.hid hp; clear hp; replace q0 : Hid (Px P w w') := Lib.hid (Px.trans Pz q); clear q)) | (go_at_call 135; ((with_reducible refine (CF.out _ (H.out.kept Qz)).mono ?_); rintro e w' ⟨rfl, hp, q⟩; have pw := (Par.lt hp).1; replace R : Hid (Bx w' w.heap.size exZ 31) := Lib.hid (Bx.px Rz q (by omega)); replace K : Hid (KidsB w' (fun b => w.heap.size < b) ka kc x.ks) := Lib.hid (KidsB.px (by repeat (first | exact K.out | refine KidsB.alloc ?_ _ | refine KidsB.drew ?_)) (fun b hb => by omega) q); have xw := X.out.lt; replace X := Lib.hid (Bx.px (by repeat (first | exact X.out | refine Bx.alloc ?_ _ | refine Bx.drew ?_)) q (by omega)); have z0 := X.out.cell' 0 _ rfl; have z1 := X.out.cell' 1 _ rfl; have z2 := X.out.cell' 2 _ rfl; replace H := Lib.hid hp; clear hp; replace q0 : Hid (Px P w w') := Lib.hid (Px.trans Pz q); clear q)))
        go_region_with (first | (go_at_call 141; ((with_reducible refine (C2.out _ (H.out.kept Qz)).mono ?_); rintro e w' ⟨kb, kd, rfl, k, hp, q⟩; have pw := (Par.lt hp).1; have L : Hid (KidsB w' (fun b => w.heap.size < b) kb kd (Sy.Ex.ks y)) := Lib.hid (KidsB.mono k (fun b hb => Nat.lt_of_lt_of_le (Bx.lt Rz) hb)); clear k; replace R : Hid (Bx w' w.heap.size exZ 31) := Lib.hid (Bx.px Rz q (by omega)); replace K : Hid (KidsB w' (fun b => w.heap.size < b) ka kc x.ks) := Lib.hid (KidsB.px (by repeat (first | exact K.out | refine KidsB.alloc ?_ _ | refine KidsB.drew ?_)) (fun b hb => by omega) q); have xw := X.out.lt; replace X := Lib.hid (Bx.px (by repeat (first | exact X.out | refine Bx.alloc ?_ _ | refine Bx.drew ?_)) q (by omega)); have z0 := X.out.cell' 0 _ rfl; have z1 := X.out.cell' 1 _ rfl; have z2 := X.out.cell' 2 _ rfl; replace H := Lib.hid hp; clear hp; replace q0 : Hid (Px P w w') := Lib.hid (Px.trans Pz q); clear q)) | (go_at_call 124; ((with_reducible refine (syNode _ _ _ _ _).mono ?_); rintro e w' ⟨rfl, q⟩; have G := Bx.kept (Bx.new _ _ _) q; have K2 : Hid (KidsB w' (fun b => w.heap.size < b) _ 2 [x, y]) := Lib.hid (KidsB.two G (Bx.lt Rz) (KidsB.kept (by repeat (first | exact K.out | refine KidsB.alloc ?_ _ | refine KidsB.drew ?_)) q) (KidsB.kept (by repeat (first | exact L.out | refine KidsB.alloc ?_ _ | refine KidsB.drew ?_)) q)); clear G; replace R : Hid (Bx w' w.heap.size exZ 31) := Lib.hid (Bx.kept Rz q); have rl := R.out.lt; have r0 := R.out.cell' 0 _ rfl; have r1 := R.out.cell' 1 _ rfl; have r2 := R.out.cell' 2 _ rfl; have s0 := R.out.free 0; have s1 := R.out.free 1; have s2 := R.out.free 2; replace H := Lib.hid (Par.kept H.out (Qw.trans Qz q)); replace q0 : Hid (Px P w w') := Lib.hid (Px.trans Pz (Px.of q)); clear q)))
        all_goals go_wp2_with fail
        all_goals exact exRet (x := Sy.bin o x y) Tryz.results136 rfl rfl (exEnd (x := Sy.bin o x y) hP hO rfl rfl rfl R.out K2.out H.out q0.out)
end Go.Proofs.YtciglhecjkeogaaGreatDoor
set_option linter.unusedVariables false
set_option linter.unusedSimpArgs false
namespace Go.Proofs.YtciglhecjkeogaaGreatDoor
open Go.RowKit
set_option maxRecDepth 100000 in
set_option maxHeartbeats 4000000 in
theorem sy_chain0 {P : Nat} {a : Option Addr} {cap : Nat} {ts : List Lx.Tok} {len f : Nat} (AA : ∀ g, g ≤ f → SyAll P a cap ts len g) (i : Nat) (w : World) (h : Par w P a cap ts len i) (hf : Sy.need ts.length i 0 ≤ f + 1) :
    Calls Tryz.prog 125 #[.pointer (some ⟨P, 0, none⟩), .int .i64 24, .int .i64 25, .func (.func 126) #[.pointer (some ⟨P, 0, none⟩)] #[]] w (PR P a cap ts len w (Sy.pE ts (f + 1) 0 i)) := by
  unfold Sy.need at hf
  obtain ⟨hP, hO⟩ := h.lt
  have hle := h.le
  have H := Lib.hid h
  clear h
  have R : Hid (Bx (w.alloc (.cells exZ 31)) w.heap.size exZ 31) := Lib.hid (Bx.new w _ _)
  rw [Sy.pE, if_neg (by decide)]
  have c1 : ∀ w, Par w P a cap ts len i → Calls Tryz.prog 126 #[.pointer (some ⟨P, 0, none⟩)] w (PR P a cap ts len w (Sy.pE ts f 1 i)) := fun w h => (AA f (Nat.le_refl _)).e 1 i w (by omega) h (by unfold Sy.need; omega)
  have hfw := (Sy.fwd ts f).e 1 i hle
  cases e1x : Sy.pE ts f 1 i with
  | bad j =>
    rw [e1x] at c1
    have C1 := Lib.hid c1
    clear c1 hfw
    have q0 : Hid (Px P w w) := Lib.hid (Px.refl P w)
    go_enter Tryz.func125, Tryz.ntmps125
    go_wp2_with (go_at_call 126; ((with_reducible refine (C1.out _ (H.out.kept Qz)).mono ?_); rintro e w' ⟨rfl, q⟩; replace q0 : Hid (Px P w w') := Lib.hid (Px.trans Pz q); clear q))
    exact ⟨rfl, rfl, q0.out⟩
  | ok x0 j0 =>
    rw [e1x] at c1 hfw
    have C1 := Lib.hid c1
    have hfw2 : j0 ≤ ts.length := hfw.2
    have hfw1 : i < j0 := hfw.1
    clear c1 hfw
    simp only
    have AH := Lib.hid AA
    clear AA e1x
    have q0 : Hid (Px P w w) := Lib.hid (Px.refl P w)
    go_enter Tryz.func125, Tryz.ntmps125
    go_wp2_with (go_at_call 126; ((with_reducible refine (C1.out _ (H.out.kept Qz)).mono ?_); rintro e w' ⟨ka, kc, rfl, k, hp, q⟩; have pw := (Par.lt hp).1; have K : Hid (KidsB w' (fun b => w.heap.size < b) ka kc (Sy.Ex.ks x0)) := Lib.hid (KidsB.mono k (fun b hb => Nat.lt_of_lt_of_le (Bx.lt Rz) hb)); clear k; replace R : Hid (Bx w' w.heap.size exZ 31) := Lib.hid (Bx.px Rz q (by omega)); have X : Hid (Bx (w'.alloc (.cells #[.int .i64 x0.op, .int .i64 x0.n, .slice ka x0.ks.length kc] 31)) w'.heap.size _ _) := Lib.hid (Bx.new w' _ _); replace H := Lib.hid hp; clear hp; replace q0 : Hid (Px P w w') := Lib.hid (Px.trans Pz q); clear q))
    have xw := R.out.lt
    have R0 := Lib.hid (R.out.alloc (.cells #[.int .i64 x0.op, .int .i64 x0.n, .slice ka x0.ks.length kc] 31))
    have K0 := Lib.hid (K.out.fresh (.cells #[.int .i64 x0.op, .int .i64 x0.n, .slice ka x0.ks.length kc] 31))
    have H0 := Lib.hid (H.out.kept ((Below.refl _ _).alloc (Nat.le_refl _) (.cells #[.int .i64 x0.op, .int .i64 x0.n, .slice ka x0.ks.length kc] 31)))
    have Q0 := Lib.hid (q0.out.alloc (.cells #[.int .i64 x0.op, .int .i64 x0.n, .slice ka x0.ks.length kc] 31))
    clear R K H q0 C1
    rename World => w1
    go_loopg [10] f (fun g ov wr => ∃ (x : Sy.Ex) (j : Nat) (la : Option Addr) (lc : Nat), j ≤ ts.length ∧ g ≤ f ∧ 16 * (ts.length - j) + 16 ≤ g ∧ Hid (Sy.pL ts f 0 x0 j0 = Sy.pL ts g 0 x j) ∧ Hid (Bx wr w.heap.size exZ 31) ∧ Hid (Bx wr w1.heap.size #[.int .i64 x.op, .int .i64 x.n, .slice la x.ks.length lc] 31) ∧ Hid (KidsB wr (fun b => w.heap.size < b ∧ b ≠ w1.heap.size) la lc x.ks) ∧ Hid (Par wr P a cap ts len j) ∧ Hid (Px P w wr))
    case atStart => exact ⟨x0, j0, ka, kc, hfw2, Nat.le_refl _, by omega, Lib.hid rfl, R0, X, K0, H0, Q0⟩
    case round =>
      clear R0 X K0 H0 Q0
      obtain ⟨x, j, la, lc, hj, hg, hfu, HR, R, X, K, H, q0⟩ := hrel
      obtain ⟨g, rfl⟩ : ∃ g, gk = g + 1 := ⟨gk - 1, by omega⟩
      have cf : ∀ w, Par w P a cap ts len j → Calls Tryz.prog 135 #[.pointer (some ⟨P, 0, none⟩), .int .i64 24, .int .i64 25] w (PO P a cap ts len j w (Sy.lop 0 (Sy.tx ts j))) := fun w h => syOperator h 24 2 (by omega) (by omega)
      have HR' := HR.out
      rw [Sy.pL] at HR'
      cases e0 : Sy.lop 0 (Sy.tx ts j) with
      | none =>
        rw [e0] at cf HR'
        have CF := Lib.hid cf
        replace HR := Lib.hid HR'
        clear cf e0 HR'
        go_wp2_with (go_at_call 135; ((with_reducible refine (CF.out _ (H.out.kept Qz)).mono ?_); rintro e w' ⟨rfl, q⟩; replace R : Hid (Bx w' w.heap.size exZ 31) := Lib.hid (Bx.kept Rz q); have rl := R.out.lt; have r0 := R.out.cell' 0 _ rfl; have r1 := R.out.cell' 1 _ rfl; have r2 := R.out.cell' 2 _ rfl; have s0 := R.out.free 0; have s1 := R.out.free 1; have s2 := R.out.free 2; replace K : Hid (KidsB w' (fun b => w.heap.size < b ∧ b ≠ w1.heap.size) la lc x.ks) := Lib.hid (KidsB.kept (by repeat (first | exact K.out | refine KidsB.alloc ?_ _ | refine KidsB.drew ?_)) q); replace X : Hid (Bx w' w1.heap.size #[.int .i64 x.op, .int .i64 x.n, .slice la x.ks.length lc] 31) := Lib.hid (Bx.kept (by repeat (first | exact X.out | refine Bx.alloc ?_ _ | refine Bx.drew ?_)) q); have z0 := X.out.cell' 0 _ rfl; have z1 := X.out.cell' 1 _ rfl; have z2 := X.out.cell' 2 _ rfl; replace H := Lib.hid (Par.kept H.out (Qw.trans Qz q)); replace q0 : Hid (Px P w w') := Lib.hid (Px.trans Pz (Px.of q)); clear q))
        rw [HR.out]
        exact exRet (x := x) Tryz.results125 rfl rfl (exEnd (x := x) hP hO rfl rfl rfl R.out (K.out.mono fun b hb => hb.1) H.out q0.out)
      | some o =>
        have hjn := Sy.lop_lt e0
        rw [e0] at cf HR'
        have CF := Lib.hid cf
        simp only at HR'
        have c2 : ∀ w, Par w P a cap ts len (j + 1) → Calls Tryz.prog 126 #[.pointer (some ⟨P, 0, none⟩)] w (PR P a cap ts len w (Sy.pE ts g 1 (j + 1))) := fun w h => (AH.out g (by omega)).e 1 (j + 1) w (by omega) h (by unfold Sy.need; omega)
        have hfw3 := (Sy.fwd ts g).e 1 (j + 1) hjn
        clear cf e0
        cases e2 : Sy.pE ts g 1 (j + 1) with
        | bad m =>
          rw [e2] at c2 HR'
          have C2 := Lib.hid c2
          replace HR := Lib.hid HR'
          clear c2 e2 HR' hfw3
          go_wp2_with (go_at_call 135; ((with_reducible refine (CF.out _ (H.out.kept Qz)).mono ?_); rintro e w' ⟨rfl, hp, q⟩; have pw := (Par.lt hp).1; replace R : Hid (Bx w' w.heap.size exZ 31) := Lib.hid (Bx.px Rz q (by omega)); replace K : Hid (KidsB w' (fun b => w.heap.size < b ∧ b ≠ w1.heap.size) la lc x.ks) := Lib.hid (KidsB.px (by repeat (first | exact K.out | refine KidsB.alloc ?_ _ | refine KidsB.drew ?_)) (fun b hb => by omega) q); replace X : Hid (Bx w' w1.heap.size #[.int .i64 x.op, .int .i64 x.n, .slice la x.ks.length lc] 31) := Lib.hid (Bx.px (by repeat (first | exact X.out | refine Bx.alloc ?_ _ | refine Bx.drew ?_)) q (by omega)); have z0 := X.out.cell' 0 _ rfl; have z1 := X.out.cell' 1 _ rfl; have z2 := X.out.cell' 2 _ rfl; have t0 := X.out.free 0; have t1 := X.out.free 1; have t2 := X.out.free 2; replace H := Lib.hid hp; clear hp; replace q0 : Hid (Px P w w') := Lib.hid (Px.trans Pz q); clear q))
          go_region_with ((go_at_call 126; ((with_reducible refine (C2.out _ (H.out.kept Qz)).mono ?_); rintro e w' ⟨rfl, q⟩; replace q0 : Hid (Px P w w') := Lib.hid (Px.trans Pz q); clear q; refine dying (P := Tryz.prog) (w := w') ⟨rfl, (by show PR P a cap ts len w (Sy.pL ts f 0 x0 j0) _ _; rw [HR.out]; exact ⟨rfl, q0.out⟩)⟩ ?_)))
          all_goals exact trivial
        | ok y m =>
          rw [e2] at c2 HR' hfw3
          have C2 := Lib.hid c2
          simp only at HR'
          rw [if_neg (by decide)] at HR'
          replace HR := Lib.hid HR'
          have hm2 : m ≤ ts.length := hfw3.2
          have hm1 : j + 1 < m := hfw3.1
          clear c2 e2 HR' hfw3
          go_wp2_with (go_at_call 135; ((with_reducible refine (CF.out _ (H.out.kept Qz)).mono ?_); rintro e w' ⟨rfl, hp, q⟩; have pw := (Par.lt hp).1; replace R : Hid (Bx w' w.heap.size exZ 31) := Lib.hid (Bx.px Rz q (by omega)); replace K : Hid (KidsB w' (fun b => w.heap.size < b ∧ b ≠ w1.heap.size) la lc x.ks) := Lib.hid (KidsB.px (by repeat (first | exact K.out | refine KidsB.alloc ?_ _ | refine KidsB.drew ?_)) (fun b hb => by omega) q); replace X : Hid (Bx w' w1.heap.size #[.int .i64 x.op, .int .i64 x.n, .slice la x.ks.length lc] 31) := Lib.hid (Bx.px (by repeat (first | exact X.out | refine Bx.alloc ?_ _ | refine Bx.drew ?_)) q (by omega)); have z0 := X.out.cell' 0 _ rfl; have z1 := X.out.cell' 1 _ rfl; have z2 := X.out.cell' 2 _ rfl; have t0 := X.out.free 0; have t1 := X.out.free 1; have t2 := X.out.free 2; replace H := Lib.hid hp; clear hp; replace q0 : Hid (Px P w w') := Lib.hid (Px.trans Pz q); clear q))
          go_region_with (first | (go_at_call 126; ((with_reducible refine (C2.out _ (H.out.kept Qz)).mono ?_); rintro e w' ⟨kb, kd, rfl, k, hp, q⟩; have pw := (Par.lt hp).1; have xl := Bx.lt (by repeat (first | exact X.out | refine Bx.alloc ?_ _ | refine Bx.drew ?_)); have L : Hid (KidsB w' (fun b => w.heap.size < b ∧ b ≠ w1.heap.size) kb kd (Sy.Ex.ks y)) := Lib.hid (KidsB.mono k (fun b hb => ⟨Nat.lt_of_lt_of_le xw (Nat.le_of_lt (Nat.lt_of_lt_of_le xl hb)), Nat.ne_of_gt (Nat.lt_of_lt_of_le xl hb)⟩)); clear k; replace R : Hid (Bx w' w.heap.size exZ 31) := Lib.hid (Bx.px Rz q (by omega)); replace K : Hid (KidsB w' (fun b => w.heap.size < b ∧ b ≠ w1.heap.size) la lc x.ks) := Lib.hid (KidsB.px (by repeat (first | exact K.out | refine KidsB.alloc ?_ _ | refine KidsB.drew ?_)) (fun b hb => by omega) q); replace X : Hid (Bx w' w1.heap.size #[.int .i64 x.op, .int .i64 x.n, .slice la x.ks.length lc] 31) := Lib.hid (Bx.px (by repeat (first | exact X.out | refine Bx.alloc ?_ _ | refine Bx.drew ?_)) q (by omega)); have z0 := X.out.cell' 0 _ rfl; have z1 := X.out.cell' 1 _ rfl; have z2 := X.out.cell' 2 _ rfl; have t0 := X.out.free 0; have t1 := X.out.free 1; have t2 := X.out.free 2; replace H := Lib.hid hp; clear hp; replace q0 : Hid (Px P w w') := Lib.hid (Px.trans Pz q); clear q)) | (go_at_call 124; ((with_reducible refine (syNode _ _ _ _ _).mono ?_); rintro e w' ⟨rfl, q⟩; have xl := Bx.lt (by repeat (first | exact X.out | refine Bx.alloc ?_ _ | refine Bx.drew ?_)); have G := Bx.kept (Bx.new _ _ _) q; have K2 : Hid (KidsB w' (fun b => w.heap.size < b ∧ b ≠ w1.heap.size) _ 2 [x, y]) := Lib.hid (KidsB.two G (And.intro (Nat.lt_trans xw (Bx.lt X.out)) (Nat.ne_of_gt (Bx.lt X.out))) (KidsB.kept (by repeat (first | exact K.out | refine KidsB.alloc ?_ _ | refine KidsB.drew ?_)) q) (KidsB.kept (by repeat (first | exact L.out | refine KidsB.alloc ?_ _ | refine KidsB.drew ?_)) q)); clear G; replace R : Hid (Bx w' w.heap.size exZ 31) := Lib.hid (Bx.kept Rz q); replace X : Hid (Bx w' w1.heap.size #[.int .i64 x.op, .int .i64 x.n, .slice la x.ks.length lc] 31) := Lib.hid (Bx.kept (by repeat (first | exact X.out | refine Bx.alloc ?_ _ | refine Bx.drew ?_)) q); have z0 := X.out.cell' 0 _ rfl; have z1 := X.out.cell' 1 _ rfl; have z2 := X.out.cell' 2 _ rfl; have t0 := X.out.free 0; have t1 := X.out.free 1; have t2 := X.out.free 2; replace H := Lib.hid (Par.kept H.out (Qw.trans Qz q)); replace q0 : Hid (Px P w w') := Lib.hid (Px.trans Pz (Px.of q)); clear q)))
          all_goals go_wp2_with fail
          all_goals go_roundg g
          all_goals (first | (case measure => exact Nat.lt_succ_self g) | skip)
          all_goals exact ⟨Sy.bin o x y, m, _, 2, hm2, by omega, by omega, HR, Lib.hid (((R.out.other (by show w.heap.size ≠ w1.heap.size; omega) _).other (by show w.heap.size ≠ w1.heap.size; omega) _).other (by show w.heap.size ≠ w1.heap.size; omega) _), Lib.hid (((X.out.set 0 _).set 1 _).set 2 _), Lib.hid (((K2.out.set (fun h => h.2 rfl) _).set (fun h => h.2 rfl) _).set (fun h => h.2 rfl) _), Lib.hid (((H.out.other (b := w1.heap.size) (by omega) (by omega) _ _).other (by omega) (by omega) _ _).other (by omega) (by omega) _ _), Lib.hid (((q0.out.setNew (by show w.heap.size ≤ w1.heap.size; omega) _).setNew (by show w.heap.size ≤ w1.heap.size; omega) _).setNew (by show w.heap.size ≤ w1.heap.size; omega) _)⟩
end Go.Proofs.YtciglhecjkeogaaGreatDoor
set_option linter.unusedVariables false
set_option linter.unusedSimpArgs false
namespace Go.Proofs.YtciglhecjkeogaaGreatDoor
open Go.RowKit
set_option maxRecDepth 100000 in
set_option maxHeartbeats 4000000 in
theorem sy_chain1 {P : Nat} {a : Option Addr} {cap : Nat} {ts : List Lx.Tok} {len f : Nat} (AA : ∀ g, g ≤ f → SyAll P a cap ts len g) (i : Nat) (w : World) (h : Par w P a cap ts len i) (hf : Sy.need ts.length i 1 ≤ f + 1) :
    Calls Tryz.prog 125 #[.pointer (some ⟨P, 0, none⟩), .int .i64 23, .int .i64 23, .func (.func 136) #[.pointer (some ⟨P, 0, none⟩)] #[]] w (PR P a cap ts len w (Sy.pE ts (f + 1) 1 i)) := by
  unfold Sy.need at hf
  obtain ⟨hP, hO⟩ := h.lt
  have hle := h.le
  have H := Lib.hid h
  clear h
  have R : Hid (Bx (w.alloc (.cells exZ 31)) w.heap.size exZ 31) := Lib.hid (Bx.new w _ _)
  rw [Sy.pE, if_neg (by decide)]
  have c1 : ∀ w, Par w P a cap ts len i → Calls Tryz.prog 136 #[.pointer (some ⟨P, 0, none⟩)] w (PR P a cap ts len w (Sy.pE ts f 2 i)) := fun w h => (AA f (Nat.le_refl _)).e 2 i w (by omega) h (by unfold Sy.need; omega)
  have hfw := (Sy.fwd ts f).e 2 i hle
  cases e1x : Sy.pE ts f 2 i with
  | bad j =>
    rw [e1x] at c1
    have C1 := Lib.hid c1
    clear c1 hfw
    have q0 : Hid (Px P w w) := Lib.hid (Px.refl P w)
    go_enter Tryz.func125, Tryz.ntmps125
    go_wp2_with (go_at_call 136; ((with_reducible refine (C1.out _ (H.out.kept Qz)).mono ?_); rintro e w' ⟨rfl, q⟩; replace q0 : Hid (Px P w w') := Lib.hid (Px.trans Pz q); clear q))
    exact ⟨rfl, rfl, q0.out⟩
  | ok x0 j0 =>
    rw [e1x] at c1 hfw
    have C1 := Lib.hid c1
    have hfw2 : j0 ≤ ts.length := hfw.2
    have hfw1 : i < j0 := hfw.1
    clear c1 hfw
    simp only
    have AH := Lib.hid AA
    clear AA e1x
    have q0 : Hid (Px P w w) := Lib.hid (Px.refl P w)
    go_enter Tryz.func125, Tryz.ntmps125
    go_wp2_with (go_at_call 136; ((with_reducible refine (C1.out _ (H.out.kept Qz)).mono ?_); rintro e w' ⟨ka, kc, rfl, k, hp, q⟩; have pw := (Par.lt hp).1; have K : Hid (KidsB w' (fun b => w.heap.size < b) ka kc (Sy.Ex.ks x0)) := Lib.hid (KidsB.mono k (fun b hb => Nat.lt_of_lt_of_le (Bx.lt Rz) hb)); clear k; replace R : Hid (Bx w' w.heap.size exZ 31) := Lib.hid (Bx.px Rz q (by omega)); have X : Hid (Bx (w'.alloc (.cells #[.int .i64 x0.op, .int .i64 x0.n, .slice ka x0.ks.length kc] 31)) w'.heap.size _ _) := Lib.hid (Bx.new w' _ _); replace H := Lib.hid hp; clear hp; replace q0 : Hid (Px P w w') := Lib.hid (Px.trans Pz q); clear q))
    have xw := R.out.lt
    have R0 := Lib.hid (R.out.alloc (.cells #[.int .i64 x0.op, .int .i64 x0.n, .slice ka x0.ks.length kc] 31))
    have K0 := Lib.hid (K.out.fresh (.cells #[.int .i64 x0.op, .int .i64 x0.n, .slice ka x0.ks.length kc] 31))
    have H0 := Lib.hid (H.out.kept ((Below.refl _ _).alloc (Nat.le_refl _) (.cells #[.int .i64 x0.op, .int .i64 x0.n, .slice ka x0.ks.length kc] 31)))
    have Q0 := Lib.hid (q0.out.alloc (.cells #[.int .i64 x0.op, .int .i64 x0.n, .slice ka x0.ks.length kc] 31))
    clear R K H q0 C1
    rename World => w1
    go_loopg [10] f (fun g ov wr => ∃ (x : Sy.Ex) (j : Nat) (la : Option Addr) (lc : Nat), j ≤ ts.length ∧ g ≤ f ∧ 16 * (ts.length - j) + 16 ≤ g ∧ Hid (Sy.pL ts f 1 x0 j0 = Sy.pL ts g 1 x j) ∧ Hid (Bx wr w.heap.size exZ 31) ∧ Hid (Bx wr w1.heap.size #[.int .i64 x.op, .int .i64 x.n, .slice la x.ks.length lc] 31) ∧ Hid (KidsB wr (fun b => w.heap.size < b ∧ b ≠ w1.heap.size) la lc x.ks) ∧ Hid (Par wr P a cap ts len j) ∧ Hid (Px P w wr))
    case atStart => exact ⟨x0, j0, ka, kc, hfw2, Nat.le_refl _, by omega, Lib.hid rfl, R0, X, K0, H0, Q0⟩
    case round =>
      clear R0 X K0 H0 Q0
      obtain ⟨x, j, la, lc, hj, hg, hfu, HR, R, X, K, H, q0⟩ := hrel
      obtain ⟨g, rfl⟩ : ∃ g, gk = g + 1 := ⟨gk - 1, by omega⟩
      have cf : ∀ w, Par w P a cap ts len j → Calls Tryz.prog 135 #[.pointer (some ⟨P, 0, none⟩), .int .i64 23, .int .i64 23] w (PO P a cap ts len j w (Sy.lop 1 (Sy.tx ts j))) := fun w h => syOperator h 23 1 (by omega) (by omega)
      have HR' := HR.out
      rw [Sy.pL] at HR'
      cases e0 : Sy.lop 1 (Sy.tx ts j) with
      | none =>
        rw [e0] at cf HR'
        have CF := Lib.hid cf
        replace HR := Lib.hid HR'
        clear cf e0 HR'
        go_wp2_with (go_at_call 135; ((with_reducible refine (CF.out _ (H.out.kept Qz)).mono ?_); rintro e w' ⟨rfl, q⟩; replace R : Hid (Bx w' w.heap.size exZ 31) := Lib.hid (Bx.kept Rz q); have rl := R.out.lt; have r0 := R.out.cell' 0 _ rfl; have r1 := R.out.cell' 1 _ rfl; have r2 := R.out.cell' 2 _ rfl; have s0 := R.out.free 0; have s1 := R.out.free 1; have s2 := R.out.free 2; replace K : Hid (KidsB w' (fun b => w.heap.size < b ∧ b ≠ w1.heap.size) la lc x.ks) := Lib.hid (KidsB.kept (by repeat (first | exact K.out | refine KidsB.alloc ?_ _ | refine KidsB.drew ?_)) q); replace X : Hid (Bx w' w1.heap.size #[.int .i64 x.op, .int .i64 x.n, .slice la x.ks.length lc] 31) := Lib.hid (Bx.kept (by repeat (first | exact X.out | refine Bx.alloc ?_ _ | refine Bx.drew ?_)) q); have z0 := X.out.cell' 0 _ rfl; have z1 := X.out.cell' 1 _ rfl; have z2 := X.out.cell' 2 _ rfl; replace H := Lib.hid (Par.kept H.out (Qw.trans Qz q)); replace q0 : Hid (Px P w w') := Lib.hid (Px.trans Pz (Px.of q)); clear q))
        rw [HR.out]
        exact exRet (x := x) Tryz.results125 rfl rfl (exEnd (x := x) hP hO rfl rfl rfl R.out (K.out.mono fun b hb => hb.1) H.out q0.out)
      | some o =>
        have hjn := Sy.lop_lt e0
        rw [e0] at cf HR'
        have CF := Lib.hid cf
        simp only at HR'
        have c2 : ∀ w, Par w P a cap ts len (j + 1) → Calls Tryz.prog 136 #[.pointer (some ⟨P, 0, none⟩)] w (PR P a cap ts len w (Sy.pE ts g 2 (j + 1))) := fun w h => (AH.out g (by omega)).e 2 (j + 1) w (by omega) h (by unfold Sy.need; omega)
        have hfw3 := (Sy.fwd ts g).e 2 (j + 1) hjn
        clear cf e0
        cases e2 : Sy.pE ts g 2 (j + 1) with
        | bad m =>
          rw [e2] at c2 HR'
          have C2 := Lib.hid c2
          replace HR := Lib.hid HR'
          clear c2 e2 HR' hfw3
          go_wp2_with (go_at_call 135; ((with_reducible refine (CF.out _ (H.out.kept Qz)).mono ?_); rintro e w' ⟨rfl, hp, q⟩; have pw := (Par.lt hp).1; replace R : Hid (Bx w' w.heap.size exZ 31) := Lib.hid (Bx.px Rz q (by omega)); replace K : Hid (KidsB w' (fun b => w.heap.size < b ∧ b ≠ w1.heap.size) la lc x.ks) := Lib.hid (KidsB.px (by repeat (first | exact K.out | refine KidsB.alloc ?_ _ | refine KidsB.drew ?_)) (fun b hb => by omega) q); replace X : Hid (Bx w' w1.heap.size #[.int .i64 x.op, .int .i64 x.n, .slice la x.ks.length lc] 31) := Lib.hid (Bx.px (by repeat (first | exact X.out | refine Bx.alloc ?_ _ | refine Bx.drew ?_)) q (by omega)); have z0 := X.out.cell' 0 _ rfl; have z1 := X.out.cell' 1 _ rfl; have z2 := X.out.cell' 2 _ rfl; have t0 := X.out.free 0; have t1 := X.out.free 1; have t2 := X.out.free 2; replace H := Lib.hid hp; clear hp; replace q0 : Hid (Px P w w') := Lib.hid (Px.trans Pz q); clear q))
          go_region_with ((go_at_call 136; ((with_reducible refine (C2.out _ (H.out.kept Qz)).mono ?_); rintro e w' ⟨rfl, q⟩; replace q0 : Hid (Px P w w') := Lib.hid (Px.trans Pz q); clear q; refine dying (P := Tryz.prog) (w := w') ⟨rfl, (by show PR P a cap ts len w (Sy.pL ts f 1 x0 j0) _ _; rw [HR.out]; exact ⟨rfl, q0.out⟩)⟩ ?_)))
          all_goals exact trivial
        | ok y m =>
          rw [e2] at c2 HR' hfw3
          have C2 := Lib.hid c2
          simp only at HR'
          rw [if_neg (by decide)] at HR'
          replace HR := Lib.hid HR'
          have hm2 : m ≤ ts.length := hfw3.2
          have hm1 : j + 1 < m := hfw3.1
          clear c2 e2 HR' hfw3
          go_wp2_with (go_at_call 135; ((with_reducible refine (CF.out _ (H.out.kept Qz)).mono ?_); rintro e w' ⟨rfl, hp, q⟩; have pw := (Par.lt hp).1; replace R : Hid (Bx w' w.heap.size exZ 31) := Lib.hid (Bx.px Rz q (by omega)); replace K : Hid (KidsB w' (fun b => w.heap.size < b ∧ b ≠ w1.heap.size) la lc x.ks) := Lib.hid (KidsB.px (by repeat (first | exact K.out | refine KidsB.alloc ?_ _ | refine KidsB.drew ?_)) (fun b hb => by omega) q); replace X : Hid (Bx w' w1.heap.size #[.int .i64 x.op, .int .i64 x.n, .slice la x.ks.length lc] 31) := Lib.hid (Bx.px (by repeat (first | exact X.out | refine Bx.alloc ?_ _ | refine Bx.drew ?_)) q (by omega)); have z0 := X.out.cell' 0 _ rfl; have z1 := X.out.cell' 1 _ rfl; have z2 := X.out.cell' 2 _ rfl; have t0 := X.out.free 0; have t1 := X.out.free 1; have t2 := X.out.free 2; replace H := Lib.hid hp; clear hp; replace q0 : Hid (Px P w w') := Lib.hid (Px.trans Pz q); clear q))
          go_region_with (first | (go_at_call 136; ((with_reducible refine (C2.out _ (H.out.kept Qz)).mono ?_); rintro e w' ⟨kb, kd, rfl, k, hp, q⟩; have pw := (Par.lt hp).1; have xl := Bx.lt (by repeat (first | exact X.out | refine Bx.alloc ?_ _ | refine Bx.drew ?_)); have L : Hid (KidsB w' (fun b => w.heap.size < b ∧ b ≠ w1.heap.size) kb kd (Sy.Ex.ks y)) := Lib.hid (KidsB.mono k (fun b hb => ⟨Nat.lt_of_lt_of_le xw (Nat.le_of_lt (Nat.lt_of_lt_of_le xl hb)), Nat.ne_of_gt (Nat.lt_of_lt_of_le xl hb)⟩)); clear k; replace R : Hid (Bx w' w.heap.size exZ 31) := Lib.hid (Bx.px Rz q (by omega)); replace K : Hid (KidsB w' (fun b => w.heap.size < b ∧ b ≠ w1.heap.size) la lc x.ks) := Lib.hid (KidsB.px (by repeat (first | exact K.out | refine KidsB.alloc ?_ _ | refine KidsB.drew ?_)) (fun b hb => by omega) q); replace X : Hid (Bx w' w1.heap.size #[.int .i64 x.op, .int .i64 x.n, .slice la x.ks.length lc] 31) := Lib.hid (Bx.px (by repeat (first | exact X.out | refine Bx.alloc ?_ _ | refine Bx.drew ?_)) q (by omega)); have z0 := X.out.cell' 0 _ rfl; have z1 := X.out.cell' 1 _ rfl; have z2 := X.out.cell' 2 _ rfl; have t0 := X.out.free 0; have t1 := X.out.free 1; have t2 := X.out.free 2; replace H := Lib.hid hp; clear hp; replace q0 : Hid (Px P w w') := Lib.hid (Px.trans Pz q); clear q)) | (go_at_call 124; ((with_reducible refine (syNode _ _ _ _ _).mono ?_); rintro e w' ⟨rfl, q⟩; have xl := Bx.lt (by repeat (first | exact X.out | refine Bx.alloc ?_ _ | refine Bx.drew ?_)); have G := Bx.kept (Bx.new _ _ _) q; have K2 : Hid (KidsB w' (fun b => w.heap.size < b ∧ b ≠ w1.heap.size) _ 2 [x, y]) := Lib.hid (KidsB.two G (And.intro (Nat.lt_trans xw (Bx.lt X.out)) (Nat.ne_of_gt (Bx.lt X.out))) (KidsB.kept (by repeat (first | exact K.out | refine KidsB.alloc ?_ _ | refine KidsB.drew ?_)) q) (KidsB.kept (by repeat (first | exact L.out | refine KidsB.alloc ?_ _ | refine KidsB.drew ?_)) q)); clear G; replace R : Hid (Bx w' w.heap.size exZ 31) := Lib.hid (Bx.kept Rz q); replace X : Hid (Bx w' w1.heap.size #[.int .i64 x.op, .int .i64 x.n, .slice la x.ks.length lc] 31) := Lib.hid (Bx.kept (by repeat (first | exact X.out | refine Bx.alloc ?_ _ | refine Bx.drew ?_)) q); have z0 := X.out.cell' 0 _ rfl; have z1 := X.out.cell' 1 _ rfl; have z2 := X.out.cell' 2 _ rfl; have t0 := X.out.free 0; have t1 := X.out.free 1; have t2 := X.out.free 2; replace H := Lib.hid (Par.kept H.out (Qw.trans Qz q)); replace q0 : Hid (Px P w w') := Lib.hid (Px.trans Pz (Px.of q)); clear q)))
          all_goals go_wp2_with fail
          all_goals go_roundg g
          all_goals (first | (case measure => exact Nat.lt_succ_self g) | skip)
          all_goals exact ⟨Sy.bin o x y, m, _, 2, hm2, by omega, by omega, HR, Lib.hid (((R.out.other (by show w.heap.size ≠ w1.heap.size; omega) _).other (by show w.heap.size ≠ w1.heap.size; omega) _).other (by show w.heap.size ≠ w1.heap.size; omega) _), Lib.hid (((X.out.set 0 _).set 1 _).set 2 _), Lib.hid (((K2.out.set (fun h => h.2 rfl) _).set (fun h => h.2 rfl) _).set (fun h => h.2 rfl) _), Lib.hid (((H.out.other (b := w1.heap.size) (by omega) (by omega) _ _).other (by omega) (by omega) _ _).other (by omega) (by omega) _ _), Lib.hid (((q0.out.setNew (by show w.heap.size ≤ w1.heap.size; omega) _).setNew (by show w.heap.size ≤ w1.heap.size; omega) _).setNew (by show w.heap.size ≤ w1.heap.size; omega) _)⟩
end Go.Proofs.YtciglhecjkeogaaGreatDoor

