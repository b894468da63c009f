import Derived.Test.YtciglhecjkeogaaGreatDoorZTX13
set_option linter.unusedVariables false
set_option linter.unusedSimpArgs false
namespace Go.Proofs.YtciglhecjkeogaaGreatDoor
open Go.RowKit
set_option maxRecDepth 100000 in
set_option maxHeartbeats 4000000 in
theorem sy_unary {P : Nat} {a : Option Addr} {cap : Nat} {ts : List Lx.Tok} {len f : Nat} (A : SyAll P a cap ts len f) (i : Nat) (w : World) (h : Par w P a cap ts len i) (hf : Sy.need ts.length i 5 ≤ f + 1) :
    Calls Tryz.prog 151 #[.pointer (some ⟨P, 0, none⟩)] w (PR P a cap ts len w (Sy.pE ts (f + 1) 5 i)) := by
  obtain ⟨hP, hO⟩ := h.lt
  have hle := h.le
  have H := Lib.hid h
  clear h
  have R : Hid (Bx (w.alloc (.cells exZ 31)) w.heap.size exZ 31) := Lib.hid (Bx.new w _ _)
  unfold Sy.need at hf
  rw [Sy.pE, if_pos rfl]
  by_cases hx : Sy.tx ts i = [45]
  · rw [if_pos hx]
    have hi := Sy.tx_lt hx (by decide)
    have x1 : Hid ((⟨#[45]⟩ : ByteArray) = bs (Sy.tx ts i)) := Lib.hid (by rw [hx]; rfl)
    have x2 : Hid (Sy.tx ts i ≠ []) := Lib.hid (by rw [hx]; decide)
    have c1 : ∀ w, Par w P a cap ts len (i + 1) → Calls Tryz.prog 151 #[.pointer (some ⟨P, 0, none⟩)] w (PR P a cap ts len w (Sy.pE ts f 5 (i + 1))) := fun w h => A.e 5 (i + 1) w (by omega) h (by unfold Sy.need; omega)
    clear hx
    cases e1 : Sy.pE ts f 5 (i + 1) with
    | bad j =>
      rw [e1] at c1
      have C1 := Lib.hid c1
      clear c1 e1
      have q0 : Hid (Px P w w) := Lib.hid (Px.refl P w)
      go_enter Tryz.func151, Tryz.ntmps151
      go_wp2_with (first | (go_at_call 40; ((with_reducible refine (syAcceptY (H.out.kept Qz) _ x1.out x2.out).mono ?_); rintro e w' ⟨rfl, hp, q⟩; have pw := (Par.lt hp).1; skip; replace H := Lib.hid hp; clear hp; replace q0 : Hid (Px P w w') := Lib.hid (Px.trans Pz q); clear q)) | (go_at_call 151; ((with_reducible refine (C1.out _ (H.out.kept Qz)).mono ?_); rintro e w' ⟨rfl, q⟩; replace q0 : Hid (Px P w w') := Lib.hid (Px.trans Pz q); clear q)))
      exact ⟨rfl, rfl, q0.out⟩
    | ok x j =>
      rw [e1] at c1
      have C1 := Lib.hid c1
      clear c1 e1
      have q0 : Hid (Px P w w) := Lib.hid (Px.refl P w)
      go_enter Tryz.func151, Tryz.ntmps151
      go_wp2_with (first | (go_at_call 40; ((with_reducible refine (syAcceptY (H.out.kept Qz) _ x1.out x2.out).mono ?_); rintro e w' ⟨rfl, hp, q⟩; have pw := (Par.lt hp).1; replace R : Hid (Bx w' w.heap.size exZ 31) := Lib.hid (Bx.px Rz q (by omega)); replace H := Lib.hid hp; clear hp; replace q0 : Hid (Px P w w') := Lib.hid (Px.trans Pz q); clear q)) | (go_at_call 151; ((with_reducible refine (C1.out _ (H.out.kept Qz)).mono ?_); rintro e w' ⟨ka, kc, rfl, k, hp, q⟩; have pw := (Par.lt hp).1; have K : Hid (KidsB w' (fun b => w.heap.size < b) ka kc (Sy.Ex.ks x)) := Lib.hid (KidsB.mono k (fun b hb => Nat.lt_of_lt_of_le (Bx.lt Rz) hb)); clear k; replace R : Hid (Bx w' w.heap.size exZ 31) := Lib.hid (Bx.px Rz q (by omega)); replace H := Lib.hid hp; clear hp; replace q0 : Hid (Px P w w') := Lib.hid (Px.trans Pz q); clear q)) | (go_at_call 124; ((with_reducible refine (syNode _ _ _ _ _).mono ?_); rintro e w' ⟨rfl, q⟩; have G := Bx.kept (Bx.new _ _ _) q; have K2 : Hid (KidsB w' (fun b => w.heap.size < b) _ 1 [x]) := Lib.hid (KidsB.one G (Bx.lt Rz) (KidsB.kept (by repeat (first | exact K.out | refine KidsB.alloc ?_ _ | refine KidsB.drew ?_)) q)); clear G; replace R : Hid (Bx w' w.heap.size exZ 31) := Lib.hid (Bx.kept Rz q); have rl := R.out.lt; have r0 := R.out.cell' 0 _ rfl; have r1 := R.out.cell' 1 _ rfl; have r2 := R.out.cell' 2 _ rfl; have s0 := R.out.free 0; have s1 := R.out.free 1; have s2 := R.out.free 2; replace H := Lib.hid (Par.kept H.out (Qw.trans Qz q)); replace q0 : Hid (Px P w w') := Lib.hid (Px.trans Pz (Px.of q)); clear q)))
      exact exRet (x := Sy.un 2 x) Tryz.results151 rfl rfl (exEnd (x := Sy.un 2 x) hP hO rfl rfl rfl R.out K2.out H.out q0.out)
  · rw [if_neg hx]
    have x1 : Hid ((⟨#[45]⟩ : ByteArray) ≠ bs (Sy.tx ts i)) := Lib.hid (fun h => hx (bs_inj.1 (show bs [45] = _ from h)).symm)
    clear hx
    by_cases hx : Sy.tx ts i = [43]
    · rw [if_pos hx]
      have hi := Sy.tx_lt hx (by decide)
      have y1 : Hid ((⟨#[43]⟩ : ByteArray) = bs (Sy.tx ts i)) := Lib.hid (by rw [hx]; rfl)
      have y2 : Hid (Sy.tx ts i ≠ []) := Lib.hid (by rw [hx]; decide)
      have c1 : ∀ w, Par w P a cap ts len (i + 1) → Calls Tryz.prog 151 #[.pointer (some ⟨P, 0, none⟩)] w (PR P a cap ts len w (Sy.pE ts f 5 (i + 1))) := fun w h => A.e 5 (i + 1) w (by omega) h (by unfold Sy.need; omega)
      clear hx
      cases e1 : Sy.pE ts f 5 (i + 1) with
      | bad j =>
        rw [e1] at c1
        have C1 := Lib.hid c1
        clear c1 e1
        have q0 : Hid (Px P w w) := Lib.hid (Px.refl P w)
        go_enter Tryz.func151, Tryz.ntmps151
        go_wp2_with (first | (go_at_call 40; ((with_reducible refine (syAcceptN (H.out.kept Qz) _ x1.out).mono ?_); rintro e w' ⟨rfl, q⟩; skip; replace H := Lib.hid (Par.kept H.out (Qw.trans Qz q)); replace q0 : Hid (Px P w w') := Lib.hid (Px.trans Pz (Px.of q)); clear q)) | (go_at_call 40; ((with_reducible refine (syAcceptY (H.out.kept Qz) _ y1.out y2.out).mono ?_); rintro e w' ⟨rfl, hp, q⟩; have pw := (Par.lt hp).1; skip; replace H := Lib.hid hp; clear hp; replace q0 : Hid (Px P w w') := Lib.hid (Px.trans Pz q); clear q)) | (go_at_call 151; ((with_reducible refine (C1.out _ (H.out.kept Qz)).mono ?_); rintro e w' ⟨rfl, q⟩; replace q0 : Hid (Px P w w') := Lib.hid (Px.trans Pz q); clear q)))
        exact ⟨rfl, rfl, q0.out⟩
      | ok x j =>
        rw [e1] at c1
        have C1 := Lib.hid c1
        clear c1 e1
        have q0 : Hid (Px P w w) := Lib.hid (Px.refl P w)
        go_enter Tryz.func151, Tryz.ntmps151
        go_wp2_with (first | (go_at_call 40; ((with_reducible refine (syAcceptN (H.out.kept Qz) _ x1.out).mono ?_); rintro e w' ⟨rfl, q⟩; replace R : Hid (Bx w' w.heap.size exZ 31) := Lib.hid (Bx.kept Rz q); replace H := Lib.hid (Par.kept H.out (Qw.trans Qz q)); replace q0 : Hid (Px P w w') := Lib.hid (Px.trans Pz (Px.of q)); clear q)) | (go_at_call 40; ((with_reducible refine (syAcceptY (H.out.kept Qz) _ y1.out y2.out).mono ?_); rintro e w' ⟨rfl, hp, q⟩; have pw := (Par.lt hp).1; replace R : Hid (Bx w' w.heap.size exZ 31) := Lib.hid (Bx.px Rz q (by omega)); replace H := Lib.hid hp; clear hp; replace q0 : Hid (Px P w w') := Lib.hid (Px.trans Pz q); clear q)) | (go_at_call 151; ((with_reducible refine (C1.out _ (H.out.kept Qz)).mono ?_); rintro e w' ⟨ka, kc, rfl, k, hp, q⟩; have pw := (Par.lt hp).1; have K : Hid (KidsB w' (fun b => w.heap.size < b) ka kc (Sy.Ex.ks x)) := Lib.hid (KidsB.mono k (fun b hb => Nat.lt_of_lt_of_le (Bx.lt Rz) hb)); clear k; replace R : Hid (Bx w' w.heap.size exZ 31) := Lib.hid (Bx.px Rz q (by omega)); have rl := R.out.lt; have r0 := R.out.cell' 0 _ rfl; have r1 := R.out.cell' 1 _ rfl; have r2 := R.out.cell' 2 _ rfl; have s0 := R.out.free 0; have s1 := R.out.free 1; have s2 := R.out.free 2; replace H := Lib.hid hp; clear hp; replace q0 : Hid (Px P w w') := Lib.hid (Px.trans Pz q); clear q)))
        exact exRet (x := x) Tryz.results151 rfl rfl (exEnd (x := x) hP hO rfl rfl rfl R.out K.out H.out q0.out)
    · rw [if_neg hx]
      have y1 : Hid ((⟨#[43]⟩ : ByteArray) ≠ bs (Sy.tx ts i)) := Lib.hid (fun h => hx (bs_inj.1 (show bs [43] = _ from h)).symm)
      have c1 : ∀ w, Par w P a cap ts len i → Calls Tryz.prog 154 #[.pointer (some ⟨P, 0, none⟩)] w (PR P a cap ts len w (Sy.pP ts f i)) := fun w h => A.p i w h (by omega)
      clear hx
      cases e1 : Sy.pP ts f i with
      | bad j =>
        rw [e1] at c1
        have C1 := Lib.hid c1
        clear c1 e1
        have q0 : Hid (Px P w w) := Lib.hid (Px.refl P w)
        go_enter Tryz.func151, Tryz.ntmps151
        go_wp2_with (first | (go_at_call 40; ((with_reducible refine (syAcceptN (H.out.kept Qz) _ x1.out).mono ?_); rintro e w' ⟨rfl, q⟩; skip; replace H := Lib.hid (Par.kept H.out (Qw.trans Qz q)); replace q0 : Hid (Px P w w') := Lib.hid (Px.trans Pz (Px.of q)); clear q)) | (go_at_call 40; ((with_reducible refine (syAcceptN (H.out.kept Qz) _ y1.out).mono ?_); rintro e w' ⟨rfl, q⟩; skip; replace H := Lib.hid (Par.kept H.out (Qw.trans Qz q)); replace q0 : Hid (Px P w w') := Lib.hid (Px.trans Pz (Px.of q)); clear q)) | (go_at_call 154; ((with_reducible refine (C1.out _ (H.out.kept Qz)).mono ?_); rintro e w' ⟨rfl, q⟩; replace q0 : Hid (Px P w w') := Lib.hid (Px.trans Pz q); clear q)))
        exact ⟨rfl, rfl, q0.out⟩
      | ok x j =>
        rw [e1] at c1
        have C1 := Lib.hid c1
        clear c1 e1
        have q0 : Hid (Px P w w) := Lib.hid (Px.refl P w)
        go_enter Tryz.func151, Tryz.ntmps151
        go_wp2_with (first | (go_at_call 40; ((with_reducible refine (syAcceptN (H.out.kept Qz) _ x1.out).mono ?_); rintro e w' ⟨rfl, q⟩; replace R : Hid (Bx w' w.heap.size exZ 31) := Lib.hid (Bx.kept Rz q); replace H := Lib.hid (Par.kept H.out (Qw.trans Qz q)); replace q0 : Hid (Px P w w') := Lib.hid (Px.trans Pz (Px.of q)); clear q)) | (go_at_call 40; ((with_reducible refine (syAcceptN (H.out.kept Qz) _ y1.out).mono ?_); rintro e w' ⟨rfl, q⟩; replace R : Hid (Bx w' w.heap.size exZ 31) := Lib.hid (Bx.kept Rz q); replace H := Lib.hid (Par.kept H.out (Qw.trans Qz q)); replace q0 : Hid (Px P w w') := Lib.hid (Px.trans Pz (Px.of q)); clear q)) | (go_at_call 154; ((with_reducible refine (C1.out _ (H.out.kept Qz)).mono ?_); rintro e w' ⟨ka, kc, rfl, k, hp, q⟩; have pw := (Par.lt hp).1; have K : Hid (KidsB w' (fun b => w.heap.size < b) ka kc (Sy.Ex.ks x)) := Lib.hid (KidsB.mono k (fun b hb => Nat.lt_of_lt_of_le (Bx.lt Rz) hb)); clear k; replace R : Hid (Bx w' w.heap.size exZ 31) := Lib.hid (Bx.px Rz q (by omega)); have rl := R.out.lt; have r0 := R.out.cell' 0 _ rfl; have r1 := R.out.cell' 1 _ rfl; have r2 := R.out.cell' 2 _ rfl; have s0 := R.out.free 0; have s1 := R.out.free 1; have s2 := R.out.free 2; replace H := Lib.hid hp; clear hp; replace q0 : Hid (Px P w w') := Lib.hid (Px.trans Pz q); clear q)))
        exact exRet (x := x) Tryz.results151 rfl rfl (exEnd (x := x) hP hO rfl rfl rfl R.out K.out H.out q0.out)
end Go.Proofs.YtciglhecjkeogaaGreatDoor
set_option linter.unusedVariables false
set_option linter.unusedSimpArgs false
namespace Go.Proofs.YtciglhecjkeogaaGreatDoor
open Go.RowKit
set_option maxRecDepth 100000 in
set_option maxHeartbeats 4000000 in
theorem sy_primary {P : Nat} {a : Option Addr} {cap : Nat} {ts : List Lx.Tok} {len f : Nat} (A : SyAll P a cap ts len f) (i : Nat) (w : World) (h : Par w P a cap ts len i) (hf : 16 * (ts.length - i) + 3 ≤ f + 1) :
    Calls Tryz.prog 154 #[.pointer (some ⟨P, 0, none⟩)] w (PR P a cap ts len w (Sy.pP ts (f + 1) i)) := by
  obtain ⟨hP, hO⟩ := h.lt
  have hle := h.le
  have H := Lib.hid h
  clear h
  have R : Hid (Bx (w.alloc (.cells exZ 31)) w.heap.size exZ 31) := Lib.hid (Bx.new w _ _)
  rw [Sy.pP]
  by_cases hx : Sy.tx ts i = [65, 84, 65, 78]
  · rw [if_pos hx]
    have hi := Sy.tx_lt hx (by decide)
    have x1 : Hid ((⟨#[65, 84, 65, 78]⟩ : ByteArray) = bs (Sy.tx ts i)) := Lib.hid (by rw [hx]; rfl)
    have x2 : Hid (Sy.tx ts i ≠ []) := Lib.hid (by rw [hx]; decide)
    have c1 : ∀ w, Par w P a cap ts len (i + 1) → Calls Tryz.prog 107 #[.pointer (some ⟨P, 0, none⟩)] w (PR P a cap ts len w (Sy.pB ts f (i + 1))) := fun w h => A.b (i + 1) w h (by omega)
    clear hx
    have hfw := (Sy.fwd ts f).b (i + 1) hi
    cases e1x : Sy.pB ts f (i + 1) with
    | bad j =>
      rw [e1x] at c1
      have C1 := Lib.hid c1
      clear c1
      have q0 : Hid (Px P w w) := Lib.hid (Px.refl P w)
      go_enter Tryz.func154, Tryz.ntmps154
      go_wp2_with (first | (go_at_call 40; ((with_reducible refine (syAcceptY (H.out.kept Qz) _ x1.out x2.out).mono ?_); rintro e w' ⟨rfl, hp, q⟩; have pw := (Par.lt hp).1; skip; replace H := Lib.hid hp; clear hp; replace q0 : Hid (Px P w w') := Lib.hid (Px.trans Pz q); clear q)) | (go_at_call 107; ((with_reducible refine (C1.out _ (H.out.kept Qz)).mono ?_); rintro e w' ⟨rfl, q⟩; replace q0 : Hid (Px P w w') := Lib.hid (Px.trans Pz q); clear q)))
      exact ⟨rfl, rfl, q0.out⟩
    | ok x j =>
      rw [e1x] at c1
      have C1 := Lib.hid c1
      clear c1
      rw [e1x] at hfw
      have hfw2 : j ≤ ts.length := hfw.2
      have hfw1 : i + 1 < j := hfw.1
      clear hfw
      simp only
      by_cases hx : Sy.tx ts j = [47]
      · rw [if_pos hx]
        have hj := Sy.tx_lt hx (by decide)
        have y1 : Hid ((⟨#[47]⟩ : ByteArray) = bs (Sy.tx ts j)) := Lib.hid (by rw [hx]; rfl)
        have y2 : Hid (Sy.tx ts j ≠ []) := Lib.hid (by rw [hx]; decide)
        have c2 : ∀ w, Par w P a cap ts len (j + 1) → Calls Tryz.prog 107 #[.pointer (some ⟨P, 0, none⟩)] w (PR P a cap ts len w (Sy.pB ts f (j + 1))) := fun w h => A.b (j + 1) w h (by omega)
        clear hx
        cases e2 : Sy.pB ts f (j + 1) with
        | bad m =>
          rw [e2] at c2
          have C2 := Lib.hid c2
          clear c2 e2
          have q0 : Hid (Px P w w) := Lib.hid (Px.refl P w)
          go_enter Tryz.func154, Tryz.ntmps154
          go_wp2_with (first | (go_at_call 40; ((with_reducible refine (syAcceptY (H.out.kept Qz) _ x1.out x2.out).mono ?_); rintro e w' ⟨rfl, hp, q⟩; have pw := (Par.lt hp).1; replace R : Hid (Bx w' w.heap.size exZ 31) := Lib.hid (Bx.px Rz q (by omega)); replace H := Lib.hid hp; clear hp; replace q0 : Hid (Px P w w') := Lib.hid (Px.trans Pz q); clear q)) | (go_at_call 107; ((with_reducible refine (C1.out _ (H.out.kept Qz)).mono ?_); rintro e w' ⟨ka, kc, rfl, k, hp, q⟩; have pw := (Par.lt hp).1; have K : Hid (KidsB w' (fun b => w.heap.size < b) ka kc (Sy.Ex.ks x)) := Lib.hid (KidsB.mono k (fun b hb => Nat.lt_of_lt_of_le (Bx.lt Rz) hb)); clear k; replace R : Hid (Bx w' w.heap.size exZ 31) := Lib.hid (Bx.px Rz q (by omega)); have X : Hid (Bx (w'.alloc (.cells #[.int .i64 x.op, .int .i64 x.n, .slice ka x.ks.length kc] 31)) w'.heap.size _ _) := Lib.hid (Bx.new w' _ _); replace H := Lib.hid hp; clear hp; replace q0 : Hid (Px P w w') := Lib.hid (Px.trans Pz q); clear q)) | (go_at_call 104; ((with_reducible refine (syExpectY (H.out.kept Qz) _ y1.out y2.out).mono ?_); rintro e w' ⟨rfl, hp, q⟩; have pw := (Par.lt hp).1; replace R : Hid (Bx w' w.heap.size exZ 31) := Lib.hid (Bx.px Rz q (by omega)); replace K : Hid (KidsB w' (fun b => w.heap.size < b) ka kc x.ks) := Lib.hid (KidsB.px (by repeat (first | exact K.out | refine KidsB.alloc ?_ _ | refine KidsB.drew ?_)) (fun b hb => by omega) q); have xw := X.out.lt; replace X := Lib.hid (Bx.px (by repeat (first | exact X.out | refine Bx.alloc ?_ _ | refine Bx.drew ?_)) q (by omega)); have z0 := X.out.cell' 0 _ rfl; have z1 := X.out.cell' 1 _ rfl; have z2 := X.out.cell' 2 _ rfl; replace H := Lib.hid hp; clear hp; replace q0 : Hid (Px P w w') := Lib.hid (Px.trans Pz q); clear q)))
          go_region_with ((go_at_call 107; ((with_reducible refine (C2.out _ (H.out.kept Qz)).mono ?_); rintro e w' ⟨rfl, q⟩; replace q0 : Hid (Px P w w') := Lib.hid (Px.trans Pz q); clear q; refine dying (P := Tryz.prog) (w := w') ⟨rfl, rfl, q0.out⟩ ?_)))
          all_goals exact trivial
        | ok y m =>
          rw [e2] at c2
          have C2 := Lib.hid c2
          clear c2 e2
          have q0 : Hid (Px P w w) := Lib.hid (Px.refl P w)
          go_enter Tryz.func154, Tryz.ntmps154
          go_wp2_with (first | (go_at_call 40; ((with_reducible refine (syAcceptY (H.out.kept Qz) _ x1.out x2.out).mono ?_); rintro e w' ⟨rfl, hp, q⟩; have pw := (Par.lt hp).1; replace R : Hid (Bx w' w.heap.size exZ 31) := Lib.hid (Bx.px Rz q (by omega)); replace H := Lib.hid hp; clear hp; replace q0 : Hid (Px P w w') := Lib.hid (Px.trans Pz q); clear q)) | (go_at_call 107; ((with_reducible refine (C1.out _ (H.out.kept Qz)).mono ?_); rintro e w' ⟨ka, kc, rfl, k, hp, q⟩; have pw := (Par.lt hp).1; have K : Hid (KidsB w' (fun b => w.heap.size < b) ka kc (Sy.Ex.ks x)) := Lib.hid (KidsB.mono k (fun b hb => Nat.lt_of_lt_of_le (Bx.lt Rz) hb)); clear k; replace R : Hid (Bx w' w.heap.size exZ 31) := Lib.hid (Bx.px Rz q (by omega)); have X : Hid (Bx (w'.alloc (.cells #[.int .i64 x.op, .int .i64 x.n, .slice ka x.ks.length kc] 31)) w'.heap.size _ _) := Lib.hid (Bx.new w' _ _); replace H := Lib.hid hp; clear hp; replace q0 : Hid (Px P w w') := Lib.hid (Px.trans Pz q); clear q)) | (go_at_call 104; ((with_reducible refine (syExpectY (H.out.kept Qz) _ y1.out y2.out).mono ?_); rintro e w' ⟨rfl, hp, q⟩; have pw := (Par.lt hp).1; replace R : Hid (Bx w' w.heap.size exZ 31) := Lib.hid (Bx.px Rz q (by omega)); replace K : Hid (KidsB w' (fun b => w.heap.size < b) ka kc x.ks) := Lib.hid (KidsB.px (by repeat (first | exact K.out | refine KidsB.alloc ?_ _ | refine KidsB.drew ?_)) (fun b hb => by omega) q); have xw := X.out.lt; replace X := Lib.hid (Bx.px (by repeat (first | exact X.out | refine Bx.alloc ?_ _ | refine Bx.drew ?_)) q (by omega)); have z0 := X.out.cell' 0 _ rfl; have z1 := X.out.cell' 1 _ rfl; have z2 := X.out.cell' 2 _ rfl; replace H := Lib.hid hp; clear hp; replace q0 : Hid (Px P w w') := Lib.hid (Px.trans Pz q); clear q)))
          go_region_with (first | (go_at_call 107; ((with_reducible refine (C2.out _ (H.out.kept Qz)).mono ?_); rintro e w' ⟨kb, kd, rfl, k, hp, q⟩; have pw := (Par.lt hp).1; have L : Hid (KidsB w' (fun b => w.heap.size < b) kb kd (Sy.Ex.ks y)) := Lib.hid (KidsB.mono k (fun b hb => Nat.lt_of_lt_of_le (Bx.lt Rz) hb)); clear k; replace R : Hid (Bx w' w.heap.size exZ 31) := Lib.hid (Bx.px Rz q (by omega)); replace K : Hid (KidsB w' (fun b => w.heap.size < b) ka kc x.ks) := Lib.hid (KidsB.px (by repeat (first | exact K.out | refine KidsB.alloc ?_ _ | refine KidsB.drew ?_)) (fun b hb => by omega) q); have xw := X.out.lt; replace X := Lib.hid (Bx.px (by repeat (first | exact X.out | refine Bx.alloc ?_ _ | refine Bx.drew ?_)) q (by omega)); have z0 := X.out.cell' 0 _ rfl; have z1 := X.out.cell' 1 _ rfl; have z2 := X.out.cell' 2 _ rfl; replace H := Lib.hid hp; clear hp; replace q0 : Hid (Px P w w') := Lib.hid (Px.trans Pz q); clear q)) | (go_at_call 124; ((with_reducible refine (syNode _ _ _ _ _).mono ?_); rintro e w' ⟨rfl, q⟩; have G := Bx.kept (Bx.new _ _ _) q; have K2 : Hid (KidsB w' (fun b => w.heap.size < b) _ 2 [x, y]) := Lib.hid (KidsB.two G (Bx.lt Rz) (KidsB.kept (by repeat (first | exact K.out | refine KidsB.alloc ?_ _ | refine KidsB.drew ?_)) q) (KidsB.kept (by repeat (first | exact L.out | refine KidsB.alloc ?_ _ | refine KidsB.drew ?_)) q)); clear G; replace R : Hid (Bx w' w.heap.size exZ 31) := Lib.hid (Bx.kept Rz q); have rl := R.out.lt; have r0 := R.out.cell' 0 _ rfl; have r1 := R.out.cell' 1 _ rfl; have r2 := R.out.cell' 2 _ rfl; have s0 := R.out.free 0; have s1 := R.out.free 1; have s2 := R.out.free 2; replace H := Lib.hid (Par.kept H.out (Qw.trans Qz q)); replace q0 : Hid (Px P w w') := Lib.hid (Px.trans Pz (Px.of q)); clear q)))
          all_goals go_wp2_with fail
          all_goals exact exRet (x := Sy.bin 11 x y) Tryz.results154 rfl rfl (exEnd (x := Sy.bin 11 x y) hP hO rfl rfl rfl R.out K2.out H.out q0.out)
      · rw [if_neg hx]
        have y1 : Hid ((⟨#[47]⟩ : ByteArray) ≠ bs (Sy.tx ts j)) := Lib.hid (fun h => hx (bs_inj.1 (show bs [47] = _ from h)).symm)
        clear hx
        have q0 : Hid (Px P w w) := Lib.hid (Px.refl P w)
        go_enter Tryz.func154, Tryz.ntmps154
        go_wp2_with (first | (go_at_call 40; ((with_reducible refine (syAcceptY (H.out.kept Qz) _ x1.out x2.out).mono ?_); rintro e w' ⟨rfl, hp, q⟩; have pw := (Par.lt hp).1; replace R : Hid (Bx w' w.heap.size exZ 31) := Lib.hid (Bx.px Rz q (by omega)); replace H := Lib.hid hp; clear hp; replace q0 : Hid (Px P w w') := Lib.hid (Px.trans Pz q); clear q)) | (go_at_call 107; ((with_reducible refine (C1.out _ (H.out.kept Qz)).mono ?_); rintro e w' ⟨ka, kc, rfl, k, hp, q⟩; have pw := (Par.lt hp).1; have K : Hid (KidsB w' (fun b => w.heap.size < b) ka kc (Sy.Ex.ks x)) := Lib.hid (KidsB.mono k (fun b hb => Nat.lt_of_lt_of_le (Bx.lt Rz) hb)); clear k; replace R : Hid (Bx w' w.heap.size exZ 31) := Lib.hid (Bx.px Rz q (by omega)); replace H := Lib.hid hp; clear hp; replace q0 : Hid (Px P w w') := Lib.hid (Px.trans Pz q); clear q)) | (go_at_call 104; ((with_reducible refine (syExpectN (H.out.kept Qz) _ y1.out).mono ?_); rintro e w' ⟨rfl, q⟩; replace q0 : Hid (Px P w w') := Lib.hid (Px.trans Pz (Px.of q)); clear q)))
        exact ⟨rfl, rfl, q0.out⟩
  · rw [if_neg hx]
    have x1 : Hid ((⟨#[65, 84, 65, 78]⟩ : ByteArray) ≠ bs (Sy.tx ts i)) := Lib.hid (fun h => hx (bs_inj.1 (show bs [65, 84, 65, 78] = _ from h)).symm)
    clear hx
    have cf : ∀ w, Par w P a cap ts len i → Calls Tryz.prog 155 #[.pointer (some ⟨P, 0, none⟩)] w (PO P a cap ts len i w (Sy.fun1 (Sy.tx ts i))) := fun w h => syFunction h
    cases e0 : Sy.fun1 (Sy.tx ts i) with
    | some o =>
      have hi : i < ts.length := by
        rcases Nat.lt_or_ge i ts.length with g | g
        · exact g
        · exfalso; unfold Sy.tx at e0; rw [List.getElem?_eq_none g] at e0; cases (show Sy.fun1 [] = some o from e0)
      rw [e0] at cf
      have CF := Lib.hid cf
      clear cf e0
      simp only
      have c1 : ∀ w, Par w P a cap ts len (i + 1) → Calls Tryz.prog 107 #[.pointer (some ⟨P, 0, none⟩)] w (PR P a cap ts len w (Sy.pB ts f (i + 1))) := fun w h => A.b (i + 1) w h (by omega)
      cases e1 : Sy.pB ts f (i + 1) with
      | bad j =>
        rw [e1] at c1
        have C1 := Lib.hid c1
        clear c1 e1
        have q0 : Hid (Px P w w) := Lib.hid (Px.refl P w)
        go_enter Tryz.func154, Tryz.ntmps154
        go_wp2_with (first | (go_at_call 40; ((with_reducible refine (syAcceptN (H.out.kept Qz) _ x1.out).mono ?_); rintro e w' ⟨rfl, q⟩; skip; replace H := Lib.hid (Par.kept H.out (Qw.trans Qz q)); replace q0 : Hid (Px P w w') := Lib.hid (Px.trans Pz (Px.of q)); clear q)) | (go_at_call 155; ((with_reducible refine (CF.out _ (H.out.kept Qz)).mono ?_); rintro e w' ⟨rfl, hp, q⟩; have pw := (Par.lt hp).1; skip; replace H := Lib.hid hp; clear hp; replace q0 : Hid (Px P w w') := Lib.hid (Px.trans Pz q); clear q)) | (go_at_call 107; ((with_reducible refine (C1.out _ (H.out.kept Qz)).mono ?_); rintro e w' ⟨rfl, q⟩; replace q0 : Hid (Px P w w') := Lib.hid (Px.trans Pz q); clear q)))
        exact ⟨rfl, rfl, q0.out⟩
      | ok x j =>
        rw [e1] at c1
        have C1 := Lib.hid c1
        clear c1 e1
        have q0 : Hid (Px P w w) := Lib.hid (Px.refl P w)
        go_enter Tryz.func154, Tryz.ntmps154
        go_wp2_with (first | (go_at_call 40; ((with_reducible refine (syAcceptN (H.out.kept Qz) _ x1.out).mono ?_); rintro e w' ⟨rfl, q⟩; replace R : Hid (Bx w' w.heap.size exZ 31) := Lib.hid (Bx.kept Rz q); replace H := Lib.hid (Par.kept H.out (Qw.trans Qz q)); replace q0 : Hid (Px P w w') := Lib.hid (Px.trans Pz (Px.of q)); clear q)) | (go_at_call 155; ((with_reducible refine (CF.out _ (H.out.kept Qz)).mono ?_); rintro e w' ⟨rfl, hp, q⟩; have pw := (Par.lt hp).1; replace R : Hid (Bx w' w.heap.size exZ 31) := Lib.hid (Bx.px Rz q (by omega)); replace H := Lib.hid hp; clear hp; replace q0 : Hid (Px P w w') := Lib.hid (Px.trans Pz q); clear q)) | (go_at_call 107; ((with_reducible refine (C1.out _ (H.out.kept Qz)).mono ?_); rintro e w' ⟨ka, kc, rfl, k, hp, q⟩; have pw := (Par.lt hp).1; have K : Hid (KidsB w' (fun b => w.heap.size < b) ka kc (Sy.Ex.ks x)) := Lib.hid (KidsB.mono k (fun b hb => Nat.lt_of_lt_of_le (Bx.lt Rz) hb)); clear k; replace R : Hid (Bx w' w.heap.size exZ 31) := Lib.hid (Bx.px Rz q (by omega)); replace H := Lib.hid hp; clear hp; replace q0 : Hid (Px P w w') := Lib.hid (Px.trans Pz q); clear q)) | (go_at_call 124; ((with_reducible refine (syNode _ _ _ _ _).mono ?_); rintro e w' ⟨rfl, q⟩; have G := Bx.kept (Bx.new _ _ _) q; have K2 : Hid (KidsB w' (fun b => w.heap.size < b) _ 1 [x]) := Lib.hid (KidsB.one G (Bx.lt Rz) (KidsB.kept (by repeat (first | exact K.out | refine KidsB.alloc ?_ _ | refine KidsB.drew ?_)) q)); clear G; replace R : Hid (Bx w' w.heap.size exZ 31) := Lib.hid (Bx.kept Rz q); have rl := R.out.lt; have r0 := R.out.cell' 0 _ rfl; have r1 := R.out.cell' 1 _ rfl; have r2 := R.out.cell' 2 _ rfl; have s0 := R.out.free 0; have s1 := R.out.free 1; have s2 := R.out.free 2; replace H := Lib.hid (Par.kept H.out (Qw.trans Qz q)); replace q0 : Hid (Px P w w') := Lib.hid (Px.trans Pz (Px.of q)); clear q)))
        exact exRet (x := Sy.un o x) Tryz.results154 rfl rfl (exEnd (x := Sy.un o x) hP hO rfl rfl rfl R.out K2.out H.out q0.out)
    | none =>
      rw [e0] at cf
      have CF := Lib.hid cf
      clear cf e0
      simp only
      have c1 : ∀ w, Par w P a cap ts len i → Calls Tryz.prog 105 #[.pointer (some ⟨P, 0, none⟩)] w (PR P a cap ts len w (Sy.pC ts f i)) := fun w h => A.c i w h (by omega)
      cases e1 : Sy.pC ts f i with
      | bad j =>
        rw [e1] at c1
        have C1 := Lib.hid c1
        clear c1 e1
        have q0 : Hid (Px P w w) := Lib.hid (Px.refl P w)
        go_enter Tryz.func154, Tryz.ntmps154
        go_wp2_with (first | (go_at_call 40; ((with_reducible refine (syAcceptN (H.out.kept Qz) _ x1.out).mono ?_); rintro e w' ⟨rfl, q⟩; skip; replace H := Lib.hid (Par.kept H.out (Qw.trans Qz q)); replace q0 : Hid (Px P w w') := Lib.hid (Px.trans Pz (Px.of q)); clear q)) | (go_at_call 155; ((with_reducible refine (CF.out _ (H.out.kept Qz)).mono ?_); rintro e w' ⟨rfl, q⟩; skip; replace H := Lib.hid (Par.kept H.out (Qw.trans Qz q)); replace q0 : Hid (Px P w w') := Lib.hid (Px.trans Pz (Px.of q)); clear q)) | (go_at_call 105; ((with_reducible refine (C1.out _ (H.out.kept Qz)).mono ?_); rintro e w' ⟨rfl, q⟩; replace q0 : Hid (Px P w w') := Lib.hid (Px.trans Pz q); clear q)))
        exact ⟨rfl, rfl, q0.out⟩
      | ok x j =>
        rw [e1] at c1
        have C1 := Lib.hid c1
        clear c1 e1
        have q0 : Hid (Px P w w) := Lib.hid (Px.refl P w)
        go_enter Tryz.func154, Tryz.ntmps154
        go_wp2_with (first | (go_at_call 40; ((with_reducible refine (syAcceptN (H.out.kept Qz) _ x1.out).mono ?_); rintro e w' ⟨rfl, q⟩; replace R : Hid (Bx w' w.heap.size exZ 31) := Lib.hid (Bx.kept Rz q); replace H := Lib.hid (Par.kept H.out (Qw.trans Qz q)); replace q0 : Hid (Px P w w') := Lib.hid (Px.trans Pz (Px.of q)); clear q)) | (go_at_call 155; ((with_reducible refine (CF.out _ (H.out.kept Qz)).mono ?_); rintro e w' ⟨rfl, q⟩; replace R : Hid (Bx w' w.heap.size exZ 31) := Lib.hid (Bx.kept Rz q); replace H := Lib.hid (Par.kept H.out (Qw.trans Qz q)); replace q0 : Hid (Px P w w') := Lib.hid (Px.trans Pz (Px.of q)); clear q)) | (go_at_call 105; ((with_reducible refine (C1.out _ (H.out.kept Qz)).mono ?_); rintro e w' ⟨ka, kc, rfl, k, hp, q⟩; have pw := (Par.lt hp).1; have K : Hid (KidsB w' (fun b => w.heap.size < b) ka kc (Sy.Ex.ks x)) := Lib.hid (KidsB.mono k (fun b hb => Nat.lt_of_lt_of_le (Bx.lt Rz) hb)); clear k; replace R : Hid (Bx w' w.heap.size exZ 31) := Lib.hid (Bx.px Rz q (by omega)); have rl := R.out.lt; have r0 := R.out.cell' 0 _ rfl; have r1 := R.out.cell' 1 _ rfl; have r2 := R.out.cell' 2 _ rfl; have s0 := R.out.free 0; have s1 := R.out.free 1; have s2 := R.out.free 2; replace H := Lib.hid hp; clear hp; replace q0 : Hid (Px P w w') := Lib.hid (Px.trans Pz q); clear q)))
        exact exRet (x := x) Tryz.results154 rfl rfl (exEnd (x := x) hP hO rfl rfl rfl R.out K.out H.out q0.out)
end Go.Proofs.YtciglhecjkeogaaGreatDoor

