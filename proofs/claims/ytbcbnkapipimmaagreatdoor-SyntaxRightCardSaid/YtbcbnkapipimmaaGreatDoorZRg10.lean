import Derived.Test.YtbcbnkapipimmaaGreatDoorZRg6
import Derived.Test.YtbcbnkapipimmaaGreatDoorZRg7
import Derived.Test.YtbcbnkapipimmaaGreatDoorZRg8
import Derived.Test.YtbcbnkapipimmaaGreatDoorZRg9
set_option linter.unusedVariables false
set_option linter.unusedSimpArgs false
namespace Go.Proofs.YtbcbnkapipimmaaGreatDoor
open Go.RowKit
set_option maxRecDepth 100000 in
set_option maxHeartbeats 4000000 in
theorem sy_or {P : Nat} {a : Option Addr} {cap : Nat} {ts : List Lx.Tok} {len f : Nat} (AA : ∀ g, g ≤ f → SyAll P a cap ts len g) (i : Nat) (w : World) (h : Par w P a cap ts len i) (hf : Sy.need ts.length i 0 ≤ f + 1) :
    Calls Tryz.prog 146 #[.pointer (some ⟨P, 0, none⟩)] w (PR P a cap ts len w (Sy.pE ts (f + 1) 0 i)) := by
  obtain ⟨hP, hO⟩ := h.lt
  have H := Lib.hid h
  clear h
  have R : Hid (Bx (w.alloc (.cells exZ 27)) w.heap.size exZ 27) := Lib.hid (Bx.new w _ _)
  have c1 : ∀ w, Par w P a cap ts len i → Calls Tryz.prog 168 #[.pointer (some ⟨P, 0, none⟩), .int .i64 24, .int .i64 25, .func (.func 169) #[.pointer (some ⟨P, 0, none⟩)] #[]] w (PR P a cap ts len w (Sy.pE ts (f + 1) 0 i)) := fun w h => sy_chain0 AA i w h hf
  clear AA hf
  cases e1 : Sy.pE ts (f + 1) 0 i with
  | bad j =>
    rw [e1] at c1
    have C1 := Lib.hid c1
    clear c1 e1
    have q0 : Hid (Px P w w) := Lib.hid (Px.refl P w)
    go_enter Tryz.func146, Tryz.ntmps146
    go_wp2_with (go_at_call 168; ((with_reducible refine (C1.out _ (H.out.kept Qz)).mono ?_); rintro e w' ⟨rfl, q⟩; replace q0 : Hid (Px P w w') := Lib.hid (Px.trans Pz q); clear q))
    exact ⟨rfl, rfl, q0.out⟩
  | ok x j =>
    rw [e1] at c1
    have C1 := Lib.hid c1
    clear c1 e1
    have q0 : Hid (Px P w w) := Lib.hid (Px.refl P w)
    go_enter Tryz.func146, Tryz.ntmps146
    go_wp2_with (go_at_call 168; ((with_reducible refine (C1.out _ (H.out.kept Qz)).mono ?_); rintro e w' ⟨ka, kc, rfl, k, hp, q⟩; have pw := (Par.lt hp).1; have K : Hid (KidsB w' (fun b => w.heap.size < b) ka kc (Sy.Ex.ks x)) := Lib.hid (KidsB.mono k (fun b hb => Nat.lt_of_lt_of_le (Bx.lt Rz) hb)); clear k; replace R : Hid (Bx w' w.heap.size exZ 27) := Lib.hid (Bx.px Rz q (by omega)); have rl := R.out.lt; have r0 := R.out.cell' 0 _ rfl; have r1 := R.out.cell' 1 _ rfl; have r2 := R.out.cell' 2 _ rfl; have s0 := R.out.free 0; have s1 := R.out.free 1; have s2 := R.out.free 2; replace H := Lib.hid hp; clear hp; replace q0 : Hid (Px P w w') := Lib.hid (Px.trans Pz q); clear q))
    exact exRet (x := x) Tryz.results146 rfl rfl (exEnd (x := x) hP hO rfl rfl rfl R.out K.out H.out q0.out)
set_option maxRecDepth 100000 in
set_option maxHeartbeats 4000000 in
theorem sy_and {P : Nat} {a : Option Addr} {cap : Nat} {ts : List Lx.Tok} {len f : Nat} (AA : ∀ g, g ≤ f → SyAll P a cap ts len g) (i : Nat) (w : World) (h : Par w P a cap ts len i) (hf : Sy.need ts.length i 1 ≤ f + 1) :
    Calls Tryz.prog 169 #[.pointer (some ⟨P, 0, none⟩)] w (PR P a cap ts len w (Sy.pE ts (f + 1) 1 i)) := by
  obtain ⟨hP, hO⟩ := h.lt
  have H := Lib.hid h
  clear h
  have R : Hid (Bx (w.alloc (.cells exZ 27)) w.heap.size exZ 27) := Lib.hid (Bx.new w _ _)
  have c1 : ∀ w, Par w P a cap ts len i → Calls Tryz.prog 168 #[.pointer (some ⟨P, 0, none⟩), .int .i64 23, .int .i64 23, .func (.func 181) #[.pointer (some ⟨P, 0, none⟩)] #[]] w (PR P a cap ts len w (Sy.pE ts (f + 1) 1 i)) := fun w h => sy_chain1 AA i w h hf
  clear AA hf
  cases e1 : Sy.pE ts (f + 1) 1 i with
  | bad j =>
    rw [e1] at c1
    have C1 := Lib.hid c1
    clear c1 e1
    have q0 : Hid (Px P w w) := Lib.hid (Px.refl P w)
    go_enter Tryz.func169, Tryz.ntmps169
    go_wp2_with (go_at_call 168; ((with_reducible refine (C1.out _ (H.out.kept Qz)).mono ?_); rintro e w' ⟨rfl, q⟩; replace q0 : Hid (Px P w w') := Lib.hid (Px.trans Pz q); clear q))
    exact ⟨rfl, rfl, q0.out⟩
  | ok x j =>
    rw [e1] at c1
    have C1 := Lib.hid c1
    clear c1 e1
    have q0 : Hid (Px P w w) := Lib.hid (Px.refl P w)
    go_enter Tryz.func169, Tryz.ntmps169
    go_wp2_with (go_at_call 168; ((with_reducible refine (C1.out _ (H.out.kept Qz)).mono ?_); rintro e w' ⟨ka, kc, rfl, k, hp, q⟩; have pw := (Par.lt hp).1; have K : Hid (KidsB w' (fun b => w.heap.size < b) ka kc (Sy.Ex.ks x)) := Lib.hid (KidsB.mono k (fun b hb => Nat.lt_of_lt_of_le (Bx.lt Rz) hb)); clear k; replace R : Hid (Bx w' w.heap.size exZ 27) := Lib.hid (Bx.px Rz q (by omega)); have rl := R.out.lt; have r0 := R.out.cell' 0 _ rfl; have r1 := R.out.cell' 1 _ rfl; have r2 := R.out.cell' 2 _ rfl; have s0 := R.out.free 0; have s1 := R.out.free 1; have s2 := R.out.free 2; replace H := Lib.hid hp; clear hp; replace q0 : Hid (Px P w w') := Lib.hid (Px.trans Pz q); clear q))
    exact exRet (x := x) Tryz.results169 rfl rfl (exEnd (x := x) hP hO rfl rfl rfl R.out K.out H.out q0.out)
set_option maxRecDepth 100000 in
set_option maxHeartbeats 4000000 in
theorem sy_sum {P : Nat} {a : Option Addr} {cap : Nat} {ts : List Lx.Tok} {len f : Nat} (AA : ∀ g, g ≤ f → SyAll P a cap ts len g) (i : Nat) (w : World) (h : Par w P a cap ts len i) (hf : Sy.need ts.length i 3 ≤ f + 1) :
    Calls Tryz.prog 187 #[.pointer (some ⟨P, 0, none⟩)] w (PR P a cap ts len w (Sy.pE ts (f + 1) 3 i)) := by
  obtain ⟨hP, hO⟩ := h.lt
  have H := Lib.hid h
  clear h
  have R : Hid (Bx (w.alloc (.cells exZ 27)) w.heap.size exZ 27) := Lib.hid (Bx.new w _ _)
  have c1 : ∀ w, Par w P a cap ts len i → Calls Tryz.prog 168 #[.pointer (some ⟨P, 0, none⟩), .int .i64 3, .int .i64 4, .func (.func 188) #[.pointer (some ⟨P, 0, none⟩)] #[]] w (PR P a cap ts len w (Sy.pE ts (f + 1) 3 i)) := fun w h => sy_chain3 AA i w h hf
  clear AA hf
  cases e1 : Sy.pE ts (f + 1) 3 i with
  | bad j =>
    rw [e1] at c1
    have C1 := Lib.hid c1
    clear c1 e1
    have q0 : Hid (Px P w w) := Lib.hid (Px.refl P w)
    go_enter Tryz.func187, Tryz.ntmps187
    go_wp2_with (go_at_call 168; ((with_reducible refine (C1.out _ (H.out.kept Qz)).mono ?_); rintro e w' ⟨rfl, q⟩; replace q0 : Hid (Px P w w') := Lib.hid (Px.trans Pz q); clear q))
    exact ⟨rfl, rfl, q0.out⟩
  | ok x j =>
    rw [e1] at c1
    have C1 := Lib.hid c1
    clear c1 e1
    have q0 : Hid (Px P w w) := Lib.hid (Px.refl P w)
    go_enter Tryz.func187, Tryz.ntmps187
    go_wp2_with (go_at_call 168; ((with_reducible refine (C1.out _ (H.out.kept Qz)).mono ?_); rintro e w' ⟨ka, kc, rfl, k, hp, q⟩; have pw := (Par.lt hp).1; have K : Hid (KidsB w' (fun b => w.heap.size < b) ka kc (Sy.Ex.ks x)) := Lib.hid (KidsB.mono k (fun b hb => Nat.lt_of_lt_of_le (Bx.lt Rz) hb)); clear k; replace R : Hid (Bx w' w.heap.size exZ 27) := Lib.hid (Bx.px Rz q (by omega)); have rl := R.out.lt; have r0 := R.out.cell' 0 _ rfl; have r1 := R.out.cell' 1 _ rfl; have r2 := R.out.cell' 2 _ rfl; have s0 := R.out.free 0; have s1 := R.out.free 1; have s2 := R.out.free 2; replace H := Lib.hid hp; clear hp; replace q0 : Hid (Px P w w') := Lib.hid (Px.trans Pz q); clear q))
    exact exRet (x := x) Tryz.results187 rfl rfl (exEnd (x := x) hP hO rfl rfl rfl R.out K.out H.out q0.out)
set_option maxRecDepth 100000 in
set_option maxHeartbeats 4000000 in
theorem sy_product {P : Nat} {a : Option Addr} {cap : Nat} {ts : List Lx.Tok} {len f : Nat} (AA : ∀ g, g ≤ f → SyAll P a cap ts len g) (i : Nat) (w : World) (h : Par w P a cap ts len i) (hf : Sy.need ts.length i 4 ≤ f + 1) :
    Calls Tryz.prog 188 #[.pointer (some ⟨P, 0, none⟩)] w (PR P a cap ts len w (Sy.pE ts (f + 1) 4 i)) := by
  obtain ⟨hP, hO⟩ := h.lt
  have H := Lib.hid h
  clear h
  have R : Hid (Bx (w.alloc (.cells exZ 27)) w.heap.size exZ 27) := Lib.hid (Bx.new w _ _)
  have c1 : ∀ w, Par w P a cap ts len i → Calls Tryz.prog 168 #[.pointer (some ⟨P, 0, none⟩), .int .i64 5, .int .i64 7, .func (.func 189) #[.pointer (some ⟨P, 0, none⟩)] #[]] w (PR P a cap ts len w (Sy.pE ts (f + 1) 4 i)) := fun w h => sy_chain4 AA i w h hf
  clear AA hf
  cases e1 : Sy.pE ts (f + 1) 4 i with
  | bad j =>
    rw [e1] at c1
    have C1 := Lib.hid c1
    clear c1 e1
    have q0 : Hid (Px P w w) := Lib.hid (Px.refl P w)
    go_enter Tryz.func188, Tryz.ntmps188
    go_wp2_with (go_at_call 168; ((with_reducible refine (C1.out _ (H.out.kept Qz)).mono ?_); rintro e w' ⟨rfl, q⟩; replace q0 : Hid (Px P w w') := Lib.hid (Px.trans Pz q); clear q))
    exact ⟨rfl, rfl, q0.out⟩
  | ok x j =>
    rw [e1] at c1
    have C1 := Lib.hid c1
    clear c1 e1
    have q0 : Hid (Px P w w) := Lib.hid (Px.refl P w)
    go_enter Tryz.func188, Tryz.ntmps188
    go_wp2_with (go_at_call 168; ((with_reducible refine (C1.out _ (H.out.kept Qz)).mono ?_); rintro e w' ⟨ka, kc, rfl, k, hp, q⟩; have pw := (Par.lt hp).1; have K : Hid (KidsB w' (fun b => w.heap.size < b) ka kc (Sy.Ex.ks x)) := Lib.hid (KidsB.mono k (fun b hb => Nat.lt_of_lt_of_le (Bx.lt Rz) hb)); clear k; replace R : Hid (Bx w' w.heap.size exZ 27) := Lib.hid (Bx.px Rz q (by omega)); have rl := R.out.lt; have r0 := R.out.cell' 0 _ rfl; have r1 := R.out.cell' 1 _ rfl; have r2 := R.out.cell' 2 _ rfl; have s0 := R.out.free 0; have s1 := R.out.free 1; have s2 := R.out.free 2; replace H := Lib.hid hp; clear hp; replace q0 : Hid (Px P w w') := Lib.hid (Px.trans Pz q); clear q))
    exact exRet (x := x) Tryz.results188 rfl rfl (exEnd (x := x) hP hO rfl rfl rfl R.out K.out H.out q0.out)
theorem syAll (P : Nat) (a : Option Addr) (cap : Nat) (ts : List Lx.Tok) (len f : Nat) : SyAll P a cap ts len f := by
  induction f using Nat.strongRecOn with
  | _ f ih =>
    cases f with
    | zero =>
      refine ⟨fun l i w hl h hf => ?_, fun i w h hf => ?_, fun i w h hf => ?_, fun i w h hf => ?_⟩
      · unfold Sy.need at hf; omega
      · omega
      · omega
      · omega
    | succ f =>
      have AA : ∀ g, g ≤ f → SyAll P a cap ts len g := fun g hg => ih g (by omega)
      have A := AA f (Nat.le_refl _)
      refine ⟨fun l i w hl h hf => ?_, fun i w h hf => sy_primary A i w h hf, fun i w h hf => sy_cell A i w h hf, fun i w h hf => sy_bracketed A i w h hf⟩
      match l, hl with
      | 0, _ => exact sy_or AA i w h hf
      | 1, _ => exact sy_and AA i w h hf
      | 2, _ => exact sy_test AA i w h hf
      | 3, _ => exact sy_sum AA i w h hf
      | 4, _ => exact sy_product AA i w h hf
      | 5, _ => exact sy_unary A i w h hf
end Go.Proofs.YtbcbnkapipimmaaGreatDoor
set_option linter.unusedVariables false
set_option linter.unusedSimpArgs false
namespace Go.Proofs.YtbcbnkapipimmaaGreatDoor
open Go.RowKit
set_option maxRecDepth 100000 in
set_option maxHeartbeats 4000000 in
theorem sy_value {P : Nat} {a : Option Addr} {cap : Nat} {ts : List Lx.Tok} {len : Nat} (i : Nat) (w : World) (h : Par w P a cap ts len i) :
    Calls Tryz.prog 148 #[.pointer (some ⟨P, 0, none⟩)] w (PR P a cap ts len w (Sy.pV ts i)) := by
  have A := syAll P a cap ts len (Sy.fuel ts)
  obtain ⟨hP, hO⟩ := h.lt
  have hle := h.le
  have H := Lib.hid h
  clear h
  have R : Hid (Bx (w.alloc (.cells exZ 27)) w.heap.size exZ 27) := Lib.hid (Bx.new w _ _)
  unfold Sy.pV
  by_cases hx : Sy.tx ts i = [45]
  · rw [if_pos hx]
    have hi := Sy.tx_lt hx (by decide)
    have x1 : Hid ((⟨#[45]⟩ : ByteArray) = bs (Sy.tx ts i)) := Lib.hid (by rw [hx]; rfl)
    have x2 : Hid (Sy.tx ts i ≠ []) := Lib.hid (by rw [hx]; decide)
    have c1 : ∀ w, Par w P a cap ts len (i + 1) → Calls Tryz.prog 145 #[.pointer (some ⟨P, 0, none⟩)] w (PR P a cap ts len w (Sy.pC ts (Sy.fuel ts) (i + 1))) := fun w h => A.c (i + 1) w h (by unfold Sy.fuel; omega)
    clear hx
    cases e1 : Sy.pC ts (Sy.fuel ts) (i + 1) with
    | bad j =>
      rw [e1] at c1
      have C1 := Lib.hid c1
      clear c1 e1
      have q0 : Hid (Px P w w) := Lib.hid (Px.refl P w)
      go_enter Tryz.func148, Tryz.ntmps148
      go_wp2_with (first | (go_at_call 76; ((with_reducible refine (syAcceptY (H.out.kept Qz) _ x1.out x2.out).mono ?_); rintro e w' ⟨rfl, hp, q⟩; have pw := (Par.lt hp).1; skip; replace H := Lib.hid hp; clear hp; replace q0 : Hid (Px P w w') := Lib.hid (Px.trans Pz q); clear q)) | (go_at_call 145; ((with_reducible refine (C1.out _ (H.out.kept Qz)).mono ?_); rintro e w' ⟨rfl, q⟩; replace q0 : Hid (Px P w w') := Lib.hid (Px.trans Pz q); clear q)))
      exact ⟨rfl, rfl, q0.out⟩
    | ok x j =>
      rw [e1] at c1
      have C1 := Lib.hid c1
      clear c1 e1
      have q0 : Hid (Px P w w) := Lib.hid (Px.refl P w)
      go_enter Tryz.func148, Tryz.ntmps148
      go_wp2_with (first | (go_at_call 76; ((with_reducible refine (syAcceptY (H.out.kept Qz) _ x1.out x2.out).mono ?_); rintro e w' ⟨rfl, hp, q⟩; have pw := (Par.lt hp).1; replace R : Hid (Bx w' w.heap.size exZ 27) := Lib.hid (Bx.px Rz q (by omega)); replace H := Lib.hid hp; clear hp; replace q0 : Hid (Px P w w') := Lib.hid (Px.trans Pz q); clear q)) | (go_at_call 145; ((with_reducible refine (C1.out _ (H.out.kept Qz)).mono ?_); rintro e w' ⟨ka, kc, rfl, k, hp, q⟩; have pw := (Par.lt hp).1; have K : Hid (KidsB w' (fun b => w.heap.size < b) ka kc (Sy.Ex.ks x)) := Lib.hid (KidsB.mono k (fun b hb => Nat.lt_of_lt_of_le (Bx.lt Rz) hb)); clear k; replace R : Hid (Bx w' w.heap.size exZ 27) := Lib.hid (Bx.px Rz q (by omega)); replace H := Lib.hid hp; clear hp; replace q0 : Hid (Px P w w') := Lib.hid (Px.trans Pz q); clear q)) | (go_at_call 167; ((with_reducible refine (syNode _ _ _ _ _).mono ?_); rintro e w' ⟨rfl, q⟩; have G := Bx.kept (Bx.new _ _ _) q; have K2 : Hid (KidsB w' (fun b => w.heap.size < b) _ 1 [x]) := Lib.hid (KidsB.one G (Bx.lt Rz) (KidsB.kept (by repeat (first | exact K.out | refine KidsB.alloc ?_ _ | refine KidsB.drew ?_)) q)); clear G; replace R : Hid (Bx w' w.heap.size exZ 27) := Lib.hid (Bx.kept Rz q); have rl := R.out.lt; have r0 := R.out.cell' 0 _ rfl; have r1 := R.out.cell' 1 _ rfl; have r2 := R.out.cell' 2 _ rfl; have s0 := R.out.free 0; have s1 := R.out.free 1; have s2 := R.out.free 2; replace H := Lib.hid (Par.kept H.out (Qw.trans Qz q)); replace q0 : Hid (Px P w w') := Lib.hid (Px.trans Pz (Px.of q)); clear q)))
      exact exRet (x := Sy.un 2 x) Tryz.results148 rfl rfl (exEnd (x := Sy.un 2 x) hP hO rfl rfl rfl R.out K2.out H.out q0.out)
  · rw [if_neg hx]
    have x1 : Hid ((⟨#[45]⟩ : ByteArray) ≠ bs (Sy.tx ts i)) := Lib.hid (fun h => hx (bs_inj.1 (show bs [45] = _ from h)).symm)
    clear hx
    by_cases hx : Sy.tx ts i = [43]
    · rw [if_pos hx]
      have hi := Sy.tx_lt hx (by decide)
      have y1 : Hid ((⟨#[43]⟩ : ByteArray) = bs (Sy.tx ts i)) := Lib.hid (by rw [hx]; rfl)
      have y2 : Hid (Sy.tx ts i ≠ []) := Lib.hid (by rw [hx]; decide)
      have c1 : ∀ w, Par w P a cap ts len (i + 1) → Calls Tryz.prog 145 #[.pointer (some ⟨P, 0, none⟩)] w (PR P a cap ts len w (Sy.pC ts (Sy.fuel ts) (i + 1))) := fun w h => A.c (i + 1) w h (by unfold Sy.fuel; omega)
      clear hx
      cases e1 : Sy.pC ts (Sy.fuel ts) (i + 1) with
      | bad j =>
        rw [e1] at c1
        have C1 := Lib.hid c1
        clear c1 e1
        have q0 : Hid (Px P w w) := Lib.hid (Px.refl P w)
        go_enter Tryz.func148, Tryz.ntmps148
        go_wp2_with (first | (go_at_call 76; ((with_reducible refine (syAcceptN (H.out.kept Qz) _ x1.out).mono ?_); rintro e w' ⟨rfl, q⟩; skip; replace H := Lib.hid (Par.kept H.out (Qw.trans Qz q)); replace q0 : Hid (Px P w w') := Lib.hid (Px.trans Pz (Px.of q)); clear q)) | (go_at_call 76; ((with_reducible refine (syAcceptY (H.out.kept Qz) _ y1.out y2.out).mono ?_); rintro e w' ⟨rfl, hp, q⟩; have pw := (Par.lt hp).1; skip; replace H := Lib.hid hp; clear hp; replace q0 : Hid (Px P w w') := Lib.hid (Px.trans Pz q); clear q)) | (go_at_call 145; ((with_reducible refine (C1.out _ (H.out.kept Qz)).mono ?_); rintro e w' ⟨rfl, q⟩; replace q0 : Hid (Px P w w') := Lib.hid (Px.trans Pz q); clear q)))
        exact ⟨rfl, rfl, q0.out⟩
      | ok x j =>
        rw [e1] at c1
        have C1 := Lib.hid c1
        clear c1 e1
        have q0 : Hid (Px P w w) := Lib.hid (Px.refl P w)
        go_enter Tryz.func148, Tryz.ntmps148
        go_wp2_with (first | (go_at_call 76; ((with_reducible refine (syAcceptN (H.out.kept Qz) _ x1.out).mono ?_); rintro e w' ⟨rfl, q⟩; replace R : Hid (Bx w' w.heap.size exZ 27) := Lib.hid (Bx.kept Rz q); replace H := Lib.hid (Par.kept H.out (Qw.trans Qz q)); replace q0 : Hid (Px P w w') := Lib.hid (Px.trans Pz (Px.of q)); clear q)) | (go_at_call 76; ((with_reducible refine (syAcceptY (H.out.kept Qz) _ y1.out y2.out).mono ?_); rintro e w' ⟨rfl, hp, q⟩; have pw := (Par.lt hp).1; replace R : Hid (Bx w' w.heap.size exZ 27) := Lib.hid (Bx.px Rz q (by omega)); replace H := Lib.hid hp; clear hp; replace q0 : Hid (Px P w w') := Lib.hid (Px.trans Pz q); clear q)) | (go_at_call 145; ((with_reducible refine (C1.out _ (H.out.kept Qz)).mono ?_); rintro e w' ⟨ka, kc, rfl, k, hp, q⟩; have pw := (Par.lt hp).1; have K : Hid (KidsB w' (fun b => w.heap.size < b) ka kc (Sy.Ex.ks x)) := Lib.hid (KidsB.mono k (fun b hb => Nat.lt_of_lt_of_le (Bx.lt Rz) hb)); clear k; replace R : Hid (Bx w' w.heap.size exZ 27) := Lib.hid (Bx.px Rz q (by omega)); have rl := R.out.lt; have r0 := R.out.cell' 0 _ rfl; have r1 := R.out.cell' 1 _ rfl; have r2 := R.out.cell' 2 _ rfl; have s0 := R.out.free 0; have s1 := R.out.free 1; have s2 := R.out.free 2; replace H := Lib.hid hp; clear hp; replace q0 : Hid (Px P w w') := Lib.hid (Px.trans Pz q); clear q)))
        exact exRet (x := x) Tryz.results148 rfl rfl (exEnd (x := x) hP hO rfl rfl rfl R.out K.out H.out q0.out)
    · rw [if_neg hx]
      have y1 : Hid ((⟨#[43]⟩ : ByteArray) ≠ bs (Sy.tx ts i)) := Lib.hid (fun h => hx (bs_inj.1 (show bs [43] = _ from h)).symm)
      have c1 : ∀ w, Par w P a cap ts len i → Calls Tryz.prog 145 #[.pointer (some ⟨P, 0, none⟩)] w (PR P a cap ts len w (Sy.pC ts (Sy.fuel ts) i)) := fun w h => A.c i w h (by unfold Sy.fuel; omega)
      clear hx
      cases e1 : Sy.pC ts (Sy.fuel ts) i with
      | bad j =>
        rw [e1] at c1
        have C1 := Lib.hid c1
        clear c1 e1
        have q0 : Hid (Px P w w) := Lib.hid (Px.refl P w)
        go_enter Tryz.func148, Tryz.ntmps148
        go_wp2_with (first | (go_at_call 76; ((with_reducible refine (syAcceptN (H.out.kept Qz) _ x1.out).mono ?_); rintro e w' ⟨rfl, q⟩; skip; replace H := Lib.hid (Par.kept H.out (Qw.trans Qz q)); replace q0 : Hid (Px P w w') := Lib.hid (Px.trans Pz (Px.of q)); clear q)) | (go_at_call 76; ((with_reducible refine (syAcceptN (H.out.kept Qz) _ y1.out).mono ?_); rintro e w' ⟨rfl, q⟩; skip; replace H := Lib.hid (Par.kept H.out (Qw.trans Qz q)); replace q0 : Hid (Px P w w') := Lib.hid (Px.trans Pz (Px.of q)); clear q)) | (go_at_call 145; ((with_reducible refine (C1.out _ (H.out.kept Qz)).mono ?_); rintro e w' ⟨rfl, q⟩; replace q0 : Hid (Px P w w') := Lib.hid (Px.trans Pz q); clear q)))
        exact ⟨rfl, rfl, q0.out⟩
      | ok x j =>
        rw [e1] at c1
        have C1 := Lib.hid c1
        clear c1 e1
        have q0 : Hid (Px P w w) := Lib.hid (Px.refl P w)
        go_enter Tryz.func148, Tryz.ntmps148
        go_wp2_with (first | (go_at_call 76; ((with_reducible refine (syAcceptN (H.out.kept Qz) _ x1.out).mono ?_); rintro e w' ⟨rfl, q⟩; replace R : Hid (Bx w' w.heap.size exZ 27) := Lib.hid (Bx.kept Rz q); replace H := Lib.hid (Par.kept H.out (Qw.trans Qz q)); replace q0 : Hid (Px P w w') := Lib.hid (Px.trans Pz (Px.of q)); clear q)) | (go_at_call 76; ((with_reducible refine (syAcceptN (H.out.kept Qz) _ y1.out).mono ?_); rintro e w' ⟨rfl, q⟩; replace R : Hid (Bx w' w.heap.size exZ 27) := Lib.hid (Bx.kept Rz q); replace H := Lib.hid (Par.kept H.out (Qw.trans Qz q)); replace q0 : Hid (Px P w w') := Lib.hid (Px.trans Pz (Px.of q)); clear q)) | (go_at_call 145; ((with_reducible refine (C1.out _ (H.out.kept Qz)).mono ?_); rintro e w' ⟨ka, kc, rfl, k, hp, q⟩; have pw := (Par.lt hp).1; have K : Hid (KidsB w' (fun b => w.heap.size < b) ka kc (Sy.Ex.ks x)) := Lib.hid (KidsB.mono k (fun b hb => Nat.lt_of_lt_of_le (Bx.lt Rz) hb)); clear k; replace R : Hid (Bx w' w.heap.size exZ 27) := Lib.hid (Bx.px Rz q (by omega)); have rl := R.out.lt; have r0 := R.out.cell' 0 _ rfl; have r1 := R.out.cell' 1 _ rfl; have r2 := R.out.cell' 2 _ rfl; have s0 := R.out.free 0; have s1 := R.out.free 1; have s2 := R.out.free 2; replace H := Lib.hid hp; clear hp; replace q0 : Hid (Px P w w') := Lib.hid (Px.trans Pz q); clear q)))
        exact exRet (x := x) Tryz.results148 rfl rfl (exEnd (x := x) hP hO rfl rfl rfl R.out K.out H.out q0.out)
theorem sy_count {P : Nat} {a : Option Addr} {cap : Nat} {ts : List Lx.Tok} {len i : Nat} {w : World} (hg : Sy.Good ts) (h : Par w P a cap ts len i) : Calls Tryz.prog 78 #[.pointer (some ⟨P, 0, none⟩)] w (PN P a cap ts len w (Sy.pN ts 99999 i)) := by
  have c1 : Calls Tryz.prog 110 #[.pointer (some ⟨P, 0, none⟩), .int .i64 99999] w (PN P a cap ts len w (Sy.pN ts 99999 i)) := syWhole h hg 99999
  clear h hg
  cases e : Sy.pN ts 99999 i with
  | ok n j =>
    rw [e] at c1
    have C1 := Lib.hid c1
    clear c1 e
    go_enter Tryz.func78, Tryz.ntmps78
    go_wp2_with (go_at_call 110; ((with_reducible refine C1.out.mono ?_); rintro e w' ⟨rfl, hp, q⟩; replace hp := Lib.hid hp; replace q := Lib.hid q))
    go_ret
    exact ⟨rfl, hp.out, q.out⟩
  | bad j =>
    rw [e] at c1
    have C1 := Lib.hid c1
    clear c1 e
    go_enter Tryz.func78, Tryz.ntmps78
    go_wp2_with (go_at_call 110; ((with_reducible refine C1.out.mono ?_); rintro e w' ⟨rfl, q⟩; replace q := Lib.hid q))
    exact ⟨rfl, rfl, q.out⟩
theorem sy_loop {P : Nat} {a : Option Addr} {cap : Nat} {ts : List Lx.Tok} {len i : Nat} {w : World} (hg : Sy.Good ts) (h : Par w P a cap ts len i) : Calls Tryz.prog 149 #[.pointer (some ⟨P, 0, none⟩)] w (PN P a cap ts len w (Sy.pN ts 3 i)) := by
  have c1 : Calls Tryz.prog 110 #[.pointer (some ⟨P, 0, none⟩), .int .i64 3] w (PN P a cap ts len w (Sy.pN ts 3 i)) := syWhole h hg 3
  clear h hg
  cases e : Sy.pN ts 3 i with
  | ok n j =>
    rw [e] at c1
    have C1 := Lib.hid c1
    clear c1 e
    go_enter Tryz.func149, Tryz.ntmps149
    go_wp2_with (go_at_call 110; ((with_reducible refine C1.out.mono ?_); rintro e w' ⟨rfl, hp, q⟩; replace hp := Lib.hid hp; replace q := Lib.hid q))
    go_ret
    exact ⟨rfl, hp.out, q.out⟩
  | bad j =>
    rw [e] at c1
    have C1 := Lib.hid c1
    clear c1 e
    go_enter Tryz.func149, Tryz.ntmps149
    go_wp2_with (go_at_call 110; ((with_reducible refine C1.out.mono ?_); rintro e w' ⟨rfl, q⟩; replace q := Lib.hid q))
    exact ⟨rfl, rfl, q.out⟩
def blZ : Array Value := #[.int .i64 0, .int .i64 0, .bool false, .slice none 0 0, .int .i64 0, .int .i64 0, .slice none 0 0, .int .i64 0, .int .i64 0, .slice none 0 0, .int .i64 0]
def PBl (P : Nat) (a : Option Addr) (cap : Nat) (ts : List Lx.Tok) (len : Nat) (w : World) (r : Sy.Rs Sy.Bl) (e : Ending) (w' : World) : Prop := match r with
  | .ok b j => (∃ cs, e = .returned (.agg cs) ∧ BlkB w' (fun b => w.heap.size ≤ b) b cs) ∧ Par w' P a cap ts len j ∧ Px P w w'
  | .bad j => PBad P ts len w j e w'
def putB (w : World) (b : Nat) (v0 v1 v2 v3 v4 v5 v6 v7 v8 v9 v10 : Value) : World :=
  ((((((((((w.setCell ⟨b, 0, none⟩ v0).setCell ⟨b, 1, none⟩ v1).setCell ⟨b, 2, none⟩ v2).setCell ⟨b, 3, none⟩ v3).setCell ⟨b, 4, none⟩ v4).setCell ⟨b, 5, none⟩ v5).setCell ⟨b, 6, none⟩ v6).setCell ⟨b, 7, none⟩ v7).setCell ⟨b, 8, none⟩ v8).setCell ⟨b, 9, none⟩ v9).setCell ⟨b, 10, none⟩ v10
theorem putB_heap (w : World) (b k : Nat) (v0 v1 v2 v3 v4 v5 v6 v7 v8 v9 v10 : Value) (h : k ≠ b) : (putB w b v0 v1 v2 v3 v4 v5 v6 v7 v8 v9 v10).heap[k]? = w.heap[k]? := by
  unfold putB
  iterate 11 rw [Below.heap_setCell _ _ _ _ h]
theorem putB_bx {w : World} {b : Nat} {t : TypeId} {u0 u1 u2 u3 u4 u5 u6 u7 u8 u9 u10 : Value} (v0 v1 v2 v3 v4 v5 v6 v7 v8 v9 v10 : Value) (R : Bx w b #[u0, u1, u2, u3, u4, u5, u6, u7, u8, u9, u10] t) : Bx (putB w b v0 v1 v2 v3 v4 v5 v6 v7 v8 v9 v10) b #[v0, v1, v2, v3, v4, v5, v6, v7, v8, v9, v10] t := by
  have h0 : Bx (w.setCell ⟨b, 0, none⟩ v0) b #[v0, u1, u2, u3, u4, u5, u6, u7, u8, u9, u10] t := R.set 0 v0
  have h1 : Bx ((w.setCell ⟨b, 0, none⟩ v0).setCell ⟨b, 1, none⟩ v1) b #[v0, v1, u2, u3, u4, u5, u6, u7, u8, u9, u10] t := h0.set 1 v1
  have h2 : Bx (((w.setCell ⟨b, 0, none⟩ v0).setCell ⟨b, 1, none⟩ v1).setCell ⟨b, 2, none⟩ v2) b #[v0, v1, v2, u3, u4, u5, u6, u7, u8, u9, u10] t := h1.set 2 v2
  have h3 : Bx ((((w.setCell ⟨b, 0, none⟩ v0).setCell ⟨b, 1, none⟩ v1).setCell ⟨b, 2, none⟩ v2).setCell ⟨b, 3, none⟩ v3) b #[v0, v1, v2, v3, u4, u5, u6, u7, u8, u9, u10] t := h2.set 3 v3
  have h4 : Bx (((((w.setCell ⟨b, 0, none⟩ v0).setCell ⟨b, 1, none⟩ v1).setCell ⟨b, 2, none⟩ v2).setCell ⟨b, 3, none⟩ v3).setCell ⟨b, 4, none⟩ v4) b #[v0, v1, v2, v3, v4, u5, u6, u7, u8, u9, u10] t := h3.set 4 v4
  have h5 : Bx ((((((w.setCell ⟨b, 0, none⟩ v0).setCell ⟨b, 1, none⟩ v1).setCell ⟨b, 2, none⟩ v2).setCell ⟨b, 3, none⟩ v3).setCell ⟨b, 4, none⟩ v4).setCell ⟨b, 5, none⟩ v5) b #[v0, v1, v2, v3, v4, v5, u6, u7, u8, u9, u10] t := h4.set 5 v5
  have h6 : Bx (((((((w.setCell ⟨b, 0, none⟩ v0).setCell ⟨b, 1, none⟩ v1).setCell ⟨b, 2, none⟩ v2).setCell ⟨b, 3, none⟩ v3).setCell ⟨b, 4, none⟩ v4).setCell ⟨b, 5, none⟩ v5).setCell ⟨b, 6, none⟩ v6) b #[v0, v1, v2, v3, v4, v5, v6, u7, u8, u9, u10] t := h5.set 6 v6
  have h7 : Bx ((((((((w.setCell ⟨b, 0, none⟩ v0).setCell ⟨b, 1, none⟩ v1).setCell ⟨b, 2, none⟩ v2).setCell ⟨b, 3, none⟩ v3).setCell ⟨b, 4, none⟩ v4).setCell ⟨b, 5, none⟩ v5).setCell ⟨b, 6, none⟩ v6).setCell ⟨b, 7, none⟩ v7) b #[v0, v1, v2, v3, v4, v5, v6, v7, u8, u9, u10] t := h6.set 7 v7
  have h8 : Bx (((((((((w.setCell ⟨b, 0, none⟩ v0).setCell ⟨b, 1, none⟩ v1).setCell ⟨b, 2, none⟩ v2).setCell ⟨b, 3, none⟩ v3).setCell ⟨b, 4, none⟩ v4).setCell ⟨b, 5, none⟩ v5).setCell ⟨b, 6, none⟩ v6).setCell ⟨b, 7, none⟩ v7).setCell ⟨b, 8, none⟩ v8) b #[v0, v1, v2, v3, v4, v5, v6, v7, v8, u9, u10] t := h7.set 8 v8
  have h9 : Bx ((((((((((w.setCell ⟨b, 0, none⟩ v0).setCell ⟨b, 1, none⟩ v1).setCell ⟨b, 2, none⟩ v2).setCell ⟨b, 3, none⟩ v3).setCell ⟨b, 4, none⟩ v4).setCell ⟨b, 5, none⟩ v5).setCell ⟨b, 6, none⟩ v6).setCell ⟨b, 7, none⟩ v7).setCell ⟨b, 8, none⟩ v8).setCell ⟨b, 9, none⟩ v9) b #[v0, v1, v2, v3, v4, v5, v6, v7, v8, v9, u10] t := h8.set 9 v9
  have h10 : Bx (((((((((((w.setCell ⟨b, 0, none⟩ v0).setCell ⟨b, 1, none⟩ v1).setCell ⟨b, 2, none⟩ v2).setCell ⟨b, 3, none⟩ v3).setCell ⟨b, 4, none⟩ v4).setCell ⟨b, 5, none⟩ v5).setCell ⟨b, 6, none⟩ v6).setCell ⟨b, 7, none⟩ v7).setCell ⟨b, 8, none⟩ v8).setCell ⟨b, 9, none⟩ v9).setCell ⟨b, 10, none⟩ v10) b #[v0, v1, v2, v3, v4, v5, v6, v7, v8, v9, v10] t := h9.set 10 v10
  exact h10
theorem putB_px {P b : Nat} {w w' : World} (q : Px P w w') (h : w.heap.size ≤ b) (v0 v1 v2 v3 v4 v5 v6 v7 v8 v9 v10 : Value) : Px P w (putB w' b v0 v1 v2 v3 v4 v5 v6 v7 v8 v9 v10) := by
  unfold putB
  exact ((((((((((q.setNew h _).setNew h _).setNew h _).setNew h _).setNew h _).setNew h _).setNew h _).setNew h _).setNew h _).setNew h _).setNew h _
theorem putB_par {w : World} {P : Nat} {a : Option Addr} {cap : Nat} {ts : List Lx.Tok} {len i : Nat} (h : Par w P a cap ts len i) {b : Nat} (hb : P < b) (hg : 0 ≠ b) (v0 v1 v2 v3 v4 v5 v6 v7 v8 v9 v10 : Value) : Par (putB w b v0 v1 v2 v3 v4 v5 v6 v7 v8 v9 v10) P a cap ts len i := by
  unfold putB
  exact ((((((((((h.other hb hg _ _).other hb hg _ _).other hb hg _ _).other hb hg _ _).other hb hg _ _).other hb hg _ _).other hb hg _ _).other hb hg _ _).other hb hg _ _).other hb hg _ _).other hb hg _ _
theorem blRet {fn : Func} {s : Nat} {act : Act} {w w' wf : World} {P : Nat} {a : Option Addr} {cap : Nat} {ts : List Lx.Tok} {len j : Nat} {b : Sy.Bl} {v0 v1 v2 v3 v4 v5 v6 v7 v8 v9 v10 : Value} (hr : fn.results = #[.cell s 32]) (hs : act.tmps[s]?.getD undef = .pointer (some ⟨w.heap.size, 0, none⟩)) (hd : act.defers = [])
    (hP : P < w.heap.size) (hO : 0 < w.heap.size) (R : Bx w' w.heap.size blZ 32) (B : BlkB w' (fun b => w.heap.size < b) b #[v0, v1, v2, v3, v4, v5, v6, v7, v8, v9, v10]) (H : Par w' P a cap ts len j) (q : Px P w w')
    (hw : wf = putB w' w.heap.size v0 v1 v2 v3 v4 v5 v6 v7 v8 v9 v10) : bodyPost Tryz.prog fn (PBl P a cap ts len w (.ok b j)) .ret act wf := by
  subst hw
  refine bodyPost_ret (ret_blk hr hs (putB_bx v0 v1 v2 v3 v4 v5 v6 v7 v8 v9 v10 R)) hd ⟨⟨_, rfl, ?_⟩, putB_par H hP (by omega) .., putB_px q (Nat.le_refl _) ..⟩
  exact B.go fun b hb _ => ⟨putB_heap _ _ _ _ _ _ _ _ _ _ _ _ _ _ (by omega), by omega⟩
end Go.Proofs.YtbcbnkapipimmaaGreatDoor

