import Derived.Test.YtciglhecjkeogaaGreatDoorZTX13
import Derived.Test.YtciglhecjkeogaaGreatDoorZTX15
import Derived.Test.YtciglhecjkeogaaGreatDoorZTX18
import Derived.BigRegion
set_option linter.unusedVariables false
set_option linter.unusedSimpArgs false
namespace Go.Proofs.YtciglhecjkeogaaGreatDoor
open Go.RowKit
set_option maxRecDepth 100000 in
set_option maxHeartbeats 4000000 in
theorem sy_value {P : Nat} {a : Option Addr} {cap : Nat} {ts : List Lx.Tok} {len : Nat} (i : Nat) (w : World) (h : Par w P a cap ts len i) :
    Calls Tryz.prog 108 #[.pointer (some ⟨P, 0, none⟩)] w (PR P a cap ts len w (Sy.pV ts i)) := by
  have A := syAll P a cap ts len (Sy.fuel ts)
  obtain ⟨hP, hO⟩ := h.lt
  have hle := h.le
  have H := Lib.hid h
  clear h
  have R : Hid (Bx (w.alloc (.cells exZ 31)) w.heap.size exZ 31) := Lib.hid (Bx.new w _ _)
  unfold Sy.pV
  by_cases hx : Sy.tx ts i = [45]
  · rw [if_pos hx]
    have hi := Sy.tx_lt hx (by decide)
    have x1 : Hid ((⟨#[45]⟩ : ByteArray) = bs (Sy.tx ts i)) := Lib.hid (by rw [hx]; rfl)
    have x2 : Hid (Sy.tx ts i ≠ []) := Lib.hid (by rw [hx]; decide)
    have c1 : ∀ w, Par w P a cap ts len (i + 1) → Calls Tryz.prog 105 #[.pointer (some ⟨P, 0, none⟩)] w (PR P a cap ts len w (Sy.pC ts (Sy.fuel ts) (i + 1))) := fun w h => A.c (i + 1) w h (by unfold Sy.fuel; omega)
    clear hx
    cases e1 : Sy.pC ts (Sy.fuel ts) (i + 1) with
    | bad j =>
      rw [e1] at c1
      have C1 := Lib.hid c1
      clear c1 e1
      have q0 : Hid (Px P w w) := Lib.hid (Px.refl P w)
      go_enter Tryz.func108, Tryz.ntmps108
      go_wp2_with (first | (go_at_call 40; ((with_reducible refine (syAcceptY (H.out.kept Qz) _ x1.out x2.out).mono ?_); rintro e w' ⟨rfl, hp, q⟩; have pw := (Par.lt hp).1; skip; replace H := Lib.hid hp; clear hp; replace q0 : Hid (Px P w w') := Lib.hid (Px.trans Pz q); clear q)) | (go_at_call 105; ((with_reducible refine (C1.out _ (H.out.kept Qz)).mono ?_); rintro e w' ⟨rfl, q⟩; replace q0 : Hid (Px P w w') := Lib.hid (Px.trans Pz q); clear q)))
      exact ⟨rfl, rfl, q0.out⟩
    | ok x j =>
      rw [e1] at c1
      have C1 := Lib.hid c1
      clear c1 e1
      have q0 : Hid (Px P w w) := Lib.hid (Px.refl P w)
      go_enter Tryz.func108, Tryz.ntmps108
      go_wp2_with (first | (go_at_call 40; ((with_reducible refine (syAcceptY (H.out.kept Qz) _ x1.out x2.out).mono ?_); rintro e w' ⟨rfl, hp, q⟩; have pw := (Par.lt hp).1; replace R : Hid (Bx w' w.heap.size exZ 31) := Lib.hid (Bx.px Rz q (by omega)); replace H := Lib.hid hp; clear hp; replace q0 : Hid (Px P w w') := Lib.hid (Px.trans Pz q); clear q)) | (go_at_call 105; ((with_reducible refine (C1.out _ (H.out.kept Qz)).mono ?_); rintro e w' ⟨ka, kc, rfl, k, hp, q⟩; have pw := (Par.lt hp).1; have K : Hid (KidsB w' (fun b => w.heap.size < b) ka kc (Sy.Ex.ks x)) := Lib.hid (KidsB.mono k (fun b hb => Nat.lt_of_lt_of_le (Bx.lt Rz) hb)); clear k; replace R : Hid (Bx w' w.heap.size exZ 31) := Lib.hid (Bx.px Rz q (by omega)); replace H := Lib.hid hp; clear hp; replace q0 : Hid (Px P w w') := Lib.hid (Px.trans Pz q); clear q)) | (go_at_call 124; ((with_reducible refine (syNode _ _ _ _ _).mono ?_); rintro e w' ⟨rfl, q⟩; have G := Bx.kept (Bx.new _ _ _) q; have K2 : Hid (KidsB w' (fun b => w.heap.size < b) _ 1 [x]) := Lib.hid (KidsB.one G (Bx.lt Rz) (KidsB.kept (by repeat (first | exact K.out | refine KidsB.alloc ?_ _ | refine KidsB.drew ?_)) q)); clear G; replace R : Hid (Bx w' w.heap.size exZ 31) := Lib.hid (Bx.kept Rz q); have rl := R.out.lt; have r0 := R.out.cell' 0 _ rfl; have r1 := R.out.cell' 1 _ rfl; have r2 := R.out.cell' 2 _ rfl; have s0 := R.out.free 0; have s1 := R.out.free 1; have s2 := R.out.free 2; replace H := Lib.hid (Par.kept H.out (Qw.trans Qz q)); replace q0 : Hid (Px P w w') := Lib.hid (Px.trans Pz (Px.of q)); clear q)))
      exact exRet (x := Sy.un 2 x) Tryz.results108 rfl rfl (exEnd (x := Sy.un 2 x) hP hO rfl rfl rfl R.out K2.out H.out q0.out)
  · rw [if_neg hx]
    have x1 : Hid ((⟨#[45]⟩ : ByteArray) ≠ bs (Sy.tx ts i)) := Lib.hid (fun h => hx (bs_inj.1 (show bs [45] = _ from h)).symm)
    clear hx
    by_cases hx : Sy.tx ts i = [43]
    · rw [if_pos hx]
      have hi := Sy.tx_lt hx (by decide)
      have y1 : Hid ((⟨#[43]⟩ : ByteArray) = bs (Sy.tx ts i)) := Lib.hid (by rw [hx]; rfl)
      have y2 : Hid (Sy.tx ts i ≠ []) := Lib.hid (by rw [hx]; decide)
      have c1 : ∀ w, Par w P a cap ts len (i + 1) → Calls Tryz.prog 105 #[.pointer (some ⟨P, 0, none⟩)] w (PR P a cap ts len w (Sy.pC ts (Sy.fuel ts) (i + 1))) := fun w h => A.c (i + 1) w h (by unfold Sy.fuel; omega)
      clear hx
      cases e1 : Sy.pC ts (Sy.fuel ts) (i + 1) with
      | bad j =>
        rw [e1] at c1
        have C1 := Lib.hid c1
        clear c1 e1
        have q0 : Hid (Px P w w) := Lib.hid (Px.refl P w)
        go_enter Tryz.func108, Tryz.ntmps108
        go_wp2_with (first | (go_at_call 40; ((with_reducible refine (syAcceptN (H.out.kept Qz) _ x1.out).mono ?_); rintro e w' ⟨rfl, q⟩; skip; replace H := Lib.hid (Par.kept H.out (Qw.trans Qz q)); replace q0 : Hid (Px P w w') := Lib.hid (Px.trans Pz (Px.of q)); clear q)) | (go_at_call 40; ((with_reducible refine (syAcceptY (H.out.kept Qz) _ y1.out y2.out).mono ?_); rintro e w' ⟨rfl, hp, q⟩; have pw := (Par.lt hp).1; skip; replace H := Lib.hid hp; clear hp; replace q0 : Hid (Px P w w') := Lib.hid (Px.trans Pz q); clear q)) | (go_at_call 105; ((with_reducible refine (C1.out _ (H.out.kept Qz)).mono ?_); rintro e w' ⟨rfl, q⟩; replace q0 : Hid (Px P w w') := Lib.hid (Px.trans Pz q); clear q)))
        exact ⟨rfl, rfl, q0.out⟩
      | ok x j =>
        rw [e1] at c1
        have C1 := Lib.hid c1
        clear c1 e1
        have q0 : Hid (Px P w w) := Lib.hid (Px.refl P w)
        go_enter Tryz.func108, Tryz.ntmps108
        go_wp2_with (first | (go_at_call 40; ((with_reducible refine (syAcceptN (H.out.kept Qz) _ x1.out).mono ?_); rintro e w' ⟨rfl, q⟩; replace R : Hid (Bx w' w.heap.size exZ 31) := Lib.hid (Bx.kept Rz q); replace H := Lib.hid (Par.kept H.out (Qw.trans Qz q)); replace q0 : Hid (Px P w w') := Lib.hid (Px.trans Pz (Px.of q)); clear q)) | (go_at_call 40; ((with_reducible refine (syAcceptY (H.out.kept Qz) _ y1.out y2.out).mono ?_); rintro e w' ⟨rfl, hp, q⟩; have pw := (Par.lt hp).1; replace R : Hid (Bx w' w.heap.size exZ 31) := Lib.hid (Bx.px Rz q (by omega)); replace H := Lib.hid hp; clear hp; replace q0 : Hid (Px P w w') := Lib.hid (Px.trans Pz q); clear q)) | (go_at_call 105; ((with_reducible refine (C1.out _ (H.out.kept Qz)).mono ?_); rintro e w' ⟨ka, kc, rfl, k, hp, q⟩; have pw := (Par.lt hp).1; have K : Hid (KidsB w' (fun b => w.heap.size < b) ka kc (Sy.Ex.ks x)) := Lib.hid (KidsB.mono k (fun b hb => Nat.lt_of_lt_of_le (Bx.lt Rz) hb)); clear k; replace R : Hid (Bx w' w.heap.size exZ 31) := Lib.hid (Bx.px Rz q (by omega)); have rl := R.out.lt; have r0 := R.out.cell' 0 _ rfl; have r1 := R.out.cell' 1 _ rfl; have r2 := R.out.cell' 2 _ rfl; have s0 := R.out.free 0; have s1 := R.out.free 1; have s2 := R.out.free 2; replace H := Lib.hid hp; clear hp; replace q0 : Hid (Px P w w') := Lib.hid (Px.trans Pz q); clear q)))
        exact exRet (x := x) Tryz.results108 rfl rfl (exEnd (x := x) hP hO rfl rfl rfl R.out K.out H.out q0.out)
    · rw [if_neg hx]
      have y1 : Hid ((⟨#[43]⟩ : ByteArray) ≠ bs (Sy.tx ts i)) := Lib.hid (fun h => hx (bs_inj.1 (show bs [43] = _ from h)).symm)
      have c1 : ∀ w, Par w P a cap ts len i → Calls Tryz.prog 105 #[.pointer (some ⟨P, 0, none⟩)] w (PR P a cap ts len w (Sy.pC ts (Sy.fuel ts) i)) := fun w h => A.c i w h (by unfold Sy.fuel; omega)
      clear hx
      cases e1 : Sy.pC ts (Sy.fuel ts) i with
      | bad j =>
        rw [e1] at c1
        have C1 := Lib.hid c1
        clear c1 e1
        have q0 : Hid (Px P w w) := Lib.hid (Px.refl P w)
        go_enter Tryz.func108, Tryz.ntmps108
        go_wp2_with (first | (go_at_call 40; ((with_reducible refine (syAcceptN (H.out.kept Qz) _ x1.out).mono ?_); rintro e w' ⟨rfl, q⟩; skip; replace H := Lib.hid (Par.kept H.out (Qw.trans Qz q)); replace q0 : Hid (Px P w w') := Lib.hid (Px.trans Pz (Px.of q)); clear q)) | (go_at_call 40; ((with_reducible refine (syAcceptN (H.out.kept Qz) _ y1.out).mono ?_); rintro e w' ⟨rfl, q⟩; skip; replace H := Lib.hid (Par.kept H.out (Qw.trans Qz q)); replace q0 : Hid (Px P w w') := Lib.hid (Px.trans Pz (Px.of q)); clear q)) | (go_at_call 105; ((with_reducible refine (C1.out _ (H.out.kept Qz)).mono ?_); rintro e w' ⟨rfl, q⟩; replace q0 : Hid (Px P w w') := Lib.hid (Px.trans Pz q); clear q)))
        exact ⟨rfl, rfl, q0.out⟩
      | ok x j =>
        rw [e1] at c1
        have C1 := Lib.hid c1
        clear c1 e1
        have q0 : Hid (Px P w w) := Lib.hid (Px.refl P w)
        go_enter Tryz.func108, Tryz.ntmps108
        go_wp2_with (first | (go_at_call 40; ((with_reducible refine (syAcceptN (H.out.kept Qz) _ x1.out).mono ?_); rintro e w' ⟨rfl, q⟩; replace R : Hid (Bx w' w.heap.size exZ 31) := Lib.hid (Bx.kept Rz q); replace H := Lib.hid (Par.kept H.out (Qw.trans Qz q)); replace q0 : Hid (Px P w w') := Lib.hid (Px.trans Pz (Px.of q)); clear q)) | (go_at_call 40; ((with_reducible refine (syAcceptN (H.out.kept Qz) _ y1.out).mono ?_); rintro e w' ⟨rfl, q⟩; replace R : Hid (Bx w' w.heap.size exZ 31) := Lib.hid (Bx.kept Rz q); replace H := Lib.hid (Par.kept H.out (Qw.trans Qz q)); replace q0 : Hid (Px P w w') := Lib.hid (Px.trans Pz (Px.of q)); clear q)) | (go_at_call 105; ((with_reducible refine (C1.out _ (H.out.kept Qz)).mono ?_); rintro e w' ⟨ka, kc, rfl, k, hp, q⟩; have pw := (Par.lt hp).1; have K : Hid (KidsB w' (fun b => w.heap.size < b) ka kc (Sy.Ex.ks x)) := Lib.hid (KidsB.mono k (fun b hb => Nat.lt_of_lt_of_le (Bx.lt Rz) hb)); clear k; replace R : Hid (Bx w' w.heap.size exZ 31) := Lib.hid (Bx.px Rz q (by omega)); have rl := R.out.lt; have r0 := R.out.cell' 0 _ rfl; have r1 := R.out.cell' 1 _ rfl; have r2 := R.out.cell' 2 _ rfl; have s0 := R.out.free 0; have s1 := R.out.free 1; have s2 := R.out.free 2; replace H := Lib.hid hp; clear hp; replace q0 : Hid (Px P w w') := Lib.hid (Px.trans Pz q); clear q)))
        exact exRet (x := x) Tryz.results108 rfl rfl (exEnd (x := x) hP hO rfl rfl rfl R.out K.out H.out q0.out)
theorem sy_count {P : Nat} {a : Option Addr} {cap : Nat} {ts : List Lx.Tok} {len i : Nat} {w : World} (hg : Sy.Good ts) (h : Par w P a cap ts len i) : Calls Tryz.prog 42 #[.pointer (some ⟨P, 0, none⟩)] w (PN P a cap ts len w (Sy.pN ts 99999 i)) := by
  have c1 : Calls Tryz.prog 65 #[.pointer (some ⟨P, 0, none⟩), .int .i64 99999] w (PN P a cap ts len w (Sy.pN ts 99999 i)) := syWhole h hg 99999
  clear h hg
  cases e : Sy.pN ts 99999 i with
  | ok n j =>
    rw [e] at c1
    have C1 := Lib.hid c1
    clear c1 e
    go_enter Tryz.func42, Tryz.ntmps42
    go_wp2_with (go_at_call 65; ((with_reducible refine C1.out.mono ?_); rintro e w' ⟨rfl, hp, q⟩; replace hp := Lib.hid hp; replace q := Lib.hid q))
    go_ret
    exact ⟨rfl, hp.out, q.out⟩
  | bad j =>
    rw [e] at c1
    have C1 := Lib.hid c1
    clear c1 e
    go_enter Tryz.func42, Tryz.ntmps42
    go_wp2_with (go_at_call 65; ((with_reducible refine C1.out.mono ?_); rintro e w' ⟨rfl, q⟩; replace q := Lib.hid q))
    exact ⟨rfl, rfl, q.out⟩
theorem sy_loop {P : Nat} {a : Option Addr} {cap : Nat} {ts : List Lx.Tok} {len i : Nat} {w : World} (hg : Sy.Good ts) (h : Par w P a cap ts len i) : Calls Tryz.prog 109 #[.pointer (some ⟨P, 0, none⟩)] w (PN P a cap ts len w (Sy.pN ts 3 i)) := by
  have c1 : Calls Tryz.prog 65 #[.pointer (some ⟨P, 0, none⟩), .int .i64 3] w (PN P a cap ts len w (Sy.pN ts 3 i)) := syWhole h hg 3
  clear h hg
  cases e : Sy.pN ts 3 i with
  | ok n j =>
    rw [e] at c1
    have C1 := Lib.hid c1
    clear c1 e
    go_enter Tryz.func109, Tryz.ntmps109
    go_wp2_with (go_at_call 65; ((with_reducible refine C1.out.mono ?_); rintro e w' ⟨rfl, hp, q⟩; replace hp := Lib.hid hp; replace q := Lib.hid q))
    go_ret
    exact ⟨rfl, hp.out, q.out⟩
  | bad j =>
    rw [e] at c1
    have C1 := Lib.hid c1
    clear c1 e
    go_enter Tryz.func109, Tryz.ntmps109
    go_wp2_with (go_at_call 65; ((with_reducible refine C1.out.mono ?_); rintro e w' ⟨rfl, q⟩; replace q := Lib.hid q))
    exact ⟨rfl, rfl, q.out⟩
def blZ : Array Value := #[.int .i64 0, .int .i64 0, .bool false, .slice none 0 0, .int .i64 0, .int .i64 0, .slice none 0 0, .int .i64 0, .int .i64 0, .slice none 0 0, .int .i64 0]
def PBl (P : Nat) (a : Option Addr) (cap : Nat) (ts : List Lx.Tok) (len : Nat) (w : World) (r : Sy.Rs Sy.Bl) (e : Ending) (w' : World) : Prop := match r with
  | .ok b j => (∃ cs, e = .returned (.agg cs) ∧ BlkB w' (fun b => w.heap.size ≤ b) b cs) ∧ Par w' P a cap ts len j ∧ Px P w w'
  | .bad j => PBad P ts len w j e w'
def putB (w : World) (b : Nat) (v0 v1 v2 v3 v4 v5 v6 v7 v8 v9 v10 : Value) : World :=
  ((((((((((w.setCell ⟨b, 0, none⟩ v0).setCell ⟨b, 1, none⟩ v1).setCell ⟨b, 2, none⟩ v2).setCell ⟨b, 3, none⟩ v3).setCell ⟨b, 4, none⟩ v4).setCell ⟨b, 5, none⟩ v5).setCell ⟨b, 6, none⟩ v6).setCell ⟨b, 7, none⟩ v7).setCell ⟨b, 8, none⟩ v8).setCell ⟨b, 9, none⟩ v9).setCell ⟨b, 10, none⟩ v10
theorem putB_heap (w : World) (b k : Nat) (v0 v1 v2 v3 v4 v5 v6 v7 v8 v9 v10 : Value) (h : k ≠ b) : (putB w b v0 v1 v2 v3 v4 v5 v6 v7 v8 v9 v10).heap[k]? = w.heap[k]? := by
  unfold putB
  iterate 11 rw [Below.heap_setCell _ _ _ _ h]
theorem putB_bx {w : World} {b : Nat} {t : TypeId} {u0 u1 u2 u3 u4 u5 u6 u7 u8 u9 u10 : Value} (v0 v1 v2 v3 v4 v5 v6 v7 v8 v9 v10 : Value) (R : Bx w b #[u0, u1, u2, u3, u4, u5, u6, u7, u8, u9, u10] t) : Bx (putB w b v0 v1 v2 v3 v4 v5 v6 v7 v8 v9 v10) b #[v0, v1, v2, v3, v4, v5, v6, v7, v8, v9, v10] t := by
  have h0 : Bx (w.setCell ⟨b, 0, none⟩ v0) b #[v0, u1, u2, u3, u4, u5, u6, u7, u8, u9, u10] t := R.set 0 v0
  have h1 : Bx ((w.setCell ⟨b, 0, none⟩ v0).setCell ⟨b, 1, none⟩ v1) b #[v0, v1, u2, u3, u4, u5, u6, u7, u8, u9, u10] t := h0.set 1 v1
  have h2 : Bx (((w.setCell ⟨b, 0, none⟩ v0).setCell ⟨b, 1, none⟩ v1).setCell ⟨b, 2, none⟩ v2) b #[v0, v1, v2, u3, u4, u5, u6, u7, u8, u9, u10] t := h1.set 2 v2
  have h3 : Bx ((((w.setCell ⟨b, 0, none⟩ v0).setCell ⟨b, 1, none⟩ v1).setCell ⟨b, 2, none⟩ v2).setCell ⟨b, 3, none⟩ v3) b #[v0, v1, v2, v3, u4, u5, u6, u7, u8, u9, u10] t := h2.set 3 v3
  have h4 : Bx (((((w.setCell ⟨b, 0, none⟩ v0).setCell ⟨b, 1, none⟩ v1).setCell ⟨b, 2, none⟩ v2).setCell ⟨b, 3, none⟩ v3).setCell ⟨b, 4, none⟩ v4) b #[v0, v1, v2, v3, v4, u5, u6, u7, u8, u9, u10] t := h3.set 4 v4
  have h5 : Bx ((((((w.setCell ⟨b, 0, none⟩ v0).setCell ⟨b, 1, none⟩ v1).setCell ⟨b, 2, none⟩ v2).setCell ⟨b, 3, none⟩ v3).setCell ⟨b, 4, none⟩ v4).setCell ⟨b, 5, none⟩ v5) b #[v0, v1, v2, v3, v4, v5, u6, u7, u8, u9, u10] t := h4.set 5 v5
  have h6 : Bx (((((((w.setCell ⟨b, 0, none⟩ v0).setCell ⟨b, 1, none⟩ v1).setCell ⟨b, 2, none⟩ v2).setCell ⟨b, 3, none⟩ v3).setCell ⟨b, 4, none⟩ v4).setCell ⟨b, 5, none⟩ v5).setCell ⟨b, 6, none⟩ v6) b #[v0, v1, v2, v3, v4, v5, v6, u7, u8, u9, u10] t := h5.set 6 v6
  have h7 : Bx ((((((((w.setCell ⟨b, 0, none⟩ v0).setCell ⟨b, 1, none⟩ v1).setCell ⟨b, 2, none⟩ v2).setCell ⟨b, 3, none⟩ v3).setCell ⟨b, 4, none⟩ v4).setCell ⟨b, 5, none⟩ v5).setCell ⟨b, 6, none⟩ v6).setCell ⟨b, 7, none⟩ v7) b #[v0, v1, v2, v3, v4, v5, v6, v7, u8, u9, u10] t := h6.set 7 v7
  have h8 : Bx (((((((((w.setCell ⟨b, 0, none⟩ v0).setCell ⟨b, 1, none⟩ v1).setCell ⟨b, 2, none⟩ v2).setCell ⟨b, 3, none⟩ v3).setCell ⟨b, 4, none⟩ v4).setCell ⟨b, 5, none⟩ v5).setCell ⟨b, 6, none⟩ v6).setCell ⟨b, 7, none⟩ v7).setCell ⟨b, 8, none⟩ v8) b #[v0, v1, v2, v3, v4, v5, v6, v7, v8, u9, u10] t := h7.set 8 v8
  have h9 : Bx ((((((((((w.setCell ⟨b, 0, none⟩ v0).setCell ⟨b, 1, none⟩ v1).setCell ⟨b, 2, none⟩ v2).setCell ⟨b, 3, none⟩ v3).setCell ⟨b, 4, none⟩ v4).setCell ⟨b, 5, none⟩ v5).setCell ⟨b, 6, none⟩ v6).setCell ⟨b, 7, none⟩ v7).setCell ⟨b, 8, none⟩ v8).setCell ⟨b, 9, none⟩ v9) b #[v0, v1, v2, v3, v4, v5, v6, v7, v8, v9, u10] t := h8.set 9 v9
  have h10 : Bx (((((((((((w.setCell ⟨b, 0, none⟩ v0).setCell ⟨b, 1, none⟩ v1).setCell ⟨b, 2, none⟩ v2).setCell ⟨b, 3, none⟩ v3).setCell ⟨b, 4, none⟩ v4).setCell ⟨b, 5, none⟩ v5).setCell ⟨b, 6, none⟩ v6).setCell ⟨b, 7, none⟩ v7).setCell ⟨b, 8, none⟩ v8).setCell ⟨b, 9, none⟩ v9).setCell ⟨b, 10, none⟩ v10) b #[v0, v1, v2, v3, v4, v5, v6, v7, v8, v9, v10] t := h9.set 10 v10
  exact h10
theorem putB_px {P b : Nat} {w w' : World} (q : Px P w w') (h : w.heap.size ≤ b) (v0 v1 v2 v3 v4 v5 v6 v7 v8 v9 v10 : Value) : Px P w (putB w' b v0 v1 v2 v3 v4 v5 v6 v7 v8 v9 v10) := by
  unfold putB
  exact ((((((((((q.setNew h _).setNew h _).setNew h _).setNew h _).setNew h _).setNew h _).setNew h _).setNew h _).setNew h _).setNew h _).setNew h _
theorem putB_par {w : World} {P : Nat} {a : Option Addr} {cap : Nat} {ts : List Lx.Tok} {len i : Nat} (h : Par w P a cap ts len i) {b : Nat} (hb : P < b) (hg : 0 ≠ b) (v0 v1 v2 v3 v4 v5 v6 v7 v8 v9 v10 : Value) : Par (putB w b v0 v1 v2 v3 v4 v5 v6 v7 v8 v9 v10) P a cap ts len i := by
  unfold putB
  exact ((((((((((h.other hb hg _ _).other hb hg _ _).other hb hg _ _).other hb hg _ _).other hb hg _ _).other hb hg _ _).other hb hg _ _).other hb hg _ _).other hb hg _ _).other hb hg _ _).other hb hg _ _
theorem blRet {fn : Func} {s : Nat} {act : Act} {w w' wf : World} {P : Nat} {a : Option Addr} {cap : Nat} {ts : List Lx.Tok} {len j : Nat} {b : Sy.Bl} {v0 v1 v2 v3 v4 v5 v6 v7 v8 v9 v10 : Value} (hr : fn.results = #[.cell s 37]) (hs : act.tmps[s]?.getD undef = .pointer (some ⟨w.heap.size, 0, none⟩)) (hd : act.defers = [])
    (hP : P < w.heap.size) (hO : 0 < w.heap.size) (R : Bx w' w.heap.size blZ 37) (B : BlkB w' (fun b => w.heap.size < b) b #[v0, v1, v2, v3, v4, v5, v6, v7, v8, v9, v10]) (H : Par w' P a cap ts len j) (q : Px P w w')
    (hw : wf = putB w' w.heap.size v0 v1 v2 v3 v4 v5 v6 v7 v8 v9 v10) : bodyPost Tryz.prog fn (PBl P a cap ts len w (.ok b j)) .ret act wf := by
  subst hw
  refine bodyPost_ret (ret_blk hr hs (putB_bx v0 v1 v2 v3 v4 v5 v6 v7 v8 v9 v10 R)) hd ⟨⟨_, rfl, ?_⟩, putB_par H hP (by omega) .., putB_px q (Nat.le_refl _) ..⟩
  exact B.go fun b hb _ => ⟨putB_heap _ _ _ _ _ _ _ _ _ _ _ _ _ _ (by omega), by omega⟩
end Go.Proofs.YtciglhecjkeogaaGreatDoor
set_option linter.unusedVariables false
set_option linter.unusedSimpArgs false
namespace Go.Proofs.YtciglhecjkeogaaGreatDoor
open Go.RowKit
theorem frame16 (x0 x1 x2 a b c d e f g : Value) : #[x0, x1, x2] ++ (((((((Array.replicate 13 undef).setIfInBounds 3 a).setIfInBounds 4 b).setIfInBounds 2 c).setIfInBounds 5 d).setIfInBounds 6 e).setIfInBounds 0 f).setIfInBounds 1 g = #[x0, x1, x2, f, g, c, a, b, d, e, undef, undef, undef, undef, undef, undef] := by kernel_rfl
set_option maxRecDepth 100000 in
set_option maxHeartbeats 1000000 in
theorem catch_panicking (N : Nat) (p : Nat) (c : Int) (older : List PanicEntry) (w : World) (hN : N + 1 + 1 < w.heap.size) (v0 v1 v2 v3 v4 v5 v6 v7 v8 v9 v10 u0 u1 : Value) (t0 t1 t2 : TypeId)
    (B0 : Bx w N #[v0, v1, v2, v3, v4, v5, v6, v7, v8, v9, v10] t0) (B1 : Bx w (N + 1) #[u0] t1) (B2 : Bx w (N + 1 + 1) #[u1] t2) :
    CallsD Tryz.prog 23 #[.pointer (some ⟨N, 0, none⟩), .pointer (some ⟨N + 1, 0, none⟩), .pointer (some ⟨N + 1 + 1, 0, none⟩)] (.panicking ({ v := .iface 59 (.agg #[.int .i64 (p : Nat), .int .i64 c]), recovered := false } :: older)) w fun e u' w' =>
      e = .returned (.tuple #[]) ∧ u' = .panicking ({ v := .iface 59 (.agg #[.int .i64 (p : Nat), .int .i64 c]), recovered := true } :: older) ∧
      Bx w' N #[.int .i64 0, .int .i64 0, .bool false, .slice none 0 0, .int .i64 0, .int .i64 0, .slice none 0 0, .int .i64 0, .int .i64 0, .slice none 0 0, .int .i64 0] t0 ∧ Bx w' (N + 1) #[.int .i64 (p : Nat)] t1 ∧ Bx w' (N + 1 + 1) #[.int .i64 c] t2 ∧ Below N w w' := by
  refine callsD_of_wpS Tryz.func23 rfl fun c₀ cs hu => ?_
  apply wpS_seq
  apply wpS_region
  simp [wpOpsS, go_sem, recoverD, hu, Tryz.ntmps23, Exit.thenS, ta_fail]
  refine wpS_of_wp ?_
  rw [frame16]
  go_wp2_with fail
  refine code_of (fun w2 => Bx w2 N #[v0, v1, v2, v3, v4, v5, v6, v7, v8, v9, v10] t0 ∧ Bx w2 (N + 1) #[u0] t1 ∧ Bx w2 (N + 1 + 1) #[u1] t2 ∧ Bx w2 w.heap.size #[.int .i64 (p : Nat), .int .i64 c] 59 ∧ Below N w w2) ⟨B0.alloc _, B1.alloc _, B2.alloc _, Bx.new _ _ _, (Below.refl _ _).alloc (by omega) _⟩ ?_
  rintro w2 ⟨A0, A1, A2, A3, q⟩
  generalize w.heap.size = M at *
  have n0 : N ≠ M := by omega
  have n1 : N + 1 ≠ M := by omega
  have n2 : N + 1 + 1 ≠ M := by omega
  have b0 := A0.cell' 0 _ rfl
  have f0 := A0.free 0
  have b1 := A0.cell' 1 _ rfl
  have f1 := A0.free 1
  have b2 := A0.cell' 2 _ rfl
  have f2 := A0.free 2
  have b3 := A0.cell' 3 _ rfl
  have f3 := A0.free 3
  have b4 := A0.cell' 4 _ rfl
  have f4 := A0.free 4
  have b5 := A0.cell' 5 _ rfl
  have f5 := A0.free 5
  have b6 := A0.cell' 6 _ rfl
  have f6 := A0.free 6
  have b7 := A0.cell' 7 _ rfl
  have f7 := A0.free 7
  have b8 := A0.cell' 8 _ rfl
  have f8 := A0.free 8
  have b9 := A0.cell' 9 _ rfl
  have f9 := A0.free 9
  have b10 := A0.cell' 10 _ rfl
  have f10 := A0.free 10
  have c0 := A1.cell' 0 _ rfl
  have c1 := A1.free 0
  have d0 := A2.cell' 0 _ rfl
  have d1 := A2.free 0
  have e0 := A3.cell' 0 _ rfl
  have e1 := A3.cell' 1 _ rfl
  have AA := Lib.hid (And.intro A0 (And.intro A1 (And.intro A2 q)))
  clear A0 A1 A2 A3 q B0 B1 B2
  go_region
  obtain ⟨A0, A1, A2, q⟩ := AA.out
  have h1 : N + 1 ≠ N := by omega
  have h2 : N + 1 + 1 ≠ N := by omega
  have h3 : N ≠ N + 1 := by omega
  have h4 : N ≠ N + 1 + 1 := by omega
  have h5 : N + 1 ≠ N + 1 + 1 := by omega
  have h6 : N + 1 + 1 ≠ N + 1 := by omega
  have P0 : Bx ((((putB w2 N (.int .i64 0) (.int .i64 0) (.bool false) (.slice none 0 0) (.int .i64 0) (.int .i64 0) (.slice none 0 0) (.int .i64 0) (.int .i64 0) (.slice none 0 0) (.int .i64 0)).setCell ⟨N + 1, 0, none⟩ (.int .i64 (p : Nat))).setCell ⟨N + 1 + 1, 0, none⟩ (.int .i64 c)).drew) N #[.int .i64 0, .int .i64 0, .bool false, .slice none 0 0, .int .i64 0, .int .i64 0, .slice none 0 0, .int .i64 0, .int .i64 0, .slice none 0 0, .int .i64 0] t0 := (((putB_bx _ _ _ _ _ _ _ _ _ _ _ A0).other h3 _).other h4 _).drew
  have P1 : Bx ((((putB w2 N (.int .i64 0) (.int .i64 0) (.bool false) (.slice none 0 0) (.int .i64 0) (.int .i64 0) (.slice none 0 0) (.int .i64 0) (.int .i64 0) (.slice none 0 0) (.int .i64 0)).setCell ⟨N + 1, 0, none⟩ (.int .i64 (p : Nat))).setCell ⟨N + 1 + 1, 0, none⟩ (.int .i64 c)).drew) (N + 1) #[.int .i64 (p : Nat)] t1 := ((Bx.set ((putB_heap w2 N (N + 1) _ _ _ _ _ _ _ _ _ _ _ h1).trans A1) 0 _).other h5 _).drew
  have P2 : Bx ((((putB w2 N (.int .i64 0) (.int .i64 0) (.bool false) (.slice none 0 0) (.int .i64 0) (.int .i64 0) (.slice none 0 0) (.int .i64 0) (.int .i64 0) (.slice none 0 0) (.int .i64 0)).setCell ⟨N + 1, 0, none⟩ (.int .i64 (p : Nat))).setCell ⟨N + 1 + 1, 0, none⟩ (.int .i64 c)).drew) (N + 1 + 1) #[.int .i64 c] t2 := (Bx.set (Bx.other ((putB_heap w2 N (N + 1 + 1) _ _ _ _ _ _ _ _ _ _ _ h2).trans A2) h6 _) 0 _).drew
  have P3 : Below N w ((((putB w2 N (.int .i64 0) (.int .i64 0) (.bool false) (.slice none 0 0) (.int .i64 0) (.int .i64 0) (.slice none 0 0) (.int .i64 0) (.int .i64 0) (.slice none 0 0) (.int .i64 0)).setCell ⟨N + 1, 0, none⟩ (.int .i64 (p : Nat))).setCell ⟨N + 1 + 1, 0, none⟩ (.int .i64 c)).drew) := by
    unfold putB
    exact ((((((((((((((q.setCell (p := ⟨N, 0, none⟩) (Nat.le_refl N) _).setCell (p := ⟨N, 1, none⟩) (Nat.le_refl N) _).setCell (p := ⟨N, 2, none⟩) (Nat.le_refl N) _).setCell (p := ⟨N, 3, none⟩) (Nat.le_refl N) _).setCell (p := ⟨N, 4, none⟩) (Nat.le_refl N) _).setCell (p := ⟨N, 5, none⟩) (Nat.le_refl N) _).setCell (p := ⟨N, 6, none⟩) (Nat.le_refl N) _).setCell (p := ⟨N, 7, none⟩) (Nat.le_refl N) _).setCell (p := ⟨N, 8, none⟩) (Nat.le_refl N) _).setCell (p := ⟨N, 9, none⟩) (Nat.le_refl N) _).setCell (p := ⟨N, 10, none⟩) (Nat.le_refl N) _).setCell (p := ⟨N + 1, 0, none⟩) (by show N ≤ N + 1; omega) _).setCell (p := ⟨N + 1 + 1, 0, none⟩) (by show N ≤ N + 1 + 1; omega) _).drew)
  unfold putB at P0 P1 P2 P3
  revert P0 P1 P2 P3
  generalize ((((((((((((w2.setCell ⟨N, 0, none⟩ (.int .i64 0)).setCell ⟨N, 1, none⟩ (.int .i64 0)).setCell ⟨N, 2, none⟩ (.bool false)).setCell ⟨N, 3, none⟩ (.slice none 0 0)).setCell ⟨N, 4, none⟩ (.int .i64 0)).setCell ⟨N, 5, none⟩ (.int .i64 0)).setCell ⟨N, 6, none⟩ (.slice none 0 0)).setCell ⟨N, 7, none⟩ (.int .i64 0)).setCell ⟨N, 8, none⟩ (.int .i64 0)).setCell ⟨N, 9, none⟩ (.slice none 0 0)).setCell ⟨N, 10, none⟩ (.int .i64 0)).setCell ⟨N + 1, 0, none⟩ (.int .i64 (p : Nat))).setCell ⟨N + 1 + 1, 0, none⟩ (.int .i64 c) = wz
  intro P0 P1 P2 P3
  clear AA A0 A1 A2 q
  change bodyPostS _ _ _ _ _ _ _ _ _
  simp [bodyPostS, results, Tryz.results23]
  first | exact ⟨_, rfl, P0, P1, P2, P3⟩ | exact ⟨rfl, P0, P1, P2, P3⟩ | exact ⟨P0, P1, P2, P3⟩
end Go.Proofs.YtciglhecjkeogaaGreatDoor
set_option linter.unusedVariables false
set_option linter.unusedSimpArgs false
namespace Go.Proofs.YtciglhecjkeogaaGreatDoor
open Go.RowKit
set_option maxRecDepth 100000 in
set_option maxHeartbeats 4000000 in
theorem sy_jump {P : Nat} {a : Option Addr} {cap : Nat} {ts : List Lx.Tok} {len : Nat} (hgd : Sy.Good ts) (i : Nat) (w : World) (h : Par w P a cap ts len i) (hx : Sy.tx ts i = [71, 79, 84, 79]) :
    Calls Tryz.prog 68 #[.pointer (some ⟨P, 0, none⟩)] w (PBl P a cap ts len w (Sy.wrapC (fun x => Sy.blk 2 [] Sy.zx x 0) (Sy.pV ts (i + 1)))) := by
  have A := syAll P a cap ts len (Sy.fuel ts)
  obtain ⟨hP, hO⟩ := h.lt
  have hle := h.le
  have H := Lib.hid h
  clear h
  have R : Hid (Bx (w.alloc (.cells blZ 37)) w.heap.size blZ 37) := Lib.hid (Bx.new w _ _)
  have hi := Sy.tx_lt hx (by decide)
  have x1 : Hid ((⟨#[71, 79, 84, 79]⟩ : ByteArray) = bs (Sy.tx ts i)) := Lib.hid (by rw [hx]; rfl)
  have x2 : Hid (Sy.tx ts i ≠ []) := Lib.hid (by rw [hx]; decide)
  clear hx
  have c1 : ∀ w, Par w P a cap ts len (i + 1) → Calls Tryz.prog 108 #[.pointer (some ⟨P, 0, none⟩)] w (PR P a cap ts len w (Sy.pV ts (i + 1))) := fun w h => sy_value (i + 1) w h
  cases e1 : Sy.pV ts (i + 1) with
  | bad j =>
    rw [e1] at c1
    have C1 := Lib.hid c1
    clear c1
    have q0 : Hid (Px P w w) := Lib.hid (Px.refl P w)
    go_enter Tryz.func68, Tryz.ntmps68
    go_wp2_with (first | (go_at_call 104; ((with_reducible refine (syExpectY (H.out.kept Qz) _ x1.out x2.out).mono ?_); rintro e w' ⟨rfl, hp, q⟩; have pw := (Par.lt hp).1; skip; replace H := Lib.hid hp; clear hp; replace q0 : Hid (Px P w w') := Lib.hid (Px.trans Pz q); clear q)) | (go_at_call 108; ((with_reducible refine (C1.out _ (H.out.kept Qz)).mono ?_); rintro e w' ⟨rfl, q⟩; replace q0 : Hid (Px P w w') := Lib.hid (Px.trans Pz q); clear q)))
    exact ⟨rfl, rfl, q0.out⟩
  | ok x j =>
    rw [e1] at c1
    have C1 := Lib.hid c1
    clear c1
    try simp only
    have q0 : Hid (Px P w w) := Lib.hid (Px.refl P w)
    go_enter Tryz.func68, Tryz.ntmps68
    go_wp2_with (first | (go_at_call 104; ((with_reducible refine (syExpectY (H.out.kept Qz) _ x1.out x2.out).mono ?_); rintro e w' ⟨rfl, hp, q⟩; have pw := (Par.lt hp).1; replace R : Hid (Bx w' w.heap.size blZ 37) := Lib.hid (Bx.px Rz q (by omega)); replace H := Lib.hid hp; clear hp; replace q0 : Hid (Px P w w') := Lib.hid (Px.trans Pz q); clear q)) | (go_at_call 108; ((with_reducible refine (C1.out _ (H.out.kept Qz)).mono ?_); rintro e w' ⟨ka, kc, rfl, k, hp, q⟩; have pw := (Par.lt hp).1; have K : Hid (KidsB w' (fun b => w.heap.size < b) ka kc (Sy.Ex.ks x)) := Lib.hid (KidsB.mono k (fun b hb => Nat.lt_of_lt_of_le (Bx.lt Rz) hb)); clear k; replace R : Hid (Bx w' w.heap.size blZ 37) := Lib.hid (Bx.px Rz q (by omega)); have rl := R.out.lt; have r0 := R.out.cell' 0 _ rfl; have s0 := R.out.free 0; have r1 := R.out.cell' 1 _ rfl; have s1 := R.out.free 1; have r2 := R.out.cell' 2 _ rfl; have s2 := R.out.free 2; have r3 := R.out.cell' 3 _ rfl; have s3 := R.out.free 3; have r4 := R.out.cell' 4 _ rfl; have s4 := R.out.free 4; have r5 := R.out.cell' 5 _ rfl; have s5 := R.out.free 5; have r6 := R.out.cell' 6 _ rfl; have s6 := R.out.free 6; have r7 := R.out.cell' 7 _ rfl; have s7 := R.out.free 7; have r8 := R.out.cell' 8 _ rfl; have s8 := R.out.free 8; have r9 := R.out.cell' 9 _ rfl; have s9 := R.out.free 9; have r10 := R.out.cell' 10 _ rfl; have s10 := R.out.free 10; replace H := Lib.hid hp; clear hp; replace q0 : Hid (Px P w w') := Lib.hid (Px.trans Pz q); clear q)))
    exact blRet (b := Sy.blk 2 [] Sy.zx x 0) Tryz.results68 rfl rfl hP hO R.out (⟨none, 0, none, 0, ka, kc, rfl, WordsB.nil _ _, KidsB.nl none 0 (by decide), K.out⟩ : BlkB _ (fun b => w.heap.size < b) (Sy.blk 2 [] Sy.zx x 0) #[.int .i64 2, .int .i64 0, .bool false, .slice none 0 0, .int .i64 0, .int .i64 0, .slice none 0 0, .int .i64 x.op, .int .i64 x.n, .slice ka x.ks.length kc, .int .i64 0]) H.out q0.out rfl
set_option maxRecDepth 100000 in
set_option maxHeartbeats 4000000 in
theorem sy_end {P : Nat} {a : Option Addr} {cap : Nat} {ts : List Lx.Tok} {len : Nat} (hgd : Sy.Good ts) (i : Nat) (w : World) (h : Par w P a cap ts len i) (hx : Sy.tx ts i = [69, 78, 68]) :
    Calls Tryz.prog 70 #[.pointer (some ⟨P, 0, none⟩)] w (PBl P a cap ts len w (Sy.wrapC (fun n => Sy.blk 5 [] Sy.zx Sy.zx n) (Sy.pN ts 3 (i + 1)))) := by
  have A := syAll P a cap ts len (Sy.fuel ts)
  obtain ⟨hP, hO⟩ := h.lt
  have hle := h.le
  have H := Lib.hid h
  clear h
  have R : Hid (Bx (w.alloc (.cells blZ 37)) w.heap.size blZ 37) := Lib.hid (Bx.new w _ _)
  have hi := Sy.tx_lt hx (by decide)
  have x1 : Hid ((⟨#[69, 78, 68]⟩ : ByteArray) = bs (Sy.tx ts i)) := Lib.hid (by rw [hx]; rfl)
  have x2 : Hid (Sy.tx ts i ≠ []) := Lib.hid (by rw [hx]; decide)
  clear hx
  have c1 : ∀ w, Par w P a cap ts len (i + 1) → Calls Tryz.prog 109 #[.pointer (some ⟨P, 0, none⟩)] w (PN P a cap ts len w (Sy.pN ts 3 (i + 1))) := fun w h => sy_loop hgd h
  cases e1 : Sy.pN ts 3 (i + 1) with
  | bad j =>
    rw [e1] at c1
    have C1 := Lib.hid c1
    clear c1
    have q0 : Hid (Px P w w) := Lib.hid (Px.refl P w)
    go_enter Tryz.func70, Tryz.ntmps70
    go_wp2_with (first | (go_at_call 104; ((with_reducible refine (syExpectY (H.out.kept Qz) _ x1.out x2.out).mono ?_); rintro e w' ⟨rfl, hp, q⟩; have pw := (Par.lt hp).1; skip; replace H := Lib.hid hp; clear hp; replace q0 : Hid (Px P w w') := Lib.hid (Px.trans Pz q); clear q)) | (go_at_call 109; ((with_reducible refine (C1.out _ (H.out.kept Qz)).mono ?_); rintro e w' ⟨rfl, q⟩; replace q0 : Hid (Px P w w') := Lib.hid (Px.trans Pz q); clear q)))
    exact ⟨rfl, rfl, q0.out⟩
  | ok n j =>
    rw [e1] at c1
    have C1 := Lib.hid c1
    clear c1
    try simp only
    have q0 : Hid (Px P w w) := Lib.hid (Px.refl P w)
    go_enter Tryz.func70, Tryz.ntmps70
    go_wp2_with (first | (go_at_call 104; ((with_reducible refine (syExpectY (H.out.kept Qz) _ x1.out x2.out).mono ?_); rintro e w' ⟨rfl, hp, q⟩; have pw := (Par.lt hp).1; replace R : Hid (Bx w' w.heap.size blZ 37) := Lib.hid (Bx.px Rz q (by omega)); replace H := Lib.hid hp; clear hp; replace q0 : Hid (Px P w w') := Lib.hid (Px.trans Pz q); clear q)) | (go_at_call 109; ((with_reducible refine (C1.out _ (H.out.kept Qz)).mono ?_); rintro e w' ⟨rfl, hp, q⟩; have pw := (Par.lt hp).1; replace R : Hid (Bx w' w.heap.size blZ 37) := Lib.hid (Bx.px Rz q (by omega)); have rl := R.out.lt; have r0 := R.out.cell' 0 _ rfl; have s0 := R.out.free 0; have r1 := R.out.cell' 1 _ rfl; have s1 := R.out.free 1; have r2 := R.out.cell' 2 _ rfl; have s2 := R.out.free 2; have r3 := R.out.cell' 3 _ rfl; have s3 := R.out.free 3; have r4 := R.out.cell' 4 _ rfl; have s4 := R.out.free 4; have r5 := R.out.cell' 5 _ rfl; have s5 := R.out.free 5; have r6 := R.out.cell' 6 _ rfl; have s6 := R.out.free 6; have r7 := R.out.cell' 7 _ rfl; have s7 := R.out.free 7; have r8 := R.out.cell' 8 _ rfl; have s8 := R.out.free 8; have r9 := R.out.cell' 9 _ rfl; have s9 := R.out.free 9; have r10 := R.out.cell' 10 _ rfl; have s10 := R.out.free 10; replace H := Lib.hid hp; clear hp; replace q0 : Hid (Px P w w') := Lib.hid (Px.trans Pz q); clear q)))
    exact blRet (b := Sy.blk 5 [] Sy.zx Sy.zx n) Tryz.results70 rfl rfl hP hO R.out (⟨none, 0, none, 0, none, 0, rfl, WordsB.nil _ _, KidsB.nl none 0 (by decide), KidsB.nl none 0 (by decide)⟩ : BlkB _ (fun b => w.heap.size < b) (Sy.blk 5 [] Sy.zx Sy.zx n) #[.int .i64 5, .int .i64 0, .bool false, .slice none 0 0, .int .i64 0, .int .i64 0, .slice none 0 0, .int .i64 0, .int .i64 0, .slice none 0 0, .int .i64 n]) H.out q0.out rfl
set_option maxRecDepth 100000 in
set_option maxHeartbeats 4000000 in
theorem sy_program {P : Nat} {a : Option Addr} {cap : Nat} {ts : List Lx.Tok} {len : Nat} (hgd : Sy.Good ts) (i : Nat) (w : World) (h : Par w P a cap ts len i) :
    Calls Tryz.prog 71 #[.pointer (some ⟨P, 0, none⟩)] w (PBl P a cap ts len w (Sy.wrapC (fun n => Sy.blk 6 [] Sy.zx Sy.zx n) (Sy.pN ts 99999 i))) := by
  have A := syAll P a cap ts len (Sy.fuel ts)
  obtain ⟨hP, hO⟩ := h.lt
  have hle := h.le
  have H := Lib.hid h
  clear h
  have R : Hid (Bx (w.alloc (.cells blZ 37)) w.heap.size blZ 37) := Lib.hid (Bx.new w _ _)
  have c1 : ∀ w, Par w P a cap ts len i → Calls Tryz.prog 42 #[.pointer (some ⟨P, 0, none⟩)] w (PN P a cap ts len w (Sy.pN ts 99999 i)) := fun w h => sy_count hgd h
  cases e1 : Sy.pN ts 99999 i with
  | bad j =>
    rw [e1] at c1
    have C1 := Lib.hid c1
    clear c1
    have q0 : Hid (Px P w w) := Lib.hid (Px.refl P w)
    go_enter Tryz.func71, Tryz.ntmps71
    go_wp2_with (go_at_call 42; ((with_reducible refine (C1.out _ (H.out.kept Qz)).mono ?_); rintro e w' ⟨rfl, q⟩; replace q0 : Hid (Px P w w') := Lib.hid (Px.trans Pz q); clear q))
    exact ⟨rfl, rfl, q0.out⟩
  | ok n j =>
    rw [e1] at c1
    have C1 := Lib.hid c1
    clear c1
    try simp only
    have q0 : Hid (Px P w w) := Lib.hid (Px.refl P w)
    go_enter Tryz.func71, Tryz.ntmps71
    go_wp2_with (go_at_call 42; ((with_reducible refine (C1.out _ (H.out.kept Qz)).mono ?_); rintro e w' ⟨rfl, hp, q⟩; have pw := (Par.lt hp).1; replace R : Hid (Bx w' w.heap.size blZ 37) := Lib.hid (Bx.px Rz q (by omega)); have rl := R.out.lt; have r0 := R.out.cell' 0 _ rfl; have s0 := R.out.free 0; have r1 := R.out.cell' 1 _ rfl; have s1 := R.out.free 1; have r2 := R.out.cell' 2 _ rfl; have s2 := R.out.free 2; have r3 := R.out.cell' 3 _ rfl; have s3 := R.out.free 3; have r4 := R.out.cell' 4 _ rfl; have s4 := R.out.free 4; have r5 := R.out.cell' 5 _ rfl; have s5 := R.out.free 5; have r6 := R.out.cell' 6 _ rfl; have s6 := R.out.free 6; have r7 := R.out.cell' 7 _ rfl; have s7 := R.out.free 7; have r8 := R.out.cell' 8 _ rfl; have s8 := R.out.free 8; have r9 := R.out.cell' 9 _ rfl; have s9 := R.out.free 9; have r10 := R.out.cell' 10 _ rfl; have s10 := R.out.free 10; replace H := Lib.hid hp; clear hp; replace q0 : Hid (Px P w w') := Lib.hid (Px.trans Pz q); clear q))
    exact blRet (b := Sy.blk 6 [] Sy.zx Sy.zx n) Tryz.results71 rfl rfl hP hO R.out (⟨none, 0, none, 0, none, 0, rfl, WordsB.nil _ _, KidsB.nl none 0 (by decide), KidsB.nl none 0 (by decide)⟩ : BlkB _ (fun b => w.heap.size < b) (Sy.blk 6 [] Sy.zx Sy.zx n) #[.int .i64 6, .int .i64 0, .bool false, .slice none 0 0, .int .i64 0, .int .i64 0, .slice none 0 0, .int .i64 0, .int .i64 0, .slice none 0 0, .int .i64 n]) H.out q0.out rfl
set_option maxRecDepth 100000 in
set_option maxHeartbeats 4000000 in
theorem sy_set {P : Nat} {a : Option Addr} {cap : Nat} {ts : List Lx.Tok} {len : Nat} (hgd : Sy.Good ts) (i : Nat) (w : World) (h : Par w P a cap ts len i) (hx : Sy.tx ts i = [35]) :
    Calls Tryz.prog 66 #[.pointer (some ⟨P, 0, none⟩)] w (PBl P a cap ts len w (match Sy.pC ts (Sy.fuel ts) (i + 1) with | .bad j => .bad j | .ok c j => if Sy.tx ts j = [61] then Sy.wrapC (fun x => Sy.blk 1 [] c x 0) (Sy.pE ts (Sy.fuel ts) 0 (j + 1)) else .bad j)) := by
  have A := syAll P a cap ts len (Sy.fuel ts)
  obtain ⟨hP, hO⟩ := h.lt
  have hle := h.le
  have H := Lib.hid h
  clear h
  have R : Hid (Bx (w.alloc (.cells blZ 37)) w.heap.size blZ 37) := Lib.hid (Bx.new w _ _)
  have hi := Sy.tx_lt hx (by decide)
  have x1 : Hid ((⟨#[35]⟩ : ByteArray) = bs (Sy.tx ts i)) := Lib.hid (by rw [hx]; rfl)
  have x2 : Hid (Sy.tx ts i ≠ []) := Lib.hid (by rw [hx]; decide)
  clear hx
  have c1 : ∀ w, Par w P a cap ts len (i + 1) → Calls Tryz.prog 105 #[.pointer (some ⟨P, 0, none⟩)] w (PR P a cap ts len w (Sy.pC ts (Sy.fuel ts) (i + 1))) := fun w h => A.c (i + 1) w h (by unfold Sy.fuel; omega)
  have hfw := (Sy.fwd ts (Sy.fuel ts)).c (i + 1) hi
  cases e1 : Sy.pC ts (Sy.fuel ts) (i + 1) with
  | bad j =>
    rw [e1] at c1
    have C1 := Lib.hid c1
    clear c1
    clear hfw
    have q0 : Hid (Px P w w) := Lib.hid (Px.refl P w)
    go_enter Tryz.func66, Tryz.ntmps66
    go_wp2_with (first | (go_at_call 104; ((with_reducible refine (syExpectY (H.out.kept Qz) _ x1.out x2.out).mono ?_); rintro e w' ⟨rfl, hp, q⟩; have pw := (Par.lt hp).1; skip; replace H := Lib.hid hp; clear hp; replace q0 : Hid (Px P w w') := Lib.hid (Px.trans Pz q); clear q)) | (go_at_call 105; ((with_reducible refine (C1.out _ (H.out.kept Qz)).mono ?_); rintro e w' ⟨rfl, q⟩; replace q0 : Hid (Px P w w') := Lib.hid (Px.trans Pz q); clear q)))
    exact ⟨rfl, rfl, q0.out⟩
  | ok x j =>
    rw [e1] at c1
    have C1 := Lib.hid c1
    clear c1
    try simp only
    rw [e1] at hfw
    have hfw2 : j ≤ ts.length := hfw.2
    have hfw1 : i + 1 < j := hfw.1
    clear hfw e1
    by_cases hx : Sy.tx ts j = [61]
    · rw [if_pos hx]
      have hj := Sy.tx_lt hx (by decide)
      have y1 : Hid ((⟨#[61]⟩ : ByteArray) = bs (Sy.tx ts j)) := Lib.hid (by rw [hx]; rfl)
      have y2 : Hid (Sy.tx ts j ≠ []) := Lib.hid (by rw [hx]; decide)
      clear hx
      have c2 : ∀ w, Par w P a cap ts len (j + 1) → Calls Tryz.prog 106 #[.pointer (some ⟨P, 0, none⟩)] w (PR P a cap ts len w (Sy.pE ts (Sy.fuel ts) 0 (j + 1))) := fun w h => A.e 0 (j + 1) w (by omega) h (by unfold Sy.need Sy.fuel; omega)
      cases e2 : Sy.pE ts (Sy.fuel ts) 0 (j + 1) with
      | bad m =>
        rw [e2] at c2
        have C2 := Lib.hid c2
        clear c2 e2
        have q0 : Hid (Px P w w) := Lib.hid (Px.refl P w)
        go_enter Tryz.func66, Tryz.ntmps66
        go_wp2_with (first | (go_at_call 104; ((with_reducible refine (syExpectY (H.out.kept Qz) _ x1.out x2.out).mono ?_); rintro e w' ⟨rfl, hp, q⟩; have pw := (Par.lt hp).1; replace R : Hid (Bx w' w.heap.size blZ 37) := Lib.hid (Bx.px Rz q (by omega)); replace H := Lib.hid hp; clear hp; replace q0 : Hid (Px P w w') := Lib.hid (Px.trans Pz q); clear q)) | (go_at_call 105; ((with_reducible refine (C1.out _ (H.out.kept Qz)).mono ?_); rintro e w' ⟨ka, kc, rfl, k, hp, q⟩; have pw := (Par.lt hp).1; have K : Hid (KidsB w' (fun b => w.heap.size < b) ka kc (Sy.Ex.ks x)) := Lib.hid (KidsB.mono k (fun b hb => Nat.lt_of_lt_of_le (Bx.lt Rz) hb)); clear k; replace R : Hid (Bx w' w.heap.size blZ 37) := Lib.hid (Bx.px Rz q (by omega)); have X : Hid (Bx (w'.alloc (.cells #[.int .i64 x.op, .int .i64 x.n, .slice ka x.ks.length kc] 31)) w'.heap.size _ _) := Lib.hid (Bx.new w' _ _); replace H := Lib.hid hp; clear hp; replace q0 : Hid (Px P w w') := Lib.hid (Px.trans Pz q); clear q)) | (go_at_call 104; ((with_reducible refine (syExpectY (H.out.kept Qz) _ y1.out y2.out).mono ?_); rintro e w' ⟨rfl, hp, q⟩; have pw := (Par.lt hp).1; replace R : Hid (Bx w' w.heap.size blZ 37) := Lib.hid (Bx.px Rz q (by omega)); replace K : Hid (KidsB w' (fun b => w.heap.size < b) ka kc x.ks) := Lib.hid (KidsB.px (by repeat (first | exact K.out | refine KidsB.alloc ?_ _ | refine KidsB.drew ?_)) (fun b hb => by omega) q); have xw := X.out.lt; replace X := Lib.hid (Bx.px (by repeat (first | exact X.out | refine Bx.alloc ?_ _ | refine Bx.drew ?_)) q (by omega)); have z0 := X.out.cell' 0 _ rfl; have z1 := X.out.cell' 1 _ rfl; have z2 := X.out.cell' 2 _ rfl; replace H := Lib.hid hp; clear hp; replace q0 : Hid (Px P w w') := Lib.hid (Px.trans Pz q); clear q)))
        go_region_with ((go_at_call 106; ((with_reducible refine (C2.out _ (H.out.kept Qz)).mono ?_); rintro e w' ⟨rfl, q⟩; replace q0 : Hid (Px P w w') := Lib.hid (Px.trans Pz q); clear q; refine dying (P := Tryz.prog) (w := w') ⟨rfl, rfl, q0.out⟩ ?_)))
        all_goals exact trivial
      | ok y m =>
        rw [e2] at c2
        have C2 := Lib.hid c2
        clear c2 e2
        have q0 : Hid (Px P w w) := Lib.hid (Px.refl P w)
        go_enter Tryz.func66, Tryz.ntmps66
        go_wp2_with (first | (go_at_call 104; ((with_reducible refine (syExpectY (H.out.kept Qz) _ x1.out x2.out).mono ?_); rintro e w' ⟨rfl, hp, q⟩; have pw := (Par.lt hp).1; replace R : Hid (Bx w' w.heap.size blZ 37) := Lib.hid (Bx.px Rz q (by omega)); replace H := Lib.hid hp; clear hp; replace q0 : Hid (Px P w w') := Lib.hid (Px.trans Pz q); clear q)) | (go_at_call 105; ((with_reducible refine (C1.out _ (H.out.kept Qz)).mono ?_); rintro e w' ⟨ka, kc, rfl, k, hp, q⟩; have pw := (Par.lt hp).1; have K : Hid (KidsB w' (fun b => w.heap.size < b) ka kc (Sy.Ex.ks x)) := Lib.hid (KidsB.mono k (fun b hb => Nat.lt_of_lt_of_le (Bx.lt Rz) hb)); clear k; replace R : Hid (Bx w' w.heap.size blZ 37) := Lib.hid (Bx.px Rz q (by omega)); have X : Hid (Bx (w'.alloc (.cells #[.int .i64 x.op, .int .i64 x.n, .slice ka x.ks.length kc] 31)) w'.heap.size _ _) := Lib.hid (Bx.new w' _ _); replace H := Lib.hid hp; clear hp; replace q0 : Hid (Px P w w') := Lib.hid (Px.trans Pz q); clear q)) | (go_at_call 104; ((with_reducible refine (syExpectY (H.out.kept Qz) _ y1.out y2.out).mono ?_); rintro e w' ⟨rfl, hp, q⟩; have pw := (Par.lt hp).1; replace R : Hid (Bx w' w.heap.size blZ 37) := Lib.hid (Bx.px Rz q (by omega)); replace K : Hid (KidsB w' (fun b => w.heap.size < b) ka kc x.ks) := Lib.hid (KidsB.px (by repeat (first | exact K.out | refine KidsB.alloc ?_ _ | refine KidsB.drew ?_)) (fun b hb => by omega) q); have xw := X.out.lt; replace X := Lib.hid (Bx.px (by repeat (first | exact X.out | refine Bx.alloc ?_ _ | refine Bx.drew ?_)) q (by omega)); have z0 := X.out.cell' 0 _ rfl; have z1 := X.out.cell' 1 _ rfl; have z2 := X.out.cell' 2 _ rfl; replace H := Lib.hid hp; clear hp; replace q0 : Hid (Px P w w') := Lib.hid (Px.trans Pz q); clear q)))
        go_region_with (go_at_call 106; ((with_reducible refine (C2.out _ (H.out.kept Qz)).mono ?_); rintro e w' ⟨kb, kd, rfl, k, hp, q⟩; have pw := (Par.lt hp).1; have L : Hid (KidsB w' (fun b => w.heap.size < b) kb kd (Sy.Ex.ks y)) := Lib.hid (KidsB.mono k (fun b hb => Nat.lt_of_lt_of_le (Bx.lt Rz) hb)); clear k; replace R : Hid (Bx w' w.heap.size blZ 37) := Lib.hid (Bx.px Rz q (by omega)); replace K : Hid (KidsB w' (fun b => w.heap.size < b) ka kc x.ks) := Lib.hid (KidsB.px (by repeat (first | exact K.out | refine KidsB.alloc ?_ _ | refine KidsB.drew ?_)) (fun b hb => by omega) q); have xw := X.out.lt; replace X := Lib.hid (Bx.px (by repeat (first | exact X.out | refine Bx.alloc ?_ _ | refine Bx.drew ?_)) q (by omega)); have z0 := X.out.cell' 0 _ rfl; have z1 := X.out.cell' 1 _ rfl; have z2 := X.out.cell' 2 _ rfl; have rl := R.out.lt; have r0 := R.out.cell' 0 _ rfl; have s0 := R.out.free 0; have r1 := R.out.cell' 1 _ rfl; have s1 := R.out.free 1; have r2 := R.out.cell' 2 _ rfl; have s2 := R.out.free 2; have r3 := R.out.cell' 3 _ rfl; have s3 := R.out.free 3; have r4 := R.out.cell' 4 _ rfl; have s4 := R.out.free 4; have r5 := R.out.cell' 5 _ rfl; have s5 := R.out.free 5; have r6 := R.out.cell' 6 _ rfl; have s6 := R.out.free 6; have r7 := R.out.cell' 7 _ rfl; have s7 := R.out.free 7; have r8 := R.out.cell' 8 _ rfl; have s8 := R.out.free 8; have r9 := R.out.cell' 9 _ rfl; have s9 := R.out.free 9; have r10 := R.out.cell' 10 _ rfl; have s10 := R.out.free 10; replace H := Lib.hid hp; clear hp; replace q0 : Hid (Px P w w') := Lib.hid (Px.trans Pz q); clear q))
        all_goals go_wp2_with fail
        all_goals exact blRet (b := Sy.blk 1 [] x y 0) Tryz.results66 rfl rfl hP hO R.out (⟨none, 0, ka, kc, kb, kd, rfl, WordsB.nil _ _, K.out, L.out⟩ : BlkB _ (fun b => w.heap.size < b) (Sy.blk 1 [] x y 0) #[.int .i64 1, .int .i64 0, .bool false, .slice none 0 0, .int .i64 x.op, .int .i64 x.n, .slice ka x.ks.length kc, .int .i64 y.op, .int .i64 y.n, .slice kb y.ks.length kd, .int .i64 0]) H.out q0.out rfl
    · rw [if_neg hx]
      have y1 : Hid ((⟨#[61]⟩ : ByteArray) ≠ bs (Sy.tx ts j)) := Lib.hid (fun h => hx (bs_inj.1 (show bs [61] = _ from h)).symm)
      clear hx
      have q0 : Hid (Px P w w) := Lib.hid (Px.refl P w)
      go_enter Tryz.func66, Tryz.ntmps66
      go_wp2_with (first | (go_at_call 104; ((with_reducible refine (syExpectY (H.out.kept Qz) _ x1.out x2.out).mono ?_); rintro e w' ⟨rfl, hp, q⟩; have pw := (Par.lt hp).1; replace R : Hid (Bx w' w.heap.size blZ 37) := Lib.hid (Bx.px Rz q (by omega)); replace H := Lib.hid hp; clear hp; replace q0 : Hid (Px P w w') := Lib.hid (Px.trans Pz q); clear q)) | (go_at_call 105; ((with_reducible refine (C1.out _ (H.out.kept Qz)).mono ?_); rintro e w' ⟨ka, kc, rfl, k, hp, q⟩; have pw := (Par.lt hp).1; have K : Hid (KidsB w' (fun b => w.heap.size < b) ka kc (Sy.Ex.ks x)) := Lib.hid (KidsB.mono k (fun b hb => Nat.lt_of_lt_of_le (Bx.lt Rz) hb)); clear k; replace R : Hid (Bx w' w.heap.size blZ 37) := Lib.hid (Bx.px Rz q (by omega)); replace H := Lib.hid hp; clear hp; replace q0 : Hid (Px P w w') := Lib.hid (Px.trans Pz q); clear q)) | (go_at_call 104; ((with_reducible refine (syExpectN (H.out.kept Qz) _ y1.out).mono ?_); rintro e w' ⟨rfl, q⟩; replace q0 : Hid (Px P w w') := Lib.hid (Px.trans Pz (Px.of q)); clear q)))
      exact ⟨rfl, rfl, q0.out⟩
set_option maxRecDepth 100000 in
set_option maxHeartbeats 4000000 in
theorem sy_branch {P : Nat} {a : Option Addr} {cap : Nat} {ts : List Lx.Tok} {len : Nat} (hgd : Sy.Good ts) (i : Nat) (w : World) (h : Par w P a cap ts len i) (hx : Sy.tx ts i = [73, 70]) :
    Calls Tryz.prog 67 #[.pointer (some ⟨P, 0, none⟩)] w (PBl P a cap ts len w (match Sy.pB ts (Sy.fuel ts) (i + 1) with | .bad j => .bad j | .ok x j => if Sy.tx ts j = [71, 79, 84, 79] then Sy.wrapC (fun v => Sy.blk 3 [] v x 0) (Sy.pV ts (j + 1)) else .bad j)) := by
  have A := syAll P a cap ts len (Sy.fuel ts)
  obtain ⟨hP, hO⟩ := h.lt
  have hle := h.le
  have H := Lib.hid h
  clear h
  have R : Hid (Bx (w.alloc (.cells blZ 37)) w.heap.size blZ 37) := Lib.hid (Bx.new w _ _)
  have hi := Sy.tx_lt hx (by decide)
  have x1 : Hid ((⟨#[73, 70]⟩ : ByteArray) = bs (Sy.tx ts i)) := Lib.hid (by rw [hx]; rfl)
  have x2 : Hid (Sy.tx ts i ≠ []) := Lib.hid (by rw [hx]; decide)
  clear hx
  have c1 : ∀ w, Par w P a cap ts len (i + 1) → Calls Tryz.prog 107 #[.pointer (some ⟨P, 0, none⟩)] w (PR P a cap ts len w (Sy.pB ts (Sy.fuel ts) (i + 1))) := fun w h => A.b (i + 1) w h (by unfold Sy.fuel; omega)
  have hfw := (Sy.fwd ts (Sy.fuel ts)).b (i + 1) hi
  cases e1 : Sy.pB ts (Sy.fuel ts) (i + 1) with
  | bad j =>
    rw [e1] at c1
    have C1 := Lib.hid c1
    clear c1
    clear hfw
    have q0 : Hid (Px P w w) := Lib.hid (Px.refl P w)
    go_enter Tryz.func67, Tryz.ntmps67
    go_wp2_with (first | (go_at_call 104; ((with_reducible refine (syExpectY (H.out.kept Qz) _ x1.out x2.out).mono ?_); rintro e w' ⟨rfl, hp, q⟩; have pw := (Par.lt hp).1; skip; replace H := Lib.hid hp; clear hp; replace q0 : Hid (Px P w w') := Lib.hid (Px.trans Pz q); clear q)) | (go_at_call 107; ((with_reducible refine (C1.out _ (H.out.kept Qz)).mono ?_); rintro e w' ⟨rfl, q⟩; replace q0 : Hid (Px P w w') := Lib.hid (Px.trans Pz q); clear q)))
    exact ⟨rfl, rfl, q0.out⟩
  | ok x j =>
    rw [e1] at c1
    have C1 := Lib.hid c1
    clear c1
    try simp only
    rw [e1] at hfw
    have hfw2 : j ≤ ts.length := hfw.2
    have hfw1 : i + 1 < j := hfw.1
    clear hfw e1
    by_cases hx : Sy.tx ts j = [71, 79, 84, 79]
    · rw [if_pos hx]
      have hj := Sy.tx_lt hx (by decide)
      have y1 : Hid ((⟨#[71, 79, 84, 79]⟩ : ByteArray) = bs (Sy.tx ts j)) := Lib.hid (by rw [hx]; rfl)
      have y2 : Hid (Sy.tx ts j ≠ []) := Lib.hid (by rw [hx]; decide)
      clear hx
      have c2 : ∀ w, Par w P a cap ts len (j + 1) → Calls Tryz.prog 108 #[.pointer (some ⟨P, 0, none⟩)] w (PR P a cap ts len w (Sy.pV ts (j + 1))) := fun w h => sy_value (j + 1) w h
      cases e2 : Sy.pV ts (j + 1) with
      | bad m =>
        rw [e2] at c2
        have C2 := Lib.hid c2
        clear c2 e2
        have q0 : Hid (Px P w w) := Lib.hid (Px.refl P w)
        go_enter Tryz.func67, Tryz.ntmps67
        go_wp2_with (first | (go_at_call 104; ((with_reducible refine (syExpectY (H.out.kept Qz) _ x1.out x2.out).mono ?_); rintro e w' ⟨rfl, hp, q⟩; have pw := (Par.lt hp).1; replace R : Hid (Bx w' w.heap.size blZ 37) := Lib.hid (Bx.px Rz q (by omega)); replace H := Lib.hid hp; clear hp; replace q0 : Hid (Px P w w') := Lib.hid (Px.trans Pz q); clear q)) | (go_at_call 107; ((with_reducible refine (C1.out _ (H.out.kept Qz)).mono ?_); rintro e w' ⟨ka, kc, rfl, k, hp, q⟩; have pw := (Par.lt hp).1; have K : Hid (KidsB w' (fun b => w.heap.size < b) ka kc (Sy.Ex.ks x)) := Lib.hid (KidsB.mono k (fun b hb => Nat.lt_of_lt_of_le (Bx.lt Rz) hb)); clear k; replace R : Hid (Bx w' w.heap.size blZ 37) := Lib.hid (Bx.px Rz q (by omega)); have X : Hid (Bx (w'.alloc (.cells #[.int .i64 x.op, .int .i64 x.n, .slice ka x.ks.length kc] 31)) w'.heap.size _ _) := Lib.hid (Bx.new w' _ _); replace H := Lib.hid hp; clear hp; replace q0 : Hid (Px P w w') := Lib.hid (Px.trans Pz q); clear q)) | (go_at_call 104; ((with_reducible refine (syExpectY (H.out.kept Qz) _ y1.out y2.out).mono ?_); rintro e w' ⟨rfl, hp, q⟩; have pw := (Par.lt hp).1; replace R : Hid (Bx w' w.heap.size blZ 37) := Lib.hid (Bx.px Rz q (by omega)); replace K : Hid (KidsB w' (fun b => w.heap.size < b) ka kc x.ks) := Lib.hid (KidsB.px (by repeat (first | exact K.out | refine KidsB.alloc ?_ _ | refine KidsB.drew ?_)) (fun b hb => by omega) q); have xw := X.out.lt; replace X := Lib.hid (Bx.px (by repeat (first | exact X.out | refine Bx.alloc ?_ _ | refine Bx.drew ?_)) q (by omega)); have z0 := X.out.cell' 0 _ rfl; have z1 := X.out.cell' 1 _ rfl; have z2 := X.out.cell' 2 _ rfl; replace H := Lib.hid hp; clear hp; replace q0 : Hid (Px P w w') := Lib.hid (Px.trans Pz q); clear q)))
        go_region_with ((go_at_call 108; ((with_reducible refine (C2.out _ (H.out.kept Qz)).mono ?_); rintro e w' ⟨rfl, q⟩; replace q0 : Hid (Px P w w') := Lib.hid (Px.trans Pz q); clear q; refine dying (P := Tryz.prog) (w := w') ⟨rfl, rfl, q0.out⟩ ?_)))
        all_goals exact trivial
      | ok y m =>
        rw [e2] at c2
        have C2 := Lib.hid c2
        clear c2 e2
        have q0 : Hid (Px P w w) := Lib.hid (Px.refl P w)
        go_enter Tryz.func67, Tryz.ntmps67
        go_wp2_with (first | (go_at_call 104; ((with_reducible refine (syExpectY (H.out.kept Qz) _ x1.out x2.out).mono ?_); rintro e w' ⟨rfl, hp, q⟩; have pw := (Par.lt hp).1; replace R : Hid (Bx w' w.heap.size blZ 37) := Lib.hid (Bx.px Rz q (by omega)); replace H := Lib.hid hp; clear hp; replace q0 : Hid (Px P w w') := Lib.hid (Px.trans Pz q); clear q)) | (go_at_call 107; ((with_reducible refine (C1.out _ (H.out.kept Qz)).mono ?_); rintro e w' ⟨ka, kc, rfl, k, hp, q⟩; have pw := (Par.lt hp).1; have K : Hid (KidsB w' (fun b => w.heap.size < b) ka kc (Sy.Ex.ks x)) := Lib.hid (KidsB.mono k (fun b hb => Nat.lt_of_lt_of_le (Bx.lt Rz) hb)); clear k; replace R : Hid (Bx w' w.heap.size blZ 37) := Lib.hid (Bx.px Rz q (by omega)); have X : Hid (Bx (w'.alloc (.cells #[.int .i64 x.op, .int .i64 x.n, .slice ka x.ks.length kc] 31)) w'.heap.size _ _) := Lib.hid (Bx.new w' _ _); replace H := Lib.hid hp; clear hp; replace q0 : Hid (Px P w w') := Lib.hid (Px.trans Pz q); clear q)) | (go_at_call 104; ((with_reducible refine (syExpectY (H.out.kept Qz) _ y1.out y2.out).mono ?_); rintro e w' ⟨rfl, hp, q⟩; have pw := (Par.lt hp).1; replace R : Hid (Bx w' w.heap.size blZ 37) := Lib.hid (Bx.px Rz q (by omega)); replace K : Hid (KidsB w' (fun b => w.heap.size < b) ka kc x.ks) := Lib.hid (KidsB.px (by repeat (first | exact K.out | refine KidsB.alloc ?_ _ | refine KidsB.drew ?_)) (fun b hb => by omega) q); have xw := X.out.lt; replace X := Lib.hid (Bx.px (by repeat (first | exact X.out | refine Bx.alloc ?_ _ | refine Bx.drew ?_)) q (by omega)); have z0 := X.out.cell' 0 _ rfl; have z1 := X.out.cell' 1 _ rfl; have z2 := X.out.cell' 2 _ rfl; replace H := Lib.hid hp; clear hp; replace q0 : Hid (Px P w w') := Lib.hid (Px.trans Pz q); clear q)))
        go_region_with (go_at_call 108; ((with_reducible refine (C2.out _ (H.out.kept Qz)).mono ?_); rintro e w' ⟨kb, kd, rfl, k, hp, q⟩; have pw := (Par.lt hp).1; have L : Hid (KidsB w' (fun b => w.heap.size < b) kb kd (Sy.Ex.ks y)) := Lib.hid (KidsB.mono k (fun b hb => Nat.lt_of_lt_of_le (Bx.lt Rz) hb)); clear k; replace R : Hid (Bx w' w.heap.size blZ 37) := Lib.hid (Bx.px Rz q (by omega)); replace K : Hid (KidsB w' (fun b => w.heap.size < b) ka kc x.ks) := Lib.hid (KidsB.px (by repeat (first | exact K.out | refine KidsB.alloc ?_ _ | refine KidsB.drew ?_)) (fun b hb => by omega) q); have xw := X.out.lt; replace X := Lib.hid (Bx.px (by repeat (first | exact X.out | refine Bx.alloc ?_ _ | refine Bx.drew ?_)) q (by omega)); have z0 := X.out.cell' 0 _ rfl; have z1 := X.out.cell' 1 _ rfl; have z2 := X.out.cell' 2 _ rfl; have rl := R.out.lt; have r0 := R.out.cell' 0 _ rfl; have s0 := R.out.free 0; have r1 := R.out.cell' 1 _ rfl; have s1 := R.out.free 1; have r2 := R.out.cell' 2 _ rfl; have s2 := R.out.free 2; have r3 := R.out.cell' 3 _ rfl; have s3 := R.out.free 3; have r4 := R.out.cell' 4 _ rfl; have s4 := R.out.free 4; have r5 := R.out.cell' 5 _ rfl; have s5 := R.out.free 5; have r6 := R.out.cell' 6 _ rfl; have s6 := R.out.free 6; have r7 := R.out.cell' 7 _ rfl; have s7 := R.out.free 7; have r8 := R.out.cell' 8 _ rfl; have s8 := R.out.free 8; have r9 := R.out.cell' 9 _ rfl; have s9 := R.out.free 9; have r10 := R.out.cell' 10 _ rfl; have s10 := R.out.free 10; replace H := Lib.hid hp; clear hp; replace q0 : Hid (Px P w w') := Lib.hid (Px.trans Pz q); clear q))
        all_goals go_wp2_with fail
        all_goals exact blRet (b := Sy.blk 3 [] y x 0) Tryz.results67 rfl rfl hP hO R.out (⟨none, 0, kb, kd, ka, kc, rfl, WordsB.nil _ _, L.out, K.out⟩ : BlkB _ (fun b => w.heap.size < b) (Sy.blk 3 [] y x 0) #[.int .i64 3, .int .i64 0, .bool false, .slice none 0 0, .int .i64 y.op, .int .i64 y.n, .slice kb y.ks.length kd, .int .i64 x.op, .int .i64 x.n, .slice ka x.ks.length kc, .int .i64 0]) H.out q0.out rfl
    · rw [if_neg hx]
      have y1 : Hid ((⟨#[71, 79, 84, 79]⟩ : ByteArray) ≠ bs (Sy.tx ts j)) := Lib.hid (fun h => hx (bs_inj.1 (show bs [71, 79, 84, 79] = _ from h)).symm)
      clear hx
      have q0 : Hid (Px P w w) := Lib.hid (Px.refl P w)
      go_enter Tryz.func67, Tryz.ntmps67
      go_wp2_with (first | (go_at_call 104; ((with_reducible refine (syExpectY (H.out.kept Qz) _ x1.out x2.out).mono ?_); rintro e w' ⟨rfl, hp, q⟩; have pw := (Par.lt hp).1; replace R : Hid (Bx w' w.heap.size blZ 37) := Lib.hid (Bx.px Rz q (by omega)); replace H := Lib.hid hp; clear hp; replace q0 : Hid (Px P w w') := Lib.hid (Px.trans Pz q); clear q)) | (go_at_call 107; ((with_reducible refine (C1.out _ (H.out.kept Qz)).mono ?_); rintro e w' ⟨ka, kc, rfl, k, hp, q⟩; have pw := (Par.lt hp).1; have K : Hid (KidsB w' (fun b => w.heap.size < b) ka kc (Sy.Ex.ks x)) := Lib.hid (KidsB.mono k (fun b hb => Nat.lt_of_lt_of_le (Bx.lt Rz) hb)); clear k; replace R : Hid (Bx w' w.heap.size blZ 37) := Lib.hid (Bx.px Rz q (by omega)); replace H := Lib.hid hp; clear hp; replace q0 : Hid (Px P w w') := Lib.hid (Px.trans Pz q); clear q)) | (go_at_call 104; ((with_reducible refine (syExpectN (H.out.kept Qz) _ y1.out).mono ?_); rintro e w' ⟨rfl, q⟩; replace q0 : Hid (Px P w w') := Lib.hid (Px.trans Pz (Px.of q)); clear q)))
      exact ⟨rfl, rfl, q0.out⟩
set_option maxRecDepth 100000 in
set_option maxHeartbeats 4000000 in
theorem sy_while {P : Nat} {a : Option Addr} {cap : Nat} {ts : List Lx.Tok} {len : Nat} (hgd : Sy.Good ts) (i : Nat) (w : World) (h : Par w P a cap ts len i) (hx : Sy.tx ts i = [87, 72, 73, 76, 69]) :
    Calls Tryz.prog 69 #[.pointer (some ⟨P, 0, none⟩)] w (PBl P a cap ts len w (match Sy.pB ts (Sy.fuel ts) (i + 1) with | .bad j => .bad j | .ok x j => if Sy.tx ts j = [68, 79] then Sy.wrapC (fun n => Sy.blk 4 [] Sy.zx x n) (Sy.pN ts 3 (j + 1)) else .bad j)) := by
  have A := syAll P a cap ts len (Sy.fuel ts)
  obtain ⟨hP, hO⟩ := h.lt
  have hle := h.le
  have H := Lib.hid h
  clear h
  have R : Hid (Bx (w.alloc (.cells blZ 37)) w.heap.size blZ 37) := Lib.hid (Bx.new w _ _)
  have hi := Sy.tx_lt hx (by decide)
  have x1 : Hid ((⟨#[87, 72, 73, 76, 69]⟩ : ByteArray) = bs (Sy.tx ts i)) := Lib.hid (by rw [hx]; rfl)
  have x2 : Hid (Sy.tx ts i ≠ []) := Lib.hid (by rw [hx]; decide)
  clear hx
  have c1 : ∀ w, Par w P a cap ts len (i + 1) → Calls Tryz.prog 107 #[.pointer (some ⟨P, 0, none⟩)] w (PR P a cap ts len w (Sy.pB ts (Sy.fuel ts) (i + 1))) := fun w h => A.b (i + 1) w h (by unfold Sy.fuel; omega)
  have hfw := (Sy.fwd ts (Sy.fuel ts)).b (i + 1) hi
  cases e1 : Sy.pB ts (Sy.fuel ts) (i + 1) with
  | bad j =>
    rw [e1] at c1
    have C1 := Lib.hid c1
    clear c1
    clear hfw
    have q0 : Hid (Px P w w) := Lib.hid (Px.refl P w)
    go_enter Tryz.func69, Tryz.ntmps69
    go_wp2_with (first | (go_at_call 104; ((with_reducible refine (syExpectY (H.out.kept Qz) _ x1.out x2.out).mono ?_); rintro e w' ⟨rfl, hp, q⟩; have pw := (Par.lt hp).1; skip; replace H := Lib.hid hp; clear hp; replace q0 : Hid (Px P w w') := Lib.hid (Px.trans Pz q); clear q)) | (go_at_call 107; ((with_reducible refine (C1.out _ (H.out.kept Qz)).mono ?_); rintro e w' ⟨rfl, q⟩; replace q0 : Hid (Px P w w') := Lib.hid (Px.trans Pz q); clear q)))
    exact ⟨rfl, rfl, q0.out⟩
  | ok x j =>
    rw [e1] at c1
    have C1 := Lib.hid c1
    clear c1
    try simp only
    rw [e1] at hfw
    have hfw2 : j ≤ ts.length := hfw.2
    have hfw1 : i + 1 < j := hfw.1
    clear hfw e1
    by_cases hx : Sy.tx ts j = [68, 79]
    · rw [if_pos hx]
      have hj := Sy.tx_lt hx (by decide)
      have y1 : Hid ((⟨#[68, 79]⟩ : ByteArray) = bs (Sy.tx ts j)) := Lib.hid (by rw [hx]; rfl)
      have y2 : Hid (Sy.tx ts j ≠ []) := Lib.hid (by rw [hx]; decide)
      clear hx
      have c2 : ∀ w, Par w P a cap ts len (j + 1) → Calls Tryz.prog 109 #[.pointer (some ⟨P, 0, none⟩)] w (PN P a cap ts len w (Sy.pN ts 3 (j + 1))) := fun w h => sy_loop hgd h
      cases e2 : Sy.pN ts 3 (j + 1) with
      | bad m =>
        rw [e2] at c2
        have C2 := Lib.hid c2
        clear c2 e2
        have q0 : Hid (Px P w w) := Lib.hid (Px.refl P w)
        go_enter Tryz.func69, Tryz.ntmps69
        go_wp2_with (first | (go_at_call 104; ((with_reducible refine (syExpectY (H.out.kept Qz) _ x1.out x2.out).mono ?_); rintro e w' ⟨rfl, hp, q⟩; have pw := (Par.lt hp).1; replace R : Hid (Bx w' w.heap.size blZ 37) := Lib.hid (Bx.px Rz q (by omega)); replace H := Lib.hid hp; clear hp; replace q0 : Hid (Px P w w') := Lib.hid (Px.trans Pz q); clear q)) | (go_at_call 107; ((with_reducible refine (C1.out _ (H.out.kept Qz)).mono ?_); rintro e w' ⟨ka, kc, rfl, k, hp, q⟩; have pw := (Par.lt hp).1; have K : Hid (KidsB w' (fun b => w.heap.size < b) ka kc (Sy.Ex.ks x)) := Lib.hid (KidsB.mono k (fun b hb => Nat.lt_of_lt_of_le (Bx.lt Rz) hb)); clear k; replace R : Hid (Bx w' w.heap.size blZ 37) := Lib.hid (Bx.px Rz q (by omega)); have X : Hid (Bx (w'.alloc (.cells #[.int .i64 x.op, .int .i64 x.n, .slice ka x.ks.length kc] 31)) w'.heap.size _ _) := Lib.hid (Bx.new w' _ _); replace H := Lib.hid hp; clear hp; replace q0 : Hid (Px P w w') := Lib.hid (Px.trans Pz q); clear q)) | (go_at_call 104; ((with_reducible refine (syExpectY (H.out.kept Qz) _ y1.out y2.out).mono ?_); rintro e w' ⟨rfl, hp, q⟩; have pw := (Par.lt hp).1; replace R : Hid (Bx w' w.heap.size blZ 37) := Lib.hid (Bx.px Rz q (by omega)); replace K : Hid (KidsB w' (fun b => w.heap.size < b) ka kc x.ks) := Lib.hid (KidsB.px (by repeat (first | exact K.out | refine KidsB.alloc ?_ _ | refine KidsB.drew ?_)) (fun b hb => by omega) q); have xw := X.out.lt; replace X := Lib.hid (Bx.px (by repeat (first | exact X.out | refine Bx.alloc ?_ _ | refine Bx.drew ?_)) q (by omega)); have z0 := X.out.cell' 0 _ rfl; have z1 := X.out.cell' 1 _ rfl; have z2 := X.out.cell' 2 _ rfl; replace H := Lib.hid hp; clear hp; replace q0 : Hid (Px P w w') := Lib.hid (Px.trans Pz q); clear q)))
        go_region_with ((go_at_call 109; ((with_reducible refine (C2.out _ (H.out.kept Qz)).mono ?_); rintro e w' ⟨rfl, q⟩; replace q0 : Hid (Px P w w') := Lib.hid (Px.trans Pz q); clear q; refine dying (P := Tryz.prog) (w := w') ⟨rfl, rfl, q0.out⟩ ?_)))
        all_goals exact trivial
      | ok n m =>
        rw [e2] at c2
        have C2 := Lib.hid c2
        clear c2 e2
        have q0 : Hid (Px P w w) := Lib.hid (Px.refl P w)
        go_enter Tryz.func69, Tryz.ntmps69
        go_wp2_with (first | (go_at_call 104; ((with_reducible refine (syExpectY (H.out.kept Qz) _ x1.out x2.out).mono ?_); rintro e w' ⟨rfl, hp, q⟩; have pw := (Par.lt hp).1; replace R : Hid (Bx w' w.heap.size blZ 37) := Lib.hid (Bx.px Rz q (by omega)); replace H := Lib.hid hp; clear hp; replace q0 : Hid (Px P w w') := Lib.hid (Px.trans Pz q); clear q)) | (go_at_call 107; ((with_reducible refine (C1.out _ (H.out.kept Qz)).mono ?_); rintro e w' ⟨ka, kc, rfl, k, hp, q⟩; have pw := (Par.lt hp).1; have K : Hid (KidsB w' (fun b => w.heap.size < b) ka kc (Sy.Ex.ks x)) := Lib.hid (KidsB.mono k (fun b hb => Nat.lt_of_lt_of_le (Bx.lt Rz) hb)); clear k; replace R : Hid (Bx w' w.heap.size blZ 37) := Lib.hid (Bx.px Rz q (by omega)); have X : Hid (Bx (w'.alloc (.cells #[.int .i64 x.op, .int .i64 x.n, .slice ka x.ks.length kc] 31)) w'.heap.size _ _) := Lib.hid (Bx.new w' _ _); replace H := Lib.hid hp; clear hp; replace q0 : Hid (Px P w w') := Lib.hid (Px.trans Pz q); clear q)) | (go_at_call 104; ((with_reducible refine (syExpectY (H.out.kept Qz) _ y1.out y2.out).mono ?_); rintro e w' ⟨rfl, hp, q⟩; have pw := (Par.lt hp).1; replace R : Hid (Bx w' w.heap.size blZ 37) := Lib.hid (Bx.px Rz q (by omega)); replace K : Hid (KidsB w' (fun b => w.heap.size < b) ka kc x.ks) := Lib.hid (KidsB.px (by repeat (first | exact K.out | refine KidsB.alloc ?_ _ | refine KidsB.drew ?_)) (fun b hb => by omega) q); have xw := X.out.lt; replace X := Lib.hid (Bx.px (by repeat (first | exact X.out | refine Bx.alloc ?_ _ | refine Bx.drew ?_)) q (by omega)); have z0 := X.out.cell' 0 _ rfl; have z1 := X.out.cell' 1 _ rfl; have z2 := X.out.cell' 2 _ rfl; replace H := Lib.hid hp; clear hp; replace q0 : Hid (Px P w w') := Lib.hid (Px.trans Pz q); clear q)))
        go_region_with (go_at_call 109; ((with_reducible refine (C2.out _ (H.out.kept Qz)).mono ?_); rintro e w' ⟨rfl, hp, q⟩; have pw := (Par.lt hp).1; replace R : Hid (Bx w' w.heap.size blZ 37) := Lib.hid (Bx.px Rz q (by omega)); replace K : Hid (KidsB w' (fun b => w.heap.size < b) ka kc x.ks) := Lib.hid (KidsB.px (by repeat (first | exact K.out | refine KidsB.alloc ?_ _ | refine KidsB.drew ?_)) (fun b hb => by omega) q); have xw := X.out.lt; replace X := Lib.hid (Bx.px (by repeat (first | exact X.out | refine Bx.alloc ?_ _ | refine Bx.drew ?_)) q (by omega)); have z0 := X.out.cell' 0 _ rfl; have z1 := X.out.cell' 1 _ rfl; have z2 := X.out.cell' 2 _ rfl; have rl := R.out.lt; have r0 := R.out.cell' 0 _ rfl; have s0 := R.out.free 0; have r1 := R.out.cell' 1 _ rfl; have s1 := R.out.free 1; have r2 := R.out.cell' 2 _ rfl; have s2 := R.out.free 2; have r3 := R.out.cell' 3 _ rfl; have s3 := R.out.free 3; have r4 := R.out.cell' 4 _ rfl; have s4 := R.out.free 4; have r5 := R.out.cell' 5 _ rfl; have s5 := R.out.free 5; have r6 := R.out.cell' 6 _ rfl; have s6 := R.out.free 6; have r7 := R.out.cell' 7 _ rfl; have s7 := R.out.free 7; have r8 := R.out.cell' 8 _ rfl; have s8 := R.out.free 8; have r9 := R.out.cell' 9 _ rfl; have s9 := R.out.free 9; have r10 := R.out.cell' 10 _ rfl; have s10 := R.out.free 10; replace H := Lib.hid hp; clear hp; replace q0 : Hid (Px P w w') := Lib.hid (Px.trans Pz q); clear q))
        all_goals go_wp2_with fail
        all_goals exact blRet (b := Sy.blk 4 [] Sy.zx x n) Tryz.results69 rfl rfl hP hO R.out (⟨none, 0, none, 0, ka, kc, rfl, WordsB.nil _ _, KidsB.nl none 0 (by decide), K.out⟩ : BlkB _ (fun b => w.heap.size < b) (Sy.blk 4 [] Sy.zx x n) #[.int .i64 4, .int .i64 0, .bool false, .slice none 0 0, .int .i64 0, .int .i64 0, .slice none 0 0, .int .i64 x.op, .int .i64 x.n, .slice ka x.ks.length kc, .int .i64 n]) H.out q0.out rfl
    · rw [if_neg hx]
      have y1 : Hid ((⟨#[68, 79]⟩ : ByteArray) ≠ bs (Sy.tx ts j)) := Lib.hid (fun h => hx (bs_inj.1 (show bs [68, 79] = _ from h)).symm)
      clear hx
      have q0 : Hid (Px P w w) := Lib.hid (Px.refl P w)
      go_enter Tryz.func69, Tryz.ntmps69
      go_wp2_with (first | (go_at_call 104; ((with_reducible refine (syExpectY (H.out.kept Qz) _ x1.out x2.out).mono ?_); rintro e w' ⟨rfl, hp, q⟩; have pw := (Par.lt hp).1; replace R : Hid (Bx w' w.heap.size blZ 37) := Lib.hid (Bx.px Rz q (by omega)); replace H := Lib.hid hp; clear hp; replace q0 : Hid (Px P w w') := Lib.hid (Px.trans Pz q); clear q)) | (go_at_call 107; ((with_reducible refine (C1.out _ (H.out.kept Qz)).mono ?_); rintro e w' ⟨ka, kc, rfl, k, hp, q⟩; have pw := (Par.lt hp).1; have K : Hid (KidsB w' (fun b => w.heap.size < b) ka kc (Sy.Ex.ks x)) := Lib.hid (KidsB.mono k (fun b hb => Nat.lt_of_lt_of_le (Bx.lt Rz) hb)); clear k; replace R : Hid (Bx w' w.heap.size blZ 37) := Lib.hid (Bx.px Rz q (by omega)); replace H := Lib.hid hp; clear hp; replace q0 : Hid (Px P w w') := Lib.hid (Px.trans Pz q); clear q)) | (go_at_call 104; ((with_reducible refine (syExpectN (H.out.kept Qz) _ y1.out).mono ?_); rintro e w' ⟨rfl, q⟩; replace q0 : Hid (Px P w w') := Lib.hid (Px.trans Pz (Px.of q)); clear q)))
      exact ⟨rfl, rfl, q0.out⟩
end Go.Proofs.YtciglhecjkeogaaGreatDoor

