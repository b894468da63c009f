import Derived.Test.YtciglhecjkeogaaGreatDoorZTX14
import Derived.Test.YtciglhecjkeogaaGreatDoorZTX19
import Derived.Test.YtciglhecjkeogaaGreatDoorZTX20
set_option linter.unusedVariables false
set_option linter.unusedSimpArgs false
namespace Go.Proofs.YtciglhecjkeogaaGreatDoor
open Go.RowKit
theorem BlkB.head {w : World} {S : Nat → Prop} {b : Sy.Bl} {v0 v1 v2 v3 v4 v5 v6 v7 v8 v9 v10 : Value} (h : BlkB w S b #[v0, v1, v2, v3, v4, v5, v6, v7, v8, v9, v10]) (s : Bool) (n : Int) : BlkB w S { b with skip := s, label := n } #[v0, .int .i64 n, .bool s, v3, v4, v5, v6, v7, v8, v9, v10] := by
  obtain ⟨wa, wc, la, lc, xa, xc, e, h1, h2, h3⟩ := h
  simp only [Array.mk.injEq, List.cons.injEq, and_true] at e
  obtain ⟨rfl, rfl, rfl, rfl, rfl, rfl, rfl, rfl, rfl, rfl, rfl⟩ := e
  exact ⟨wa, wc, la, lc, xa, xc, rfl, h1, h2, h3⟩
theorem KidsB.fr {w : World} {n : Nat} {b : Sy.Bl} {cs : Array Value} (h : BlkB w (fun b => n < b) b cs) (o : Obj) : BlkB (w.alloc o) (fun b => n < b ∧ b ≠ w.heap.size) b cs := h.go fun b hS hb => ⟨Below.heap_alloc _ _ _ hb, hS, by omega⟩
set_option maxRecDepth 100000 in
set_option maxHeartbeats 4000000 in
theorem sy_lineY {P : Nat} {a : Option Addr} {cap : Nat} {ts : List Lx.Tok} {len : Nat} (w : World) (h : Par w P a cap ts len 0) (s : Bool) (i0 : Nat)
    (cA : ∀ w, Par w P a cap ts len 0 → Calls Tryz.prog 40 #[.pointer (some ⟨P, 0, none⟩), .string ⟨#[47]⟩] w fun e w' => e = .returned (.bool s) ∧ Par w' P a cap ts len i0 ∧ Px P w w') (hk : Sy.kd ts i0 = 1 ∧ Sy.tn ts i0 = 78) (n : Int) (i1 : Nat) (cN : ∀ w, Par w P a cap ts len (i0 + 1) → Calls Tryz.prog 42 #[.pointer (some ⟨P, 0, none⟩)] w (PN P a cap ts len w (.ok n i1))) (r : Sy.Rs Sy.Bl)
    (c1 : ∀ w, Par w P a cap ts len i1 → Calls Tryz.prog 43 #[.pointer (some ⟨P, 0, none⟩)] w (PBl P a cap ts len w r)) (hr : ∀ b j, r = .ok b j → j ≤ ts.length) :
    Calls Tryz.prog 24 #[.pointer (some ⟨P, 0, none⟩)] w (PBl P a cap ts len w (Sy.pEnd ts s n r)) := by
  obtain ⟨hP, hO⟩ := h.lt
  have H := Lib.hid h
  have hl := h.hl
  clear h
  have R : Hid (Bx (w.alloc (.cells blZ 37)) w.heap.size blZ 37) := Lib.hid (Bx.new w _ _)
  have CA := Lib.hid cA
  clear cA
  have CN := Lib.hid cN
  have HK := Lib.hid hk.1
  have HN := Lib.hid hk.2
  clear cN hk
  cases r with
  | bad j =>
    have C1 := Lib.hid c1
    clear c1 hr
    have q0 : Hid (Px P w w) := Lib.hid (Px.refl P w)
    go_enter Tryz.func24, Tryz.ntmps24
    go_wp2_with (first | (go_at_call 40; ((with_reducible refine (CA.out _ (H.out.kept Qz)).mono ?_); rintro e w' ⟨rfl, hp, q⟩; have pw := (Par.lt hp).1; skip; replace H := Lib.hid hp; clear hp; replace q0 : Hid (Px P w w') := Lib.hid (Px.trans Pz q); clear q)) | (go_at_call 41; ((with_reducible refine (syLetterY (H.out.kept Qz) 78 HK.out HN.out).mono ?_); rintro e w' ⟨rfl, hp, q⟩; have pw := (Par.lt hp).1; skip; replace H := Lib.hid hp; clear hp; replace q0 : Hid (Px P w w') := Lib.hid (Px.trans Pz q); clear q)) | (go_at_call 42; ((with_reducible refine (CN.out _ (H.out.kept Qz)).mono ?_); rintro e w' ⟨rfl, hp, q⟩; have pw := (Par.lt hp).1; skip; replace H := Lib.hid hp; clear hp; replace q0 : Hid (Px P w w') := Lib.hid (Px.trans Pz q); clear q)) | (go_at_call 43; ((with_reducible refine (C1.out _ (H.out.kept Qz)).mono ?_); rintro e w' ⟨rfl, q⟩; replace q0 : Hid (Px P w w') := Lib.hid (Px.trans Pz q); clear q)))
    exact ⟨rfl, rfl, q0.out⟩
  | ok b j =>
    have C1 := Lib.hid c1
    have hj := hr b j rfl
    clear c1 hr
    unfold Sy.pEnd
    simp only
    by_cases hjn : j < ts.length
    · rw [if_pos hjn]
      have q0 : Hid (Px P w w) := Lib.hid (Px.refl P w)
      go_enter Tryz.func24, Tryz.ntmps24
      go_wp2_with (first | (go_at_call 40; ((with_reducible refine (CA.out _ (H.out.kept Qz)).mono ?_); rintro e w' ⟨rfl, hp, q⟩; have pw := (Par.lt hp).1; replace R : Hid (Bx w' w.heap.size blZ 37) := Lib.hid (Bx.px Rz q (by omega)); replace H := Lib.hid hp; clear hp; replace q0 : Hid (Px P w w') := Lib.hid (Px.trans Pz q); clear q)) | (go_at_call 41; ((with_reducible refine (syLetterY (H.out.kept Qz) 78 HK.out HN.out).mono ?_); rintro e w' ⟨rfl, hp, q⟩; have pw := (Par.lt hp).1; replace R : Hid (Bx w' w.heap.size blZ 37) := Lib.hid (Bx.px Rz q (by omega)); replace H := Lib.hid hp; clear hp; replace q0 : Hid (Px P w w') := Lib.hid (Px.trans Pz q); clear q)) | (go_at_call 42; ((with_reducible refine (CN.out _ (H.out.kept Qz)).mono ?_); rintro e w' ⟨rfl, hp, q⟩; have pw := (Par.lt hp).1; replace R : Hid (Bx w' w.heap.size blZ 37) := Lib.hid (Bx.px Rz q (by omega)); replace H := Lib.hid hp; clear hp; replace q0 : Hid (Px P w w') := Lib.hid (Px.trans Pz q); clear q)) | (go_at_call 43; ((with_reducible refine (C1.out _ (H.out.kept Qz)).mono ?_); rintro e w' ⟨⟨cs, rfl, wa, wc, la, lc, xa, xc, rfl, hw, hl, hx⟩, hp, q⟩; have pw := (Par.lt hp).1; have B : Hid (BlkB w' (fun b => w.heap.size < b) b #[.int .i64 b.kind, .int .i64 b.label, .bool b.skip, .slice wa b.words.length wc, .int .i64 b.left.op, .int .i64 b.left.n, .slice la b.left.ks.length lc, .int .i64 b.x.op, .int .i64 b.x.n, .slice xa b.x.ks.length xc, .int .i64 b.n]) := Lib.hid (BlkB.go (fun b hb _ => ⟨rfl, Nat.lt_of_lt_of_le (Bx.lt Rz) hb⟩) ⟨wa, wc, la, lc, xa, xc, rfl, hw, hl, hx⟩); clear hw hl hx; replace R : Hid (Bx w' w.heap.size blZ 37) := Lib.hid (Bx.px Rz q (by omega)); replace H := Lib.hid hp; clear hp; replace q0 : Hid (Px P w w') := Lib.hid (Px.trans Pz q); clear q)))
      have c0 := H.out.bx.cell' 0 _ rfl
      have c1 := H.out.bx.cell' 1 _ rfl
      have hjl : ((j : Int) < (ts.length : Int)) = True := by simp; omega
      skip
      go_quiet (fail)
      go_wp2_with (go_at_call 44; ((with_reducible refine (syUnexpected (H.out.kept Qz)).mono ?_); rintro e w' ⟨rfl, q⟩; replace q0 : Hid (Px P w w') := Lib.hid (Px.trans Pz (Px.of q)); clear q))
      exact ⟨rfl, rfl, q0.out⟩
    · rw [if_neg hjn]
      have q0 : Hid (Px P w w) := Lib.hid (Px.refl P w)
      go_enter Tryz.func24, Tryz.ntmps24
      go_wp2_with (first | (go_at_call 40; ((with_reducible refine (CA.out _ (H.out.kept Qz)).mono ?_); rintro e w' ⟨rfl, hp, q⟩; have pw := (Par.lt hp).1; replace R : Hid (Bx w' w.heap.size blZ 37) := Lib.hid (Bx.px Rz q (by omega)); replace H := Lib.hid hp; clear hp; replace q0 : Hid (Px P w w') := Lib.hid (Px.trans Pz q); clear q)) | (go_at_call 41; ((with_reducible refine (syLetterY (H.out.kept Qz) 78 HK.out HN.out).mono ?_); rintro e w' ⟨rfl, hp, q⟩; have pw := (Par.lt hp).1; replace R : Hid (Bx w' w.heap.size blZ 37) := Lib.hid (Bx.px Rz q (by omega)); replace H := Lib.hid hp; clear hp; replace q0 : Hid (Px P w w') := Lib.hid (Px.trans Pz q); clear q)) | (go_at_call 42; ((with_reducible refine (CN.out _ (H.out.kept Qz)).mono ?_); rintro e w' ⟨rfl, hp, q⟩; have pw := (Par.lt hp).1; replace R : Hid (Bx w' w.heap.size blZ 37) := Lib.hid (Bx.px Rz q (by omega)); replace H := Lib.hid hp; clear hp; replace q0 : Hid (Px P w w') := Lib.hid (Px.trans Pz q); clear q)) | (go_at_call 43; ((with_reducible refine (C1.out _ (H.out.kept Qz)).mono ?_); rintro e w' ⟨⟨cs, rfl, wa, wc, la, lc, xa, xc, rfl, hw, hl, hx⟩, hp, q⟩; have pw := (Par.lt hp).1; have B : Hid (BlkB w' (fun b => w.heap.size < b) b #[.int .i64 b.kind, .int .i64 b.label, .bool b.skip, .slice wa b.words.length wc, .int .i64 b.left.op, .int .i64 b.left.n, .slice la b.left.ks.length lc, .int .i64 b.x.op, .int .i64 b.x.n, .slice xa b.x.ks.length xc, .int .i64 b.n]) := Lib.hid (BlkB.go (fun b hb _ => ⟨rfl, Nat.lt_of_lt_of_le (Bx.lt Rz) hb⟩) ⟨wa, wc, la, lc, xa, xc, rfl, hw, hl, hx⟩); clear hw hl hx; replace R : Hid (Bx w' w.heap.size blZ 37) := Lib.hid (Bx.px Rz q (by omega)); replace H := Lib.hid hp; clear hp; replace q0 : Hid (Px P w w') := Lib.hid (Px.trans Pz q); clear q)))
      have c0 := H.out.bx.cell' 0 _ rfl
      have c1 := H.out.bx.cell' 1 _ rfl
      have hjl : ((j : Int) < (ts.length : Int)) = False := by simp; omega
      have rl := R.out.lt
      have r0 := R.out.cell' 0 _ rfl
      have s0 := R.out.free 0
      have r1 := R.out.cell' 1 _ rfl
      have s1 := R.out.free 1
      have r2 := R.out.cell' 2 _ rfl
      have s2 := R.out.free 2
      have r3 := R.out.cell' 3 _ rfl
      have s3 := R.out.free 3
      have r4 := R.out.cell' 4 _ rfl
      have s4 := R.out.free 4
      have r5 := R.out.cell' 5 _ rfl
      have s5 := R.out.free 5
      have r6 := R.out.cell' 6 _ rfl
      have s6 := R.out.free 6
      have r7 := R.out.cell' 7 _ rfl
      have s7 := R.out.free 7
      have r8 := R.out.cell' 8 _ rfl
      have s8 := R.out.free 8
      have r9 := R.out.cell' 9 _ rfl
      have s9 := R.out.free 9
      have r10 := R.out.cell' 10 _ rfl
      have s10 := R.out.free 10
      go_quiet (fail)
      go_wp2_with fail
      have qk : ∀ o, Qw w' ((w'.alloc o).drewN nq) := fun o => bel_drewN ((Below.refl _ _).alloc (Nat.le_refl _) _) _
      exact blRet Tryz.results24 rfl rfl hP hO (R.out.kept (qk _)) (BlkB.head (B.out.go (fun b hS hb => ⟨(qk _).block b hb, hS⟩)) s n) (H.out.kept (qk _)) (q0.out.trans (Px.of (qk _))) rfl
set_option maxRecDepth 100000 in
set_option maxHeartbeats 4000000 in
theorem sy_lineN {P : Nat} {a : Option Addr} {cap : Nat} {ts : List Lx.Tok} {len : Nat} (w : World) (h : Par w P a cap ts len 0) (s : Bool) (i0 : Nat)
    (cA : ∀ w, Par w P a cap ts len 0 → Calls Tryz.prog 40 #[.pointer (some ⟨P, 0, none⟩), .string ⟨#[47]⟩] w fun e w' => e = .returned (.bool s) ∧ Par w' P a cap ts len i0 ∧ Px P w w') (hk : Sy.kd ts i0 ≠ 1 ∨ Sy.tn ts i0 ≠ 78) (i1 : Nat) (h01 : i1 = i0) (r : Sy.Rs Sy.Bl)
    (c1 : ∀ w, Par w P a cap ts len i1 → Calls Tryz.prog 43 #[.pointer (some ⟨P, 0, none⟩)] w (PBl P a cap ts len w r)) (hr : ∀ b j, r = .ok b j → j ≤ ts.length) :
    Calls Tryz.prog 24 #[.pointer (some ⟨P, 0, none⟩)] w (PBl P a cap ts len w (Sy.pEnd ts s 0 r)) := by
  obtain ⟨hP, hO⟩ := h.lt
  have H := Lib.hid h
  have hl := h.hl
  clear h
  have R : Hid (Bx (w.alloc (.cells blZ 37)) w.heap.size blZ 37) := Lib.hid (Bx.new w _ _)
  have CA := Lib.hid cA
  clear cA
  subst h01
  have HK := Lib.hid hk
  clear hk
  cases r with
  | bad j =>
    have C1 := Lib.hid c1
    clear c1 hr
    have q0 : Hid (Px P w w) := Lib.hid (Px.refl P w)
    go_enter Tryz.func24, Tryz.ntmps24
    go_wp2_with (first | (go_at_call 40; ((with_reducible refine (CA.out _ (H.out.kept Qz)).mono ?_); rintro e w' ⟨rfl, hp, q⟩; have pw := (Par.lt hp).1; skip; replace H := Lib.hid hp; clear hp; replace q0 : Hid (Px P w w') := Lib.hid (Px.trans Pz q); clear q)) | (go_at_call 41; ((with_reducible refine (syLetterN (H.out.kept Qz) 78 HK.out).mono ?_); rintro e w' ⟨rfl, q⟩; skip; replace H := Lib.hid (Par.kept H.out (Qw.trans Qz q)); replace q0 : Hid (Px P w w') := Lib.hid (Px.trans Pz (Px.of q)); clear q)) | (go_at_call 43; ((with_reducible refine (C1.out _ (H.out.kept Qz)).mono ?_); rintro e w' ⟨rfl, q⟩; replace q0 : Hid (Px P w w') := Lib.hid (Px.trans Pz q); clear q)))
    exact ⟨rfl, rfl, q0.out⟩
  | ok b j =>
    have C1 := Lib.hid c1
    have hj := hr b j rfl
    clear c1 hr
    unfold Sy.pEnd
    simp only
    by_cases hjn : j < ts.length
    · rw [if_pos hjn]
      have q0 : Hid (Px P w w) := Lib.hid (Px.refl P w)
      go_enter Tryz.func24, Tryz.ntmps24
      go_wp2_with (first | (go_at_call 40; ((with_reducible refine (CA.out _ (H.out.kept Qz)).mono ?_); rintro e w' ⟨rfl, hp, q⟩; have pw := (Par.lt hp).1; replace R : Hid (Bx w' w.heap.size blZ 37) := Lib.hid (Bx.px Rz q (by omega)); replace H := Lib.hid hp; clear hp; replace q0 : Hid (Px P w w') := Lib.hid (Px.trans Pz q); clear q)) | (go_at_call 41; ((with_reducible refine (syLetterN (H.out.kept Qz) 78 HK.out).mono ?_); rintro e w' ⟨rfl, q⟩; replace R : Hid (Bx w' w.heap.size blZ 37) := Lib.hid (Bx.kept Rz q); replace H := Lib.hid (Par.kept H.out (Qw.trans Qz q)); replace q0 : Hid (Px P w w') := Lib.hid (Px.trans Pz (Px.of q)); clear q)) | (go_at_call 43; ((with_reducible refine (C1.out _ (H.out.kept Qz)).mono ?_); rintro e w' ⟨⟨cs, rfl, wa, wc, la, lc, xa, xc, rfl, hw, hl, hx⟩, hp, q⟩; have pw := (Par.lt hp).1; have B : Hid (BlkB w' (fun b => w.heap.size < b) b #[.int .i64 b.kind, .int .i64 b.label, .bool b.skip, .slice wa b.words.length wc, .int .i64 b.left.op, .int .i64 b.left.n, .slice la b.left.ks.length lc, .int .i64 b.x.op, .int .i64 b.x.n, .slice xa b.x.ks.length xc, .int .i64 b.n]) := Lib.hid (BlkB.go (fun b hb _ => ⟨rfl, Nat.lt_of_lt_of_le (Bx.lt Rz) hb⟩) ⟨wa, wc, la, lc, xa, xc, rfl, hw, hl, hx⟩); clear hw hl hx; replace R : Hid (Bx w' w.heap.size blZ 37) := Lib.hid (Bx.px Rz q (by omega)); replace H := Lib.hid hp; clear hp; replace q0 : Hid (Px P w w') := Lib.hid (Px.trans Pz q); clear q)))
      have c0 := H.out.bx.cell' 0 _ rfl
      have c1 := H.out.bx.cell' 1 _ rfl
      have hjl : ((j : Int) < (ts.length : Int)) = True := by simp; omega
      skip
      go_quiet (fail)
      go_wp2_with (go_at_call 44; ((with_reducible refine (syUnexpected (H.out.kept Qz)).mono ?_); rintro e w' ⟨rfl, q⟩; replace q0 : Hid (Px P w w') := Lib.hid (Px.trans Pz (Px.of q)); clear q))
      exact ⟨rfl, rfl, q0.out⟩
    · rw [if_neg hjn]
      have q0 : Hid (Px P w w) := Lib.hid (Px.refl P w)
      go_enter Tryz.func24, Tryz.ntmps24
      go_wp2_with (first | (go_at_call 40; ((with_reducible refine (CA.out _ (H.out.kept Qz)).mono ?_); rintro e w' ⟨rfl, hp, q⟩; have pw := (Par.lt hp).1; replace R : Hid (Bx w' w.heap.size blZ 37) := Lib.hid (Bx.px Rz q (by omega)); replace H := Lib.hid hp; clear hp; replace q0 : Hid (Px P w w') := Lib.hid (Px.trans Pz q); clear q)) | (go_at_call 41; ((with_reducible refine (syLetterN (H.out.kept Qz) 78 HK.out).mono ?_); rintro e w' ⟨rfl, q⟩; replace R : Hid (Bx w' w.heap.size blZ 37) := Lib.hid (Bx.kept Rz q); replace H := Lib.hid (Par.kept H.out (Qw.trans Qz q)); replace q0 : Hid (Px P w w') := Lib.hid (Px.trans Pz (Px.of q)); clear q)) | (go_at_call 43; ((with_reducible refine (C1.out _ (H.out.kept Qz)).mono ?_); rintro e w' ⟨⟨cs, rfl, wa, wc, la, lc, xa, xc, rfl, hw, hl, hx⟩, hp, q⟩; have pw := (Par.lt hp).1; have B : Hid (BlkB w' (fun b => w.heap.size < b) b #[.int .i64 b.kind, .int .i64 b.label, .bool b.skip, .slice wa b.words.length wc, .int .i64 b.left.op, .int .i64 b.left.n, .slice la b.left.ks.length lc, .int .i64 b.x.op, .int .i64 b.x.n, .slice xa b.x.ks.length xc, .int .i64 b.n]) := Lib.hid (BlkB.go (fun b hb _ => ⟨rfl, Nat.lt_of_lt_of_le (Bx.lt Rz) hb⟩) ⟨wa, wc, la, lc, xa, xc, rfl, hw, hl, hx⟩); clear hw hl hx; replace R : Hid (Bx w' w.heap.size blZ 37) := Lib.hid (Bx.px Rz q (by omega)); replace H := Lib.hid hp; clear hp; replace q0 : Hid (Px P w w') := Lib.hid (Px.trans Pz q); clear q)))
      have c0 := H.out.bx.cell' 0 _ rfl
      have c1 := H.out.bx.cell' 1 _ rfl
      have hjl : ((j : Int) < (ts.length : Int)) = False := by simp; omega
      have rl := R.out.lt
      have r0 := R.out.cell' 0 _ rfl
      have s0 := R.out.free 0
      have r1 := R.out.cell' 1 _ rfl
      have s1 := R.out.free 1
      have r2 := R.out.cell' 2 _ rfl
      have s2 := R.out.free 2
      have r3 := R.out.cell' 3 _ rfl
      have s3 := R.out.free 3
      have r4 := R.out.cell' 4 _ rfl
      have s4 := R.out.free 4
      have r5 := R.out.cell' 5 _ rfl
      have s5 := R.out.free 5
      have r6 := R.out.cell' 6 _ rfl
      have s6 := R.out.free 6
      have r7 := R.out.cell' 7 _ rfl
      have s7 := R.out.free 7
      have r8 := R.out.cell' 8 _ rfl
      have s8 := R.out.free 8
      have r9 := R.out.cell' 9 _ rfl
      have s9 := R.out.free 9
      have r10 := R.out.cell' 10 _ rfl
      have s10 := R.out.free 10
      go_quiet (fail)
      go_wp2_with fail
      have qk : ∀ o, Qw w' ((w'.alloc o).drewN nq) := fun o => bel_drewN ((Below.refl _ _).alloc (Nat.le_refl _) _) _
      exact blRet Tryz.results24 rfl rfl hP hO (R.out.kept (qk _)) (BlkB.head (B.out.go (fun b hS hb => ⟨(qk _).block b hb, hS⟩)) s 0) (H.out.kept (qk _)) (q0.out.trans (Px.of (qk _))) rfl
theorem fwd_n {ts : List Lx.Tok} {m i : Nat} {n : Int} {j : Nat} (h : Sy.pN ts m i = .ok n j) : j = i + 1 ∧ i < ts.length := by
  unfold Sy.pN at h
  split at h
  · rename_i hc
    cases h
    exact ⟨rfl, Sy.kd_lt hc.1 (by decide)⟩
  · cases h
theorem fwd_w (ts : List Lx.Tok) : ∀ (f : Nat) (ws : List (Int × Sy.Ex)) (i : Nat), i ≤ ts.length → ∀ us j, Sy.pW ts f ws i = .ok us j → j ≤ ts.length
  | 0, ws, i, hi, us, j, h => by unfold Sy.pW at h; cases h
  | f + 1, ws, i, hi, us, j, h => by
    unfold Sy.pW at h
    split at h
    · rename_i hc
      have hi' := Sy.kd_lt hc.1 (by decide)
      have g := Sy.fwd_v ts (i + 1) hi'
      cases e : Sy.pV ts (i + 1) with
      | bad k => rw [e] at h; cases h
      | ok x k => rw [e] at h g; exact fwd_w ts f _ k g.2 us j h
    · cases h; exact hi
theorem fwd_ct {ts : List Lx.Tok} {i : Nat} (hi : i ≤ ts.length) : ∀ b j, Sy.pCt ts i = .ok b j → j ≤ ts.length := by
  intro b j e
  have O := Sy.fwd ts (Sy.fuel ts)
  unfold Sy.pCt at e
  split at e
  · have hx := Sy.tx_lt ‹_› (by decide)
    have g := O.c (i + 1) hx
    cases e1 : Sy.pC ts (Sy.fuel ts) (i + 1) with
    | bad k => rw [e1] at e; cases e
    | ok c k =>
      rw [e1] at e g
      simp only at e
      split at e
      · have hy := Sy.tx_lt ‹_› (by decide)
        obtain ⟨x, e2, rfl⟩ := Sy.wrapC_ok e
        have g2 := O.e 0 (k + 1) hy
        rw [e2] at g2; exact g2.2
      · cases e
  · split at e
    · have hx := Sy.tx_lt ‹_› (by decide)
      have g := O.b (i + 1) hx
      cases e1 : Sy.pB ts (Sy.fuel ts) (i + 1) with
      | bad k => rw [e1] at e; cases e
      | ok c k =>
        rw [e1] at e g
        simp only at e
        split at e
        · have hy := Sy.tx_lt ‹_› (by decide)
          obtain ⟨x, e2, rfl⟩ := Sy.wrapC_ok e
          have g2 := Sy.fwd_v ts (k + 1) hy
          rw [e2] at g2; exact g2.2
        · cases e
    · split at e
      · have hx := Sy.tx_lt ‹_› (by decide)
        obtain ⟨x, e2, rfl⟩ := Sy.wrapC_ok e
        have g2 := Sy.fwd_v ts (i + 1) hx
        rw [e2] at g2; exact g2.2
      · split at e
        · have hx := Sy.tx_lt ‹_› (by decide)
          have g := O.b (i + 1) hx
          cases e1 : Sy.pB ts (Sy.fuel ts) (i + 1) with
          | bad k => rw [e1] at e; cases e
          | ok c k =>
            rw [e1] at e g
            simp only at e
            split at e
            · obtain ⟨x, e2, rfl⟩ := Sy.wrapC_ok e
              have := fwd_n e2; omega
            · cases e
        · split at e
          · obtain ⟨x, e2, rfl⟩ := Sy.wrapC_ok e
            have := fwd_n e2; omega
          · split at e
            · obtain ⟨x, e2, rfl⟩ := Sy.wrapC_ok e
              have := fwd_n e2; omega
            · obtain ⟨x, e2, rfl⟩ := Sy.wrapC_ok e
              exact fwd_w ts _ _ i hi _ _ e2
set_option maxRecDepth 100000 in
set_option maxHeartbeats 4000000 in
theorem sy_lineD {P : Nat} {a : Option Addr} {cap : Nat} {ts : List Lx.Tok} {len : Nat} (w : World) (h : Par w P a cap ts len 0) (s : Bool) (i0 : Nat)
    (cA : ∀ w, Par w P a cap ts len 0 → Calls Tryz.prog 40 #[.pointer (some ⟨P, 0, none⟩), .string ⟨#[47]⟩] w fun e w' => e = .returned (.bool s) ∧ Par w' P a cap ts len i0 ∧ Px P w w') (hk : Sy.kd ts i0 = 1 ∧ Sy.tn ts i0 = 78) (m : Nat)
    (cN : ∀ w, Par w P a cap ts len (i0 + 1) → Calls Tryz.prog 42 #[.pointer (some ⟨P, 0, none⟩)] w (PN P a cap ts len w (.bad m))) :
    Calls Tryz.prog 24 #[.pointer (some ⟨P, 0, none⟩)] w (PBl P a cap ts len w (.bad m)) := by
  obtain ⟨hP, hO⟩ := h.lt
  have H := Lib.hid h
  clear h
  have CA := Lib.hid cA
  have CN := Lib.hid cN
  have HK := Lib.hid hk.1
  have HN := Lib.hid hk.2
  clear cA cN hk
  have q0 : Hid (Px P w w) := Lib.hid (Px.refl P w)
  go_enter Tryz.func24, Tryz.ntmps24
  go_wp2_with (first | (go_at_call 40; ((with_reducible refine (CA.out _ (H.out.kept Qz)).mono ?_); rintro e w' ⟨rfl, hp, q⟩; have pw := (Par.lt hp).1; skip; replace H := Lib.hid hp; clear hp; replace q0 : Hid (Px P w w') := Lib.hid (Px.trans Pz q); clear q)) | (go_at_call 41; ((with_reducible refine (syLetterY (H.out.kept Qz) 78 HK.out HN.out).mono ?_); rintro e w' ⟨rfl, hp, q⟩; have pw := (Par.lt hp).1; skip; replace H := Lib.hid hp; clear hp; replace q0 : Hid (Px P w w') := Lib.hid (Px.trans Pz q); clear q)) | (go_at_call 42; ((with_reducible refine (CN.out _ (H.out.kept Qz)).mono ?_); rintro e w' ⟨rfl, q⟩; replace q0 : Hid (Px P w w') := Lib.hid (Px.trans Pz q); clear q)))
  exact ⟨rfl, rfl, q0.out⟩
theorem sy_line {P : Nat} {a : Option Addr} {cap : Nat} {ts : List Lx.Tok} {len : Nat} (hgd : Sy.Good ts) (w : World) (h : Par w P a cap ts len 0) :
    Calls Tryz.prog 24 #[.pointer (some ⟨P, 0, none⟩)] w (PBl P a cap ts len w (Sy.pLn ts)) := by
  have cA : ∀ w, Par w P a cap ts len 0 → Calls Tryz.prog 40 #[.pointer (some ⟨P, 0, none⟩), .string ⟨#[47]⟩] w fun e w' => e = .returned (.bool (decide (Sy.tx ts 0 = [47]))) ∧ Par w' P a cap ts len (if Sy.tx ts 0 = [47] then 1 else 0) ∧ Px P w w' := fun w h => syAccept h [47] ⟨#[47]⟩ rfl (by decide)
  have hi0 : (if Sy.tx ts 0 = [47] then 1 else 0) ≤ ts.length := by
    split
    · exact Sy.tx_lt ‹_› (by decide)
    · exact Nat.zero_le _
  unfold Sy.pLn
  simp only
  generalize (if Sy.tx ts 0 = [47] then 1 else 0) = i0 at *
  generalize decide (Sy.tx ts 0 = [47]) = s at *
  by_cases hk : Sy.kd ts i0 = 1 ∧ Sy.tn ts i0 = 78
  · rw [if_pos hk]
    have hj := Sy.kd_lt hk.1 (by decide)
    cases e : Sy.pN ts 99999 (i0 + 1) with
    | bad m => exact sy_lineD w h s i0 cA hk m (fun w h => e ▸ sy_count hgd h)
    | ok n j =>
      have := fwd_n e
      exact sy_lineY w h s i0 cA hk n j (fun w h => e ▸ sy_count hgd h) _ (fun w h => sy_content hgd j w h) (fwd_ct (by omega))
  · rw [if_neg hk]
    exact sy_lineN w h s i0 cA (by by_cases h6 : Sy.kd ts i0 = 1; exact .inr (fun h7 => hk ⟨h6, h7⟩); exact .inl h6) i0 rfl _ (fun w h => sy_content hgd i0 w h) (fwd_ct hi0)
end Go.Proofs.YtciglhecjkeogaaGreatDoor
set_option linter.unusedVariables false
set_option linter.unusedSimpArgs false
namespace Go.Proofs.YtciglhecjkeogaaGreatDoor
open Go.RowKit
theorem Qw.block' {w w' : World} (q : Qw w w') : ∀ b, b < w.heap.size → w'.heap[b]? = w.heap[b]? := q.block
set_option maxRecDepth 100000 in
set_option maxHeartbeats 4000000 in
theorem sv_valid0 (label n : Int) (skip : Bool) (words : List (Int × Sy.Ex)) (left x : Sy.Ex) (wa la xa : Option Addr) (wc lc xc : Nat) (S : Nat → Prop) (w : World) (hO : Ow w) (hW : WordsB w S wa wc words) (hL : KidsB w S la lc left.ks) (hX : KidsB w S xa xc x.ks)
    (hl : label = 0 ∨ (label ≠ 0 ∧ Sy.cnt label 99999 = true)) :
    Calls Tryz.prog 25 #[.agg #[.int .i64 0, .int .i64 label, .bool skip, .slice wa words.length wc, .int .i64 left.op, .int .i64 left.n, .slice la left.ks.length lc, .int .i64 x.op, .int .i64 x.n, .slice xa x.ks.length xc, .int .i64 n]] w fun e w' => e = .returned (.bool ((decide (words.length ≤ 24) && wdsB words) && Sy.noneB left && Sy.noneB x && decide (n = 0))) ∧ Qw w w' := by
  have HO := Lib.hid hO
  have HW := Lib.hid hW
  have HL := Lib.hid hL
  have HX := Lib.hid hX
  have m1 := hW.1
  have m2 := hW.2.1
  obtain ⟨m3, m4⟩ := hL.cap
  obtain ⟨m5, m6⟩ := hX.cap
  have R : Hid (Bx (w.alloc (.cells #[.int .i64 0, .int .i64 label, .bool skip, .slice wa words.length wc, .int .i64 left.op, .int .i64 left.n, .slice la left.ks.length lc, .int .i64 x.op, .int .i64 x.n, .slice xa x.ks.length xc, .int .i64 n] 37)) w.heap.size #[.int .i64 0, .int .i64 label, .bool skip, .slice wa words.length wc, .int .i64 left.op, .int .i64 left.n, .slice la left.ks.length lc, .int .i64 x.op, .int .i64 x.n, .slice xa x.ks.length xc, .int .i64 n] 37) := Lib.hid (Bx.new w _ _)
  have rightL : ∀ w, Ow w → KidsB w S la lc left.ks → Calls Tryz.prog 26 #[.agg #[.int .i64 left.op, .int .i64 left.n, .slice la left.ks.length lc]] w fun e w' => e = .returned (.bool (Sy.rgt left)) ∧ Qw w w' := fun w h1 h2 => by
    have := sv_right left.op left.n left.ks la lc S w h1 h2; cases left; exact this
  have rightX : ∀ w, Ow w → KidsB w S xa xc x.ks → Calls Tryz.prog 26 #[.agg #[.int .i64 x.op, .int .i64 x.n, .slice xa x.ks.length xc]] w fun e w' => e = .returned (.bool (Sy.rgt x)) ∧ Qw w w' := fun w h1 h2 => by
    have := sv_right x.op x.n x.ks xa xc S w h1 h2; cases x; exact this
  have blankL : ∀ w, Calls Tryz.prog 47 #[.agg #[.int .i64 left.op, .int .i64 left.n, .slice la left.ks.length lc]] w fun e w' => e = .returned (.bool (Sy.noneB left)) ∧ Qw w w' := fun w => sv_blank left.op left.n left.ks.length la lc m3 m4 w
  have blankX : ∀ w, Calls Tryz.prog 47 #[.agg #[.int .i64 x.op, .int .i64 x.n, .slice xa x.ks.length xc]] w fun e w' => e = .returned (.bool (Sy.noneB x)) ∧ Qw w w' := fun w => sv_blank x.op x.n x.ks.length xa xc m5 m6 w
  have cntN : ∀ m : Nat, ∀ w, Calls Tryz.prog 45 #[.int .i64 n, .int .i64 (m : Int)] w fun e w' => e = .returned (.bool (Sy.cnt n m)) ∧ w = w' := fun m w => syCounts n m w
  have cntL : ∀ w, Calls Tryz.prog 45 #[.int .i64 label, .int .i64 99999] w fun e w' => e = .returned (.bool (Sy.cnt label 99999)) ∧ w = w' := fun w => syCounts label 99999 w
  have wordsW : ∀ w, Ow w → WordsB w S wa wc words → Calls Tryz.prog 46 #[.slice wa words.length wc] w fun e w' => e = .returned (.bool (decide (words.length ≤ 24) && wdsB words)) ∧ Qw w w' := fun w h1 h2 => sv_rightWords words wa wc S w h1 h2
  clear hO hW hL hX m1 m3 m5
  clear cntN
  clear rightL
  clear rightX
  rcases hl with hl | ⟨hl, hc⟩
  · subst hl
    clear cntL
    cases t0 : (decide (words.length ≤ 24) && wdsB words) with
    | false =>
      rw [t0] at wordsW
      have WORDSW := Lib.hid wordsW
      clear t0 wordsW blankL blankX
      have q0 : Hid (Qw w w) := Lib.hid (Qw.refl w)
      go_enter Tryz.func25, Tryz.ntmps25
      go_wp2_with (go_at_call 46; ((with_reducible refine (WORDSW.out _ (Ow.kept HO.out Qz) (WordsB.go (fun b hS hb => ⟨(Qw.block' Qz b hb), hS⟩) HW.out)).mono ?_); rintro e w' ⟨rfl, q⟩; replace R : Hid (Bx w' w.heap.size #[.int .i64 0, .int .i64 0, .bool skip, .slice wa words.length wc, .int .i64 left.op, .int .i64 left.n, .slice la left.ks.length lc, .int .i64 x.op, .int .i64 x.n, .slice xa x.ks.length xc, .int .i64 n] 37) := Lib.hid (Bx.kept Rz q); have r0 := R.out.cell' 0 _ rfl; have r1 := R.out.cell' 1 _ rfl; have r2 := R.out.cell' 2 _ rfl; have r3 := R.out.cell' 3 _ rfl; have r4 := R.out.cell' 4 _ rfl; have r5 := R.out.cell' 5 _ rfl; have r6 := R.out.cell' 6 _ rfl; have r7 := R.out.cell' 7 _ rfl; have r8 := R.out.cell' 8 _ rfl; have r9 := R.out.cell' 9 _ rfl; have r10 := R.out.cell' 10 _ rfl; replace q0 : Hid (Qw w w') := Lib.hid (Qw.trans Qz q); clear q))
      go_ret
      exact ⟨rfl, Qz⟩
    | true =>
      rw [t0] at wordsW
      have WORDSW := Lib.hid wordsW
      clear t0 wordsW
      cases t1 : Sy.noneB left with
      | false =>
        rw [t1] at blankL
        have BLANKL := Lib.hid blankL
        clear t1 blankL blankX
        have q0 : Hid (Qw w w) := Lib.hid (Qw.refl w)
        go_enter Tryz.func25, Tryz.ntmps25
        go_wp2_with (first | (go_at_call 46; ((with_reducible refine (WORDSW.out _ (Ow.kept HO.out Qz) (WordsB.go (fun b hS hb => ⟨(Qw.block' Qz b hb), hS⟩) HW.out)).mono ?_); rintro e w' ⟨rfl, q⟩; replace R : Hid (Bx w' w.heap.size #[.int .i64 0, .int .i64 0, .bool skip, .slice wa words.length wc, .int .i64 left.op, .int .i64 left.n, .slice la left.ks.length lc, .int .i64 x.op, .int .i64 x.n, .slice xa x.ks.length xc, .int .i64 n] 37) := Lib.hid (Bx.kept Rz q); have r0 := R.out.cell' 0 _ rfl; have r1 := R.out.cell' 1 _ rfl; have r2 := R.out.cell' 2 _ rfl; have r3 := R.out.cell' 3 _ rfl; have r4 := R.out.cell' 4 _ rfl; have r5 := R.out.cell' 5 _ rfl; have r6 := R.out.cell' 6 _ rfl; have r7 := R.out.cell' 7 _ rfl; have r8 := R.out.cell' 8 _ rfl; have r9 := R.out.cell' 9 _ rfl; have r10 := R.out.cell' 10 _ rfl; replace q0 : Hid (Qw w w') := Lib.hid (Qw.trans Qz q); clear q)) | (go_at_call 47; ((with_reducible refine (BLANKL.out _).mono ?_); rintro e w' ⟨rfl, q⟩; replace R : Hid (Bx w' w.heap.size #[.int .i64 0, .int .i64 0, .bool skip, .slice wa words.length wc, .int .i64 left.op, .int .i64 left.n, .slice la left.ks.length lc, .int .i64 x.op, .int .i64 x.n, .slice xa x.ks.length xc, .int .i64 n] 37) := Lib.hid (Bx.kept Rz q); have r0 := R.out.cell' 0 _ rfl; have r1 := R.out.cell' 1 _ rfl; have r2 := R.out.cell' 2 _ rfl; have r3 := R.out.cell' 3 _ rfl; have r4 := R.out.cell' 4 _ rfl; have r5 := R.out.cell' 5 _ rfl; have r6 := R.out.cell' 6 _ rfl; have r7 := R.out.cell' 7 _ rfl; have r8 := R.out.cell' 8 _ rfl; have r9 := R.out.cell' 9 _ rfl; have r10 := R.out.cell' 10 _ rfl; replace q0 : Hid (Qw w w') := Lib.hid (Qw.trans Qz q); clear q)))
        go_ret
        exact ⟨rfl, Qz⟩
      | true =>
        rw [t1] at blankL
        have BLANKL := Lib.hid blankL
        clear t1 blankL
        cases t2 : Sy.noneB x with
        | false =>
          rw [t2] at blankX
          have BLANKX := Lib.hid blankX
          clear t2 blankX
          have q0 : Hid (Qw w w) := Lib.hid (Qw.refl w)
          go_enter Tryz.func25, Tryz.ntmps25
          go_wp2_with (first | (go_at_call 46; ((with_reducible refine (WORDSW.out _ (Ow.kept HO.out Qz) (WordsB.go (fun b hS hb => ⟨(Qw.block' Qz b hb), hS⟩) HW.out)).mono ?_); rintro e w' ⟨rfl, q⟩; replace R : Hid (Bx w' w.heap.size #[.int .i64 0, .int .i64 0, .bool skip, .slice wa words.length wc, .int .i64 left.op, .int .i64 left.n, .slice la left.ks.length lc, .int .i64 x.op, .int .i64 x.n, .slice xa x.ks.length xc, .int .i64 n] 37) := Lib.hid (Bx.kept Rz q); have r0 := R.out.cell' 0 _ rfl; have r1 := R.out.cell' 1 _ rfl; have r2 := R.out.cell' 2 _ rfl; have r3 := R.out.cell' 3 _ rfl; have r4 := R.out.cell' 4 _ rfl; have r5 := R.out.cell' 5 _ rfl; have r6 := R.out.cell' 6 _ rfl; have r7 := R.out.cell' 7 _ rfl; have r8 := R.out.cell' 8 _ rfl; have r9 := R.out.cell' 9 _ rfl; have r10 := R.out.cell' 10 _ rfl; replace q0 : Hid (Qw w w') := Lib.hid (Qw.trans Qz q); clear q)) | (go_at_call 47; ((with_reducible refine (BLANKL.out _).mono ?_); rintro e w' ⟨rfl, q⟩; replace R : Hid (Bx w' w.heap.size #[.int .i64 0, .int .i64 0, .bool skip, .slice wa words.length wc, .int .i64 left.op, .int .i64 left.n, .slice la left.ks.length lc, .int .i64 x.op, .int .i64 x.n, .slice xa x.ks.length xc, .int .i64 n] 37) := Lib.hid (Bx.kept Rz q); have r0 := R.out.cell' 0 _ rfl; have r1 := R.out.cell' 1 _ rfl; have r2 := R.out.cell' 2 _ rfl; have r3 := R.out.cell' 3 _ rfl; have r4 := R.out.cell' 4 _ rfl; have r5 := R.out.cell' 5 _ rfl; have r6 := R.out.cell' 6 _ rfl; have r7 := R.out.cell' 7 _ rfl; have r8 := R.out.cell' 8 _ rfl; have r9 := R.out.cell' 9 _ rfl; have r10 := R.out.cell' 10 _ rfl; replace q0 : Hid (Qw w w') := Lib.hid (Qw.trans Qz q); clear q)) | (go_at_call 47; ((with_reducible refine (BLANKX.out _).mono ?_); rintro e w' ⟨rfl, q⟩; replace R : Hid (Bx w' w.heap.size #[.int .i64 0, .int .i64 0, .bool skip, .slice wa words.length wc, .int .i64 left.op, .int .i64 left.n, .slice la left.ks.length lc, .int .i64 x.op, .int .i64 x.n, .slice xa x.ks.length xc, .int .i64 n] 37) := Lib.hid (Bx.kept Rz q); have r0 := R.out.cell' 0 _ rfl; have r1 := R.out.cell' 1 _ rfl; have r2 := R.out.cell' 2 _ rfl; have r3 := R.out.cell' 3 _ rfl; have r4 := R.out.cell' 4 _ rfl; have r5 := R.out.cell' 5 _ rfl; have r6 := R.out.cell' 6 _ rfl; have r7 := R.out.cell' 7 _ rfl; have r8 := R.out.cell' 8 _ rfl; have r9 := R.out.cell' 9 _ rfl; have r10 := R.out.cell' 10 _ rfl; replace q0 : Hid (Qw w w') := Lib.hid (Qw.trans Qz q); clear q)))
          go_ret
          exact ⟨rfl, Qz⟩
        | true =>
          rw [t2] at blankX
          have BLANKX := Lib.hid blankX
          clear t2 blankX
          by_cases hn : n = 0
          · subst hn
            have q0 : Hid (Qw w w) := Lib.hid (Qw.refl w)
            go_enter Tryz.func25, Tryz.ntmps25
            go_wp2_with (first | (go_at_call 46; ((with_reducible refine (WORDSW.out _ (Ow.kept HO.out Qz) (WordsB.go (fun b hS hb => ⟨(Qw.block' Qz b hb), hS⟩) HW.out)).mono ?_); rintro e w' ⟨rfl, q⟩; replace R : Hid (Bx w' w.heap.size #[.int .i64 0, .int .i64 0, .bool skip, .slice wa words.length wc, .int .i64 left.op, .int .i64 left.n, .slice la left.ks.length lc, .int .i64 x.op, .int .i64 x.n, .slice xa x.ks.length xc, .int .i64 0] 37) := Lib.hid (Bx.kept Rz q); have r0 := R.out.cell' 0 _ rfl; have r1 := R.out.cell' 1 _ rfl; have r2 := R.out.cell' 2 _ rfl; have r3 := R.out.cell' 3 _ rfl; have r4 := R.out.cell' 4 _ rfl; have r5 := R.out.cell' 5 _ rfl; have r6 := R.out.cell' 6 _ rfl; have r7 := R.out.cell' 7 _ rfl; have r8 := R.out.cell' 8 _ rfl; have r9 := R.out.cell' 9 _ rfl; have r10 := R.out.cell' 10 _ rfl; replace q0 : Hid (Qw w w') := Lib.hid (Qw.trans Qz q); clear q)) | (go_at_call 47; ((with_reducible refine (BLANKL.out _).mono ?_); rintro e w' ⟨rfl, q⟩; replace R : Hid (Bx w' w.heap.size #[.int .i64 0, .int .i64 0, .bool skip, .slice wa words.length wc, .int .i64 left.op, .int .i64 left.n, .slice la left.ks.length lc, .int .i64 x.op, .int .i64 x.n, .slice xa x.ks.length xc, .int .i64 0] 37) := Lib.hid (Bx.kept Rz q); have r0 := R.out.cell' 0 _ rfl; have r1 := R.out.cell' 1 _ rfl; have r2 := R.out.cell' 2 _ rfl; have r3 := R.out.cell' 3 _ rfl; have r4 := R.out.cell' 4 _ rfl; have r5 := R.out.cell' 5 _ rfl; have r6 := R.out.cell' 6 _ rfl; have r7 := R.out.cell' 7 _ rfl; have r8 := R.out.cell' 8 _ rfl; have r9 := R.out.cell' 9 _ rfl; have r10 := R.out.cell' 10 _ rfl; replace q0 : Hid (Qw w w') := Lib.hid (Qw.trans Qz q); clear q)) | (go_at_call 47; ((with_reducible refine (BLANKX.out _).mono ?_); rintro e w' ⟨rfl, q⟩; replace R : Hid (Bx w' w.heap.size #[.int .i64 0, .int .i64 0, .bool skip, .slice wa words.length wc, .int .i64 left.op, .int .i64 left.n, .slice la left.ks.length lc, .int .i64 x.op, .int .i64 x.n, .slice xa x.ks.length xc, .int .i64 0] 37) := Lib.hid (Bx.kept Rz q); have r0 := R.out.cell' 0 _ rfl; have r1 := R.out.cell' 1 _ rfl; have r2 := R.out.cell' 2 _ rfl; have r3 := R.out.cell' 3 _ rfl; have r4 := R.out.cell' 4 _ rfl; have r5 := R.out.cell' 5 _ rfl; have r6 := R.out.cell' 6 _ rfl; have r7 := R.out.cell' 7 _ rfl; have r8 := R.out.cell' 8 _ rfl; have r9 := R.out.cell' 9 _ rfl; have r10 := R.out.cell' 10 _ rfl; replace q0 : Hid (Qw w w') := Lib.hid (Qw.trans Qz q); clear q)))
            go_ret
            exact ⟨rfl, Qz⟩
          · have nb : (n == 0) = false := beq_eq_false_iff_ne.2 hn
            rw [decide_eq_false hn]
            clear hn
            have q0 : Hid (Qw w w) := Lib.hid (Qw.refl w)
            go_enter Tryz.func25, Tryz.ntmps25
            go_wp2_with (first | (go_at_call 46; ((with_reducible refine (WORDSW.out _ (Ow.kept HO.out Qz) (WordsB.go (fun b hS hb => ⟨(Qw.block' Qz b hb), hS⟩) HW.out)).mono ?_); rintro e w' ⟨rfl, q⟩; replace R : Hid (Bx w' w.heap.size #[.int .i64 0, .int .i64 0, .bool skip, .slice wa words.length wc, .int .i64 left.op, .int .i64 left.n, .slice la left.ks.length lc, .int .i64 x.op, .int .i64 x.n, .slice xa x.ks.length xc, .int .i64 n] 37) := Lib.hid (Bx.kept Rz q); have r0 := R.out.cell' 0 _ rfl; have r1 := R.out.cell' 1 _ rfl; have r2 := R.out.cell' 2 _ rfl; have r3 := R.out.cell' 3 _ rfl; have r4 := R.out.cell' 4 _ rfl; have r5 := R.out.cell' 5 _ rfl; have r6 := R.out.cell' 6 _ rfl; have r7 := R.out.cell' 7 _ rfl; have r8 := R.out.cell' 8 _ rfl; have r9 := R.out.cell' 9 _ rfl; have r10 := R.out.cell' 10 _ rfl; replace q0 : Hid (Qw w w') := Lib.hid (Qw.trans Qz q); clear q)) | (go_at_call 47; ((with_reducible refine (BLANKL.out _).mono ?_); rintro e w' ⟨rfl, q⟩; replace R : Hid (Bx w' w.heap.size #[.int .i64 0, .int .i64 0, .bool skip, .slice wa words.length wc, .int .i64 left.op, .int .i64 left.n, .slice la left.ks.length lc, .int .i64 x.op, .int .i64 x.n, .slice xa x.ks.length xc, .int .i64 n] 37) := Lib.hid (Bx.kept Rz q); have r0 := R.out.cell' 0 _ rfl; have r1 := R.out.cell' 1 _ rfl; have r2 := R.out.cell' 2 _ rfl; have r3 := R.out.cell' 3 _ rfl; have r4 := R.out.cell' 4 _ rfl; have r5 := R.out.cell' 5 _ rfl; have r6 := R.out.cell' 6 _ rfl; have r7 := R.out.cell' 7 _ rfl; have r8 := R.out.cell' 8 _ rfl; have r9 := R.out.cell' 9 _ rfl; have r10 := R.out.cell' 10 _ rfl; replace q0 : Hid (Qw w w') := Lib.hid (Qw.trans Qz q); clear q)) | (go_at_call 47; ((with_reducible refine (BLANKX.out _).mono ?_); rintro e w' ⟨rfl, q⟩; replace R : Hid (Bx w' w.heap.size #[.int .i64 0, .int .i64 0, .bool skip, .slice wa words.length wc, .int .i64 left.op, .int .i64 left.n, .slice la left.ks.length lc, .int .i64 x.op, .int .i64 x.n, .slice xa x.ks.length xc, .int .i64 n] 37) := Lib.hid (Bx.kept Rz q); have r0 := R.out.cell' 0 _ rfl; have r1 := R.out.cell' 1 _ rfl; have r2 := R.out.cell' 2 _ rfl; have r3 := R.out.cell' 3 _ rfl; have r4 := R.out.cell' 4 _ rfl; have r5 := R.out.cell' 5 _ rfl; have r6 := R.out.cell' 6 _ rfl; have r7 := R.out.cell' 7 _ rfl; have r8 := R.out.cell' 8 _ rfl; have r9 := R.out.cell' 9 _ rfl; have r10 := R.out.cell' 10 _ rfl; replace q0 : Hid (Qw w w') := Lib.hid (Qw.trans Qz q); clear q)))
            go_ret
            exact ⟨rfl, Qz⟩
  · rw [hc] at cntL
    have lb : (label != 0) = true := by simpa using hl
    have CNTL := Lib.hid cntL
    clear cntL hl hc
    cases t0 : (decide (words.length ≤ 24) && wdsB words) with
    | false =>
      rw [t0] at wordsW
      have WORDSW := Lib.hid wordsW
      clear t0 wordsW blankL blankX
      have q0 : Hid (Qw w w) := Lib.hid (Qw.refl w)
      go_enter Tryz.func25, Tryz.ntmps25
      go_wp2_with (first | (go_at_call 45; ((with_reducible refine (CNTL.out _).mono ?_); rintro e w' ⟨rfl, rfl⟩)) | (go_at_call 46; ((with_reducible refine (WORDSW.out _ (Ow.kept HO.out Qz) (WordsB.go (fun b hS hb => ⟨(Qw.block' Qz b hb), hS⟩) HW.out)).mono ?_); rintro e w' ⟨rfl, q⟩; replace R : Hid (Bx w' w.heap.size #[.int .i64 0, .int .i64 label, .bool skip, .slice wa words.length wc, .int .i64 left.op, .int .i64 left.n, .slice la left.ks.length lc, .int .i64 x.op, .int .i64 x.n, .slice xa x.ks.length xc, .int .i64 n] 37) := Lib.hid (Bx.kept Rz q); have r0 := R.out.cell' 0 _ rfl; have r1 := R.out.cell' 1 _ rfl; have r2 := R.out.cell' 2 _ rfl; have r3 := R.out.cell' 3 _ rfl; have r4 := R.out.cell' 4 _ rfl; have r5 := R.out.cell' 5 _ rfl; have r6 := R.out.cell' 6 _ rfl; have r7 := R.out.cell' 7 _ rfl; have r8 := R.out.cell' 8 _ rfl; have r9 := R.out.cell' 9 _ rfl; have r10 := R.out.cell' 10 _ rfl; replace q0 : Hid (Qw w w') := Lib.hid (Qw.trans Qz q); clear q)))
      go_ret
      exact ⟨rfl, Qz⟩
    | true =>
      rw [t0] at wordsW
      have WORDSW := Lib.hid wordsW
      clear t0 wordsW
      cases t1 : Sy.noneB left with
      | false =>
        rw [t1] at blankL
        have BLANKL := Lib.hid blankL
        clear t1 blankL blankX
        have q0 : Hid (Qw w w) := Lib.hid (Qw.refl w)
        go_enter Tryz.func25, Tryz.ntmps25
        go_wp2_with (first | (go_at_call 45; ((with_reducible refine (CNTL.out _).mono ?_); rintro e w' ⟨rfl, rfl⟩)) | (go_at_call 46; ((with_reducible refine (WORDSW.out _ (Ow.kept HO.out Qz) (WordsB.go (fun b hS hb => ⟨(Qw.block' Qz b hb), hS⟩) HW.out)).mono ?_); rintro e w' ⟨rfl, q⟩; replace R : Hid (Bx w' w.heap.size #[.int .i64 0, .int .i64 label, .bool skip, .slice wa words.length wc, .int .i64 left.op, .int .i64 left.n, .slice la left.ks.length lc, .int .i64 x.op, .int .i64 x.n, .slice xa x.ks.length xc, .int .i64 n] 37) := Lib.hid (Bx.kept Rz q); have r0 := R.out.cell' 0 _ rfl; have r1 := R.out.cell' 1 _ rfl; have r2 := R.out.cell' 2 _ rfl; have r3 := R.out.cell' 3 _ rfl; have r4 := R.out.cell' 4 _ rfl; have r5 := R.out.cell' 5 _ rfl; have r6 := R.out.cell' 6 _ rfl; have r7 := R.out.cell' 7 _ rfl; have r8 := R.out.cell' 8 _ rfl; have r9 := R.out.cell' 9 _ rfl; have r10 := R.out.cell' 10 _ rfl; replace q0 : Hid (Qw w w') := Lib.hid (Qw.trans Qz q); clear q)) | (go_at_call 47; ((with_reducible refine (BLANKL.out _).mono ?_); rintro e w' ⟨rfl, q⟩; replace R : Hid (Bx w' w.heap.size #[.int .i64 0, .int .i64 label, .bool skip, .slice wa words.length wc, .int .i64 left.op, .int .i64 left.n, .slice la left.ks.length lc, .int .i64 x.op, .int .i64 x.n, .slice xa x.ks.length xc, .int .i64 n] 37) := Lib.hid (Bx.kept Rz q); have r0 := R.out.cell' 0 _ rfl; have r1 := R.out.cell' 1 _ rfl; have r2 := R.out.cell' 2 _ rfl; have r3 := R.out.cell' 3 _ rfl; have r4 := R.out.cell' 4 _ rfl; have r5 := R.out.cell' 5 _ rfl; have r6 := R.out.cell' 6 _ rfl; have r7 := R.out.cell' 7 _ rfl; have r8 := R.out.cell' 8 _ rfl; have r9 := R.out.cell' 9 _ rfl; have r10 := R.out.cell' 10 _ rfl; replace q0 : Hid (Qw w w') := Lib.hid (Qw.trans Qz q); clear q)))
        go_ret
        exact ⟨rfl, Qz⟩
      | true =>
        rw [t1] at blankL
        have BLANKL := Lib.hid blankL
        clear t1 blankL
        cases t2 : Sy.noneB x with
        | false =>
          rw [t2] at blankX
          have BLANKX := Lib.hid blankX
          clear t2 blankX
          have q0 : Hid (Qw w w) := Lib.hid (Qw.refl w)
          go_enter Tryz.func25, Tryz.ntmps25
          go_wp2_with (first | (go_at_call 45; ((with_reducible refine (CNTL.out _).mono ?_); rintro e w' ⟨rfl, rfl⟩)) | (go_at_call 46; ((with_reducible refine (WORDSW.out _ (Ow.kept HO.out Qz) (WordsB.go (fun b hS hb => ⟨(Qw.block' Qz b hb), hS⟩) HW.out)).mono ?_); rintro e w' ⟨rfl, q⟩; replace R : Hid (Bx w' w.heap.size #[.int .i64 0, .int .i64 label, .bool skip, .slice wa words.length wc, .int .i64 left.op, .int .i64 left.n, .slice la left.ks.length lc, .int .i64 x.op, .int .i64 x.n, .slice xa x.ks.length xc, .int .i64 n] 37) := Lib.hid (Bx.kept Rz q); have r0 := R.out.cell' 0 _ rfl; have r1 := R.out.cell' 1 _ rfl; have r2 := R.out.cell' 2 _ rfl; have r3 := R.out.cell' 3 _ rfl; have r4 := R.out.cell' 4 _ rfl; have r5 := R.out.cell' 5 _ rfl; have r6 := R.out.cell' 6 _ rfl; have r7 := R.out.cell' 7 _ rfl; have r8 := R.out.cell' 8 _ rfl; have r9 := R.out.cell' 9 _ rfl; have r10 := R.out.cell' 10 _ rfl; replace q0 : Hid (Qw w w') := Lib.hid (Qw.trans Qz q); clear q)) | (go_at_call 47; ((with_reducible refine (BLANKL.out _).mono ?_); rintro e w' ⟨rfl, q⟩; replace R : Hid (Bx w' w.heap.size #[.int .i64 0, .int .i64 label, .bool skip, .slice wa words.length wc, .int .i64 left.op, .int .i64 left.n, .slice la left.ks.length lc, .int .i64 x.op, .int .i64 x.n, .slice xa x.ks.length xc, .int .i64 n] 37) := Lib.hid (Bx.kept Rz q); have r0 := R.out.cell' 0 _ rfl; have r1 := R.out.cell' 1 _ rfl; have r2 := R.out.cell' 2 _ rfl; have r3 := R.out.cell' 3 _ rfl; have r4 := R.out.cell' 4 _ rfl; have r5 := R.out.cell' 5 _ rfl; have r6 := R.out.cell' 6 _ rfl; have r7 := R.out.cell' 7 _ rfl; have r8 := R.out.cell' 8 _ rfl; have r9 := R.out.cell' 9 _ rfl; have r10 := R.out.cell' 10 _ rfl; replace q0 : Hid (Qw w w') := Lib.hid (Qw.trans Qz q); clear q)) | (go_at_call 47; ((with_reducible refine (BLANKX.out _).mono ?_); rintro e w' ⟨rfl, q⟩; replace R : Hid (Bx w' w.heap.size #[.int .i64 0, .int .i64 label, .bool skip, .slice wa words.length wc, .int .i64 left.op, .int .i64 left.n, .slice la left.ks.length lc, .int .i64 x.op, .int .i64 x.n, .slice xa x.ks.length xc, .int .i64 n] 37) := Lib.hid (Bx.kept Rz q); have r0 := R.out.cell' 0 _ rfl; have r1 := R.out.cell' 1 _ rfl; have r2 := R.out.cell' 2 _ rfl; have r3 := R.out.cell' 3 _ rfl; have r4 := R.out.cell' 4 _ rfl; have r5 := R.out.cell' 5 _ rfl; have r6 := R.out.cell' 6 _ rfl; have r7 := R.out.cell' 7 _ rfl; have r8 := R.out.cell' 8 _ rfl; have r9 := R.out.cell' 9 _ rfl; have r10 := R.out.cell' 10 _ rfl; replace q0 : Hid (Qw w w') := Lib.hid (Qw.trans Qz q); clear q)))
          go_ret
          exact ⟨rfl, Qz⟩
        | true =>
          rw [t2] at blankX
          have BLANKX := Lib.hid blankX
          clear t2 blankX
          by_cases hn : n = 0
          · subst hn
            have q0 : Hid (Qw w w) := Lib.hid (Qw.refl w)
            go_enter Tryz.func25, Tryz.ntmps25
            go_wp2_with (first | (go_at_call 45; ((with_reducible refine (CNTL.out _).mono ?_); rintro e w' ⟨rfl, rfl⟩)) | (go_at_call 46; ((with_reducible refine (WORDSW.out _ (Ow.kept HO.out Qz) (WordsB.go (fun b hS hb => ⟨(Qw.block' Qz b hb), hS⟩) HW.out)).mono ?_); rintro e w' ⟨rfl, q⟩; replace R : Hid (Bx w' w.heap.size #[.int .i64 0, .int .i64 label, .bool skip, .slice wa words.length wc, .int .i64 left.op, .int .i64 left.n, .slice la left.ks.length lc, .int .i64 x.op, .int .i64 x.n, .slice xa x.ks.length xc, .int .i64 0] 37) := Lib.hid (Bx.kept Rz q); have r0 := R.out.cell' 0 _ rfl; have r1 := R.out.cell' 1 _ rfl; have r2 := R.out.cell' 2 _ rfl; have r3 := R.out.cell' 3 _ rfl; have r4 := R.out.cell' 4 _ rfl; have r5 := R.out.cell' 5 _ rfl; have r6 := R.out.cell' 6 _ rfl; have r7 := R.out.cell' 7 _ rfl; have r8 := R.out.cell' 8 _ rfl; have r9 := R.out.cell' 9 _ rfl; have r10 := R.out.cell' 10 _ rfl; replace q0 : Hid (Qw w w') := Lib.hid (Qw.trans Qz q); clear q)) | (go_at_call 47; ((with_reducible refine (BLANKL.out _).mono ?_); rintro e w' ⟨rfl, q⟩; replace R : Hid (Bx w' w.heap.size #[.int .i64 0, .int .i64 label, .bool skip, .slice wa words.length wc, .int .i64 left.op, .int .i64 left.n, .slice la left.ks.length lc, .int .i64 x.op, .int .i64 x.n, .slice xa x.ks.length xc, .int .i64 0] 37) := Lib.hid (Bx.kept Rz q); have r0 := R.out.cell' 0 _ rfl; have r1 := R.out.cell' 1 _ rfl; have r2 := R.out.cell' 2 _ rfl; have r3 := R.out.cell' 3 _ rfl; have r4 := R.out.cell' 4 _ rfl; have r5 := R.out.cell' 5 _ rfl; have r6 := R.out.cell' 6 _ rfl; have r7 := R.out.cell' 7 _ rfl; have r8 := R.out.cell' 8 _ rfl; have r9 := R.out.cell' 9 _ rfl; have r10 := R.out.cell' 10 _ rfl; replace q0 : Hid (Qw w w') := Lib.hid (Qw.trans Qz q); clear q)) | (go_at_call 47; ((with_reducible refine (BLANKX.out _).mono ?_); rintro e w' ⟨rfl, q⟩; replace R : Hid (Bx w' w.heap.size #[.int .i64 0, .int .i64 label, .bool skip, .slice wa words.length wc, .int .i64 left.op, .int .i64 left.n, .slice la left.ks.length lc, .int .i64 x.op, .int .i64 x.n, .slice xa x.ks.length xc, .int .i64 0] 37) := Lib.hid (Bx.kept Rz q); have r0 := R.out.cell' 0 _ rfl; have r1 := R.out.cell' 1 _ rfl; have r2 := R.out.cell' 2 _ rfl; have r3 := R.out.cell' 3 _ rfl; have r4 := R.out.cell' 4 _ rfl; have r5 := R.out.cell' 5 _ rfl; have r6 := R.out.cell' 6 _ rfl; have r7 := R.out.cell' 7 _ rfl; have r8 := R.out.cell' 8 _ rfl; have r9 := R.out.cell' 9 _ rfl; have r10 := R.out.cell' 10 _ rfl; replace q0 : Hid (Qw w w') := Lib.hid (Qw.trans Qz q); clear q)))
            go_ret
            exact ⟨rfl, Qz⟩
          · have nb : (n == 0) = false := beq_eq_false_iff_ne.2 hn
            rw [decide_eq_false hn]
            clear hn
            have q0 : Hid (Qw w w) := Lib.hid (Qw.refl w)
            go_enter Tryz.func25, Tryz.ntmps25
            go_wp2_with (first | (go_at_call 45; ((with_reducible refine (CNTL.out _).mono ?_); rintro e w' ⟨rfl, rfl⟩)) | (go_at_call 46; ((with_reducible refine (WORDSW.out _ (Ow.kept HO.out Qz) (WordsB.go (fun b hS hb => ⟨(Qw.block' Qz b hb), hS⟩) HW.out)).mono ?_); rintro e w' ⟨rfl, q⟩; replace R : Hid (Bx w' w.heap.size #[.int .i64 0, .int .i64 label, .bool skip, .slice wa words.length wc, .int .i64 left.op, .int .i64 left.n, .slice la left.ks.length lc, .int .i64 x.op, .int .i64 x.n, .slice xa x.ks.length xc, .int .i64 n] 37) := Lib.hid (Bx.kept Rz q); have r0 := R.out.cell' 0 _ rfl; have r1 := R.out.cell' 1 _ rfl; have r2 := R.out.cell' 2 _ rfl; have r3 := R.out.cell' 3 _ rfl; have r4 := R.out.cell' 4 _ rfl; have r5 := R.out.cell' 5 _ rfl; have r6 := R.out.cell' 6 _ rfl; have r7 := R.out.cell' 7 _ rfl; have r8 := R.out.cell' 8 _ rfl; have r9 := R.out.cell' 9 _ rfl; have r10 := R.out.cell' 10 _ rfl; replace q0 : Hid (Qw w w') := Lib.hid (Qw.trans Qz q); clear q)) | (go_at_call 47; ((with_reducible refine (BLANKL.out _).mono ?_); rintro e w' ⟨rfl, q⟩; replace R : Hid (Bx w' w.heap.size #[.int .i64 0, .int .i64 label, .bool skip, .slice wa words.length wc, .int .i64 left.op, .int .i64 left.n, .slice la left.ks.length lc, .int .i64 x.op, .int .i64 x.n, .slice xa x.ks.length xc, .int .i64 n] 37) := Lib.hid (Bx.kept Rz q); have r0 := R.out.cell' 0 _ rfl; have r1 := R.out.cell' 1 _ rfl; have r2 := R.out.cell' 2 _ rfl; have r3 := R.out.cell' 3 _ rfl; have r4 := R.out.cell' 4 _ rfl; have r5 := R.out.cell' 5 _ rfl; have r6 := R.out.cell' 6 _ rfl; have r7 := R.out.cell' 7 _ rfl; have r8 := R.out.cell' 8 _ rfl; have r9 := R.out.cell' 9 _ rfl; have r10 := R.out.cell' 10 _ rfl; replace q0 : Hid (Qw w w') := Lib.hid (Qw.trans Qz q); clear q)) | (go_at_call 47; ((with_reducible refine (BLANKX.out _).mono ?_); rintro e w' ⟨rfl, q⟩; replace R : Hid (Bx w' w.heap.size #[.int .i64 0, .int .i64 label, .bool skip, .slice wa words.length wc, .int .i64 left.op, .int .i64 left.n, .slice la left.ks.length lc, .int .i64 x.op, .int .i64 x.n, .slice xa x.ks.length xc, .int .i64 n] 37) := Lib.hid (Bx.kept Rz q); have r0 := R.out.cell' 0 _ rfl; have r1 := R.out.cell' 1 _ rfl; have r2 := R.out.cell' 2 _ rfl; have r3 := R.out.cell' 3 _ rfl; have r4 := R.out.cell' 4 _ rfl; have r5 := R.out.cell' 5 _ rfl; have r6 := R.out.cell' 6 _ rfl; have r7 := R.out.cell' 7 _ rfl; have r8 := R.out.cell' 8 _ rfl; have r9 := R.out.cell' 9 _ rfl; have r10 := R.out.cell' 10 _ rfl; replace q0 : Hid (Qw w w') := Lib.hid (Qw.trans Qz q); clear q)))
            go_ret
            exact ⟨rfl, Qz⟩
end Go.Proofs.YtciglhecjkeogaaGreatDoor

