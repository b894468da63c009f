import Derived.Test.YtlgdjbabbfdngaaDoorZSP3
import Derived.Test.YtlgdjbabbfdngaaDoorZSP9
set_option linter.unusedVariables false
set_option linter.unusedSimpArgs false
namespace Go.Proofs.YtlgdjbabbfdngaaDoor
open Go.RowKit
theorem Qw.block' {w w' : World} (q : Qw w w') : ∀ b, b < w.heap.size → w'.heap[b]? = w.heap[b]? := q.block
set_option maxRecDepth 100000 in
set_option maxHeartbeats 4000000 in
theorem sv_valid0 (label n : Int) (skip : Bool) (words : List (Int × Sy.Ex)) (left x : Sy.Ex) (wa la xa : Option Addr) (wc lc xc : Nat) (S : Nat → Prop) (w : World) (hO : Ow w) (hW : WordsB w S wa wc words) (hL : KidsB w S la lc left.ks) (hX : KidsB w S xa xc x.ks)
    (hl : label = 0 ∨ (label ≠ 0 ∧ Sy.cnt label 99999 = true)) :
    Calls Tryd.prog 35 #[.agg #[.int .i64 0, .int .i64 label, .bool skip, .slice wa words.length wc, .int .i64 left.op, .int .i64 left.n, .slice la left.ks.length lc, .int .i64 x.op, .int .i64 x.n, .slice xa x.ks.length xc, .int .i64 n]] w fun e w' => e = .returned (.bool ((decide (words.length ≤ 24) && wdsB words) && Sy.noneB left && Sy.noneB x && decide (n = 0))) ∧ Qw w w' := by
  have HO := Lib.hid hO
  have HW := Lib.hid hW
  have HL := Lib.hid hL
  have HX := Lib.hid hX
  have m1 := hW.1
  have m2 := hW.2.1
  obtain ⟨m3, m4⟩ := hL.cap
  obtain ⟨m5, m6⟩ := hX.cap
  have R : Hid (Bx (w.alloc (.cells #[.int .i64 0, .int .i64 label, .bool skip, .slice wa words.length wc, .int .i64 left.op, .int .i64 left.n, .slice la left.ks.length lc, .int .i64 x.op, .int .i64 x.n, .slice xa x.ks.length xc, .int .i64 n] 37)) w.heap.size #[.int .i64 0, .int .i64 label, .bool skip, .slice wa words.length wc, .int .i64 left.op, .int .i64 left.n, .slice la left.ks.length lc, .int .i64 x.op, .int .i64 x.n, .slice xa x.ks.length xc, .int .i64 n] 37) := Lib.hid (Bx.new w _ _)
  have rightL : ∀ w, Ow w → KidsB w S la lc left.ks → Calls Tryd.prog 52 #[.agg #[.int .i64 left.op, .int .i64 left.n, .slice la left.ks.length lc]] w fun e w' => e = .returned (.bool (Sy.rgt left)) ∧ Qw w w' := fun w h1 h2 => by
    have := sv_right left.op left.n left.ks la lc S w h1 h2; cases left; exact this
  have rightX : ∀ w, Ow w → KidsB w S xa xc x.ks → Calls Tryd.prog 52 #[.agg #[.int .i64 x.op, .int .i64 x.n, .slice xa x.ks.length xc]] w fun e w' => e = .returned (.bool (Sy.rgt x)) ∧ Qw w w' := fun w h1 h2 => by
    have := sv_right x.op x.n x.ks xa xc S w h1 h2; cases x; exact this
  have blankL : ∀ w, Calls Tryd.prog 51 #[.agg #[.int .i64 left.op, .int .i64 left.n, .slice la left.ks.length lc]] w fun e w' => e = .returned (.bool (Sy.noneB left)) ∧ Qw w w' := fun w => sv_blank left.op left.n left.ks.length la lc m3 m4 w
  have blankX : ∀ w, Calls Tryd.prog 51 #[.agg #[.int .i64 x.op, .int .i64 x.n, .slice xa x.ks.length xc]] w fun e w' => e = .returned (.bool (Sy.noneB x)) ∧ Qw w w' := fun w => sv_blank x.op x.n x.ks.length xa xc m5 m6 w
  have cntN : ∀ m : Nat, ∀ w, Calls Tryd.prog 49 #[.int .i64 n, .int .i64 (m : Int)] w fun e w' => e = .returned (.bool (Sy.cnt n m)) ∧ w = w' := fun m w => syCounts n m w
  have cntL : ∀ w, Calls Tryd.prog 49 #[.int .i64 label, .int .i64 99999] w fun e w' => e = .returned (.bool (Sy.cnt label 99999)) ∧ w = w' := fun w => syCounts label 99999 w
  have wordsW : ∀ w, Ow w → WordsB w S wa wc words → Calls Tryd.prog 50 #[.slice wa words.length wc] w fun e w' => e = .returned (.bool (decide (words.length ≤ 24) && wdsB words)) ∧ Qw w w' := fun w h1 h2 => sv_rightWords words wa wc S w h1 h2
  clear hO hW hL hX m1 m3 m5
  clear cntN
  clear rightL
  clear rightX
  rcases hl with hl | ⟨hl, hc⟩
  · subst hl
    clear cntL
    cases t0 : (decide (words.length ≤ 24) && wdsB words) with
    | false =>
      rw [t0] at wordsW
      have WORDSW := Lib.hid wordsW
      clear t0 wordsW blankL blankX
      have q0 : Hid (Qw w w) := Lib.hid (Qw.refl w)
      go_enter Tryd.func35, Tryd.ntmps35
      go_wp2_with (go_at_call 50; ((with_reducible refine (WORDSW.out _ (Ow.kept HO.out Qz) (WordsB.go (fun b hS hb => ⟨(Qw.block' Qz b hb), hS⟩) HW.out)).mono ?_); rintro e w' ⟨rfl, q⟩; replace R : Hid (Bx w' w.heap.size #[.int .i64 0, .int .i64 0, .bool skip, .slice wa words.length wc, .int .i64 left.op, .int .i64 left.n, .slice la left.ks.length lc, .int .i64 x.op, .int .i64 x.n, .slice xa x.ks.length xc, .int .i64 n] 37) := Lib.hid (Bx.kept Rz q); have r0 := R.out.cell' 0 _ rfl; have r1 := R.out.cell' 1 _ rfl; have r2 := R.out.cell' 2 _ rfl; have r3 := R.out.cell' 3 _ rfl; have r4 := R.out.cell' 4 _ rfl; have r5 := R.out.cell' 5 _ rfl; have r6 := R.out.cell' 6 _ rfl; have r7 := R.out.cell' 7 _ rfl; have r8 := R.out.cell' 8 _ rfl; have r9 := R.out.cell' 9 _ rfl; have r10 := R.out.cell' 10 _ rfl; replace q0 : Hid (Qw w w') := Lib.hid (Qw.trans Qz q); clear q))
      go_ret
      exact ⟨rfl, Qz⟩
    | true =>
      rw [t0] at wordsW
      have WORDSW := Lib.hid wordsW
      clear t0 wordsW
      cases t1 : Sy.noneB left with
      | false =>
        rw [t1] at blankL
        have BLANKL := Lib.hid blankL
        clear t1 blankL blankX
        have q0 : Hid (Qw w w) := Lib.hid (Qw.refl w)
        go_enter Tryd.func35, Tryd.ntmps35
        go_wp2_with (first | (go_at_call 50; ((with_reducible refine (WORDSW.out _ (Ow.kept HO.out Qz) (WordsB.go (fun b hS hb => ⟨(Qw.block' Qz b hb), hS⟩) HW.out)).mono ?_); rintro e w' ⟨rfl, q⟩; replace R : Hid (Bx w' w.heap.size #[.int .i64 0, .int .i64 0, .bool skip, .slice wa words.length wc, .int .i64 left.op, .int .i64 left.n, .slice la left.ks.length lc, .int .i64 x.op, .int .i64 x.n, .slice xa x.ks.length xc, .int .i64 n] 37) := Lib.hid (Bx.kept Rz q); have r0 := R.out.cell' 0 _ rfl; have r1 := R.out.cell' 1 _ rfl; have r2 := R.out.cell' 2 _ rfl; have r3 := R.out.cell' 3 _ rfl; have r4 := R.out.cell' 4 _ rfl; have r5 := R.out.cell' 5 _ rfl; have r6 := R.out.cell' 6 _ rfl; have r7 := R.out.cell' 7 _ rfl; have r8 := R.out.cell' 8 _ rfl; have r9 := R.out.cell' 9 _ rfl; have r10 := R.out.cell' 10 _ rfl; replace q0 : Hid (Qw w w') := Lib.hid (Qw.trans Qz q); clear q)) | (go_at_call 51; ((with_reducible refine (BLANKL.out _).mono ?_); rintro e w' ⟨rfl, q⟩; replace R : Hid (Bx w' w.heap.size #[.int .i64 0, .int .i64 0, .bool skip, .slice wa words.length wc, .int .i64 left.op, .int .i64 left.n, .slice la left.ks.length lc, .int .i64 x.op, .int .i64 x.n, .slice xa x.ks.length xc, .int .i64 n] 37) := Lib.hid (Bx.kept Rz q); have r0 := R.out.cell' 0 _ rfl; have r1 := R.out.cell' 1 _ rfl; have r2 := R.out.cell' 2 _ rfl; have r3 := R.out.cell' 3 _ rfl; have r4 := R.out.cell' 4 _ rfl; have r5 := R.out.cell' 5 _ rfl; have r6 := R.out.cell' 6 _ rfl; have r7 := R.out.cell' 7 _ rfl; have r8 := R.out.cell' 8 _ rfl; have r9 := R.out.cell' 9 _ rfl; have r10 := R.out.cell' 10 _ rfl; replace q0 : Hid (Qw w w') := Lib.hid (Qw.trans Qz q); clear q)))
        go_ret
        exact ⟨rfl, Qz⟩
      | true =>
        rw [t1] at blankL
        have BLANKL := Lib.hid blankL
        clear t1 blankL
        cases t2 : Sy.noneB x with
        | false =>
          rw [t2] at blankX
          have BLANKX := Lib.hid blankX
          clear t2 blankX
          have q0 : Hid (Qw w w) := Lib.hid (Qw.refl w)
          go_enter Tryd.func35, Tryd.ntmps35
          go_wp2_with (first | (go_at_call 50; ((with_reducible refine (WORDSW.out _ (Ow.kept HO.out Qz) (WordsB.go (fun b hS hb => ⟨(Qw.block' Qz b hb), hS⟩) HW.out)).mono ?_); rintro e w' ⟨rfl, q⟩; replace R : Hid (Bx w' w.heap.size #[.int .i64 0, .int .i64 0, .bool skip, .slice wa words.length wc, .int .i64 left.op, .int .i64 left.n, .slice la left.ks.length lc, .int .i64 x.op, .int .i64 x.n, .slice xa x.ks.length xc, .int .i64 n] 37) := Lib.hid (Bx.kept Rz q); have r0 := R.out.cell' 0 _ rfl; have r1 := R.out.cell' 1 _ rfl; have r2 := R.out.cell' 2 _ rfl; have r3 := R.out.cell' 3 _ rfl; have r4 := R.out.cell' 4 _ rfl; have r5 := R.out.cell' 5 _ rfl; have r6 := R.out.cell' 6 _ rfl; have r7 := R.out.cell' 7 _ rfl; have r8 := R.out.cell' 8 _ rfl; have r9 := R.out.cell' 9 _ rfl; have r10 := R.out.cell' 10 _ rfl; replace q0 : Hid (Qw w w') := Lib.hid (Qw.trans Qz q); clear q)) | (go_at_call 51; ((with_reducible refine (BLANKL.out _).mono ?_); rintro e w' ⟨rfl, q⟩; replace R : Hid (Bx w' w.heap.size #[.int .i64 0, .int .i64 0, .bool skip, .slice wa words.length wc, .int .i64 left.op, .int .i64 left.n, .slice la left.ks.length lc, .int .i64 x.op, .int .i64 x.n, .slice xa x.ks.length xc, .int .i64 n] 37) := Lib.hid (Bx.kept Rz q); have r0 := R.out.cell' 0 _ rfl; have r1 := R.out.cell' 1 _ rfl; have r2 := R.out.cell' 2 _ rfl; have r3 := R.out.cell' 3 _ rfl; have r4 := R.out.cell' 4 _ rfl; have r5 := R.out.cell' 5 _ rfl; have r6 := R.out.cell' 6 _ rfl; have r7 := R.out.cell' 7 _ rfl; have r8 := R.out.cell' 8 _ rfl; have r9 := R.out.cell' 9 _ rfl; have r10 := R.out.cell' 10 _ rfl; replace q0 : Hid (Qw w w') := Lib.hid (Qw.trans Qz q); clear q)) | (go_at_call 51; ((with_reducible refine (BLANKX.out _).mono ?_); rintro e w' ⟨rfl, q⟩; replace R : Hid (Bx w' w.heap.size #[.int .i64 0, .int .i64 0, .bool skip, .slice wa words.length wc, .int .i64 left.op, .int .i64 left.n, .slice la left.ks.length lc, .int .i64 x.op, .int .i64 x.n, .slice xa x.ks.length xc, .int .i64 n] 37) := Lib.hid (Bx.kept Rz q); have r0 := R.out.cell' 0 _ rfl; have r1 := R.out.cell' 1 _ rfl; have r2 := R.out.cell' 2 _ rfl; have r3 := R.out.cell' 3 _ rfl; have r4 := R.out.cell' 4 _ rfl; have r5 := R.out.cell' 5 _ rfl; have r6 := R.out.cell' 6 _ rfl; have r7 := R.out.cell' 7 _ rfl; have r8 := R.out.cell' 8 _ rfl; have r9 := R.out.cell' 9 _ rfl; have r10 := R.out.cell' 10 _ rfl; replace q0 : Hid (Qw w w') := Lib.hid (Qw.trans Qz q); clear q)))
          go_ret
          exact ⟨rfl, Qz⟩
        | true =>
          rw [t2] at blankX
          have BLANKX := Lib.hid blankX
          clear t2 blankX
          by_cases hn : n = 0
          · subst hn
            have q0 : Hid (Qw w w) := Lib.hid (Qw.refl w)
            go_enter Tryd.func35, Tryd.ntmps35
            go_wp2_with (first | (go_at_call 50; ((with_reducible refine (WORDSW.out _ (Ow.kept HO.out Qz) (WordsB.go (fun b hS hb => ⟨(Qw.block' Qz b hb), hS⟩) HW.out)).mono ?_); rintro e w' ⟨rfl, q⟩; replace R : Hid (Bx w' w.heap.size #[.int .i64 0, .int .i64 0, .bool skip, .slice wa words.length wc, .int .i64 left.op, .int .i64 left.n, .slice la left.ks.length lc, .int .i64 x.op, .int .i64 x.n, .slice xa x.ks.length xc, .int .i64 0] 37) := Lib.hid (Bx.kept Rz q); have r0 := R.out.cell' 0 _ rfl; have r1 := R.out.cell' 1 _ rfl; have r2 := R.out.cell' 2 _ rfl; have r3 := R.out.cell' 3 _ rfl; have r4 := R.out.cell' 4 _ rfl; have r5 := R.out.cell' 5 _ rfl; have r6 := R.out.cell' 6 _ rfl; have r7 := R.out.cell' 7 _ rfl; have r8 := R.out.cell' 8 _ rfl; have r9 := R.out.cell' 9 _ rfl; have r10 := R.out.cell' 10 _ rfl; replace q0 : Hid (Qw w w') := Lib.hid (Qw.trans Qz q); clear q)) | (go_at_call 51; ((with_reducible refine (BLANKL.out _).mono ?_); rintro e w' ⟨rfl, q⟩; replace R : Hid (Bx w' w.heap.size #[.int .i64 0, .int .i64 0, .bool skip, .slice wa words.length wc, .int .i64 left.op, .int .i64 left.n, .slice la left.ks.length lc, .int .i64 x.op, .int .i64 x.n, .slice xa x.ks.length xc, .int .i64 0] 37) := Lib.hid (Bx.kept Rz q); have r0 := R.out.cell' 0 _ rfl; have r1 := R.out.cell' 1 _ rfl; have r2 := R.out.cell' 2 _ rfl; have r3 := R.out.cell' 3 _ rfl; have r4 := R.out.cell' 4 _ rfl; have r5 := R.out.cell' 5 _ rfl; have r6 := R.out.cell' 6 _ rfl; have r7 := R.out.cell' 7 _ rfl; have r8 := R.out.cell' 8 _ rfl; have r9 := R.out.cell' 9 _ rfl; have r10 := R.out.cell' 10 _ rfl; replace q0 : Hid (Qw w w') := Lib.hid (Qw.trans Qz q); clear q)) | (go_at_call 51; ((with_reducible refine (BLANKX.out _).mono ?_); rintro e w' ⟨rfl, q⟩; replace R : Hid (Bx w' w.heap.size #[.int .i64 0, .int .i64 0, .bool skip, .slice wa words.length wc, .int .i64 left.op, .int .i64 left.n, .slice la left.ks.length lc, .int .i64 x.op, .int .i64 x.n, .slice xa x.ks.length xc, .int .i64 0] 37) := Lib.hid (Bx.kept Rz q); have r0 := R.out.cell' 0 _ rfl; have r1 := R.out.cell' 1 _ rfl; have r2 := R.out.cell' 2 _ rfl; have r3 := R.out.cell' 3 _ rfl; have r4 := R.out.cell' 4 _ rfl; have r5 := R.out.cell' 5 _ rfl; have r6 := R.out.cell' 6 _ rfl; have r7 := R.out.cell' 7 _ rfl; have r8 := R.out.cell' 8 _ rfl; have r9 := R.out.cell' 9 _ rfl; have r10 := R.out.cell' 10 _ rfl; replace q0 : Hid (Qw w w') := Lib.hid (Qw.trans Qz q); clear q)))
            go_ret
            exact ⟨rfl, Qz⟩
          · have nb : (n == 0) = false := beq_eq_false_iff_ne.2 hn
            rw [decide_eq_false hn]
            clear hn
            have q0 : Hid (Qw w w) := Lib.hid (Qw.refl w)
            go_enter Tryd.func35, Tryd.ntmps35
            go_wp2_with (first | (go_at_call 50; ((with_reducible refine (WORDSW.out _ (Ow.kept HO.out Qz) (WordsB.go (fun b hS hb => ⟨(Qw.block' Qz b hb), hS⟩) HW.out)).mono ?_); rintro e w' ⟨rfl, q⟩; replace R : Hid (Bx w' w.heap.size #[.int .i64 0, .int .i64 0, .bool skip, .slice wa words.length wc, .int .i64 left.op, .int .i64 left.n, .slice la left.ks.length lc, .int .i64 x.op, .int .i64 x.n, .slice xa x.ks.length xc, .int .i64 n] 37) := Lib.hid (Bx.kept Rz q); have r0 := R.out.cell' 0 _ rfl; have r1 := R.out.cell' 1 _ rfl; have r2 := R.out.cell' 2 _ rfl; have r3 := R.out.cell' 3 _ rfl; have r4 := R.out.cell' 4 _ rfl; have r5 := R.out.cell' 5 _ rfl; have r6 := R.out.cell' 6 _ rfl; have r7 := R.out.cell' 7 _ rfl; have r8 := R.out.cell' 8 _ rfl; have r9 := R.out.cell' 9 _ rfl; have r10 := R.out.cell' 10 _ rfl; replace q0 : Hid (Qw w w') := Lib.hid (Qw.trans Qz q); clear q)) | (go_at_call 51; ((with_reducible refine (BLANKL.out _).mono ?_); rintro e w' ⟨rfl, q⟩; replace R : Hid (Bx w' w.heap.size #[.int .i64 0, .int .i64 0, .bool skip, .slice wa words.length wc, .int .i64 left.op, .int .i64 left.n, .slice la left.ks.length lc, .int .i64 x.op, .int .i64 x.n, .slice xa x.ks.length xc, .int .i64 n] 37) := Lib.hid (Bx.kept Rz q); have r0 := R.out.cell' 0 _ rfl; have r1 := R.out.cell' 1 _ rfl; have r2 := R.out.cell' 2 _ rfl; have r3 := R.out.cell' 3 _ rfl; have r4 := R.out.cell' 4 _ rfl; have r5 := R.out.cell' 5 _ rfl; have r6 := R.out.cell' 6 _ rfl; have r7 := R.out.cell' 7 _ rfl; have r8 := R.out.cell' 8 _ rfl; have r9 := R.out.cell' 9 _ rfl; have r10 := R.out.cell' 10 _ rfl; replace q0 : Hid (Qw w w') := Lib.hid (Qw.trans Qz q); clear q)) | (go_at_call 51; ((with_reducible refine (BLANKX.out _).mono ?_); rintro e w' ⟨rfl, q⟩; replace R : Hid (Bx w' w.heap.size #[.int .i64 0, .int .i64 0, .bool skip, .slice wa words.length wc, .int .i64 left.op, .int .i64 left.n, .slice la left.ks.length lc, .int .i64 x.op, .int .i64 x.n, .slice xa x.ks.length xc, .int .i64 n] 37) := Lib.hid (Bx.kept Rz q); have r0 := R.out.cell' 0 _ rfl; have r1 := R.out.cell' 1 _ rfl; have r2 := R.out.cell' 2 _ rfl; have r3 := R.out.cell' 3 _ rfl; have r4 := R.out.cell' 4 _ rfl; have r5 := R.out.cell' 5 _ rfl; have r6 := R.out.cell' 6 _ rfl; have r7 := R.out.cell' 7 _ rfl; have r8 := R.out.cell' 8 _ rfl; have r9 := R.out.cell' 9 _ rfl; have r10 := R.out.cell' 10 _ rfl; replace q0 : Hid (Qw w w') := Lib.hid (Qw.trans Qz q); clear q)))
            go_ret
            exact ⟨rfl, Qz⟩
  · rw [hc] at cntL
    have lb : (label != 0) = true := by simpa using hl
    have CNTL := Lib.hid cntL
    clear cntL hl hc
    cases t0 : (decide (words.length ≤ 24) && wdsB words) with
    | false =>
      rw [t0] at wordsW
      have WORDSW := Lib.hid wordsW
      clear t0 wordsW blankL blankX
      have q0 : Hid (Qw w w) := Lib.hid (Qw.refl w)
      go_enter Tryd.func35, Tryd.ntmps35
      go_wp2_with (first | (go_at_call 49; ((with_reducible refine (CNTL.out _).mono ?_); rintro e w' ⟨rfl, rfl⟩)) | (go_at_call 50; ((with_reducible refine (WORDSW.out _ (Ow.kept HO.out Qz) (WordsB.go (fun b hS hb => ⟨(Qw.block' Qz b hb), hS⟩) HW.out)).mono ?_); rintro e w' ⟨rfl, q⟩; replace R : Hid (Bx w' w.heap.size #[.int .i64 0, .int .i64 label, .bool skip, .slice wa words.length wc, .int .i64 left.op, .int .i64 left.n, .slice la left.ks.length lc, .int .i64 x.op, .int .i64 x.n, .slice xa x.ks.length xc, .int .i64 n] 37) := Lib.hid (Bx.kept Rz q); have r0 := R.out.cell' 0 _ rfl; have r1 := R.out.cell' 1 _ rfl; have r2 := R.out.cell' 2 _ rfl; have r3 := R.out.cell' 3 _ rfl; have r4 := R.out.cell' 4 _ rfl; have r5 := R.out.cell' 5 _ rfl; have r6 := R.out.cell' 6 _ rfl; have r7 := R.out.cell' 7 _ rfl; have r8 := R.out.cell' 8 _ rfl; have r9 := R.out.cell' 9 _ rfl; have r10 := R.out.cell' 10 _ rfl; replace q0 : Hid (Qw w w') := Lib.hid (Qw.trans Qz q); clear q)))
      go_ret
      exact ⟨rfl, Qz⟩
    | true =>
      rw [t0] at wordsW
      have WORDSW := Lib.hid wordsW
      clear t0 wordsW
      cases t1 : Sy.noneB left with
      | false =>
        rw [t1] at blankL
        have BLANKL := Lib.hid blankL
        clear t1 blankL blankX
        have q0 : Hid (Qw w w) := Lib.hid (Qw.refl w)
        go_enter Tryd.func35, Tryd.ntmps35
        go_wp2_with (first | (go_at_call 49; ((with_reducible refine (CNTL.out _).mono ?_); rintro e w' ⟨rfl, rfl⟩)) | (go_at_call 50; ((with_reducible refine (WORDSW.out _ (Ow.kept HO.out Qz) (WordsB.go (fun b hS hb => ⟨(Qw.block' Qz b hb), hS⟩) HW.out)).mono ?_); rintro e w' ⟨rfl, q⟩; replace R : Hid (Bx w' w.heap.size #[.int .i64 0, .int .i64 label, .bool skip, .slice wa words.length wc, .int .i64 left.op, .int .i64 left.n, .slice la left.ks.length lc, .int .i64 x.op, .int .i64 x.n, .slice xa x.ks.length xc, .int .i64 n] 37) := Lib.hid (Bx.kept Rz q); have r0 := R.out.cell' 0 _ rfl; have r1 := R.out.cell' 1 _ rfl; have r2 := R.out.cell' 2 _ rfl; have r3 := R.out.cell' 3 _ rfl; have r4 := R.out.cell' 4 _ rfl; have r5 := R.out.cell' 5 _ rfl; have r6 := R.out.cell' 6 _ rfl; have r7 := R.out.cell' 7 _ rfl; have r8 := R.out.cell' 8 _ rfl; have r9 := R.out.cell' 9 _ rfl; have r10 := R.out.cell' 10 _ rfl; replace q0 : Hid (Qw w w') := Lib.hid (Qw.trans Qz q); clear q)) | (go_at_call 51; ((with_reducible refine (BLANKL.out _).mono ?_); rintro e w' ⟨rfl, q⟩; replace R : Hid (Bx w' w.heap.size #[.int .i64 0, .int .i64 label, .bool skip, .slice wa words.length wc, .int .i64 left.op, .int .i64 left.n, .slice la left.ks.length lc, .int .i64 x.op, .int .i64 x.n, .slice xa x.ks.length xc, .int .i64 n] 37) := Lib.hid (Bx.kept Rz q); have r0 := R.out.cell' 0 _ rfl; have r1 := R.out.cell' 1 _ rfl; have r2 := R.out.cell' 2 _ rfl; have r3 := R.out.cell' 3 _ rfl; have r4 := R.out.cell' 4 _ rfl; have r5 := R.out.cell' 5 _ rfl; have r6 := R.out.cell' 6 _ rfl; have r7 := R.out.cell' 7 _ rfl; have r8 := R.out.cell' 8 _ rfl; have r9 := R.out.cell' 9 _ rfl; have r10 := R.out.cell' 10 _ rfl; replace q0 : Hid (Qw w w') := Lib.hid (Qw.trans Qz q); clear q)))
        go_ret
        exact ⟨rfl, Qz⟩
      | true =>
        rw [t1] at blankL
        have BLANKL := Lib.hid blankL
        clear t1 blankL
        cases t2 : Sy.noneB x with
        | false =>
          rw [t2] at blankX
          have BLANKX := Lib.hid blankX
          clear t2 blankX
          have q0 : Hid (Qw w w) := Lib.hid (Qw.refl w)
          go_enter Tryd.func35, Tryd.ntmps35
          go_wp2_with (first | (go_at_call 49; ((with_reducible refine (CNTL.out _).mono ?_); rintro e w' ⟨rfl, rfl⟩)) | (go_at_call 50; ((with_reducible refine (WORDSW.out _ (Ow.kept HO.out Qz) (WordsB.go (fun b hS hb => ⟨(Qw.block' Qz b hb), hS⟩) HW.out)).mono ?_); rintro e w' ⟨rfl, q⟩; replace R : Hid (Bx w' w.heap.size #[.int .i64 0, .int .i64 label, .bool skip, .slice wa words.length wc, .int .i64 left.op, .int .i64 left.n, .slice la left.ks.length lc, .int .i64 x.op, .int .i64 x.n, .slice xa x.ks.length xc, .int .i64 n] 37) := Lib.hid (Bx.kept Rz q); have r0 := R.out.cell' 0 _ rfl; have r1 := R.out.cell' 1 _ rfl; have r2 := R.out.cell' 2 _ rfl; have r3 := R.out.cell' 3 _ rfl; have r4 := R.out.cell' 4 _ rfl; have r5 := R.out.cell' 5 _ rfl; have r6 := R.out.cell' 6 _ rfl; have r7 := R.out.cell' 7 _ rfl; have r8 := R.out.cell' 8 _ rfl; have r9 := R.out.cell' 9 _ rfl; have r10 := R.out.cell' 10 _ rfl; replace q0 : Hid (Qw w w') := Lib.hid (Qw.trans Qz q); clear q)) | (go_at_call 51; ((with_reducible refine (BLANKL.out _).mono ?_); rintro e w' ⟨rfl, q⟩; replace R : Hid (Bx w' w.heap.size #[.int .i64 0, .int .i64 label, .bool skip, .slice wa words.length wc, .int .i64 left.op, .int .i64 left.n, .slice la left.ks.length lc, .int .i64 x.op, .int .i64 x.n, .slice xa x.ks.length xc, .int .i64 n] 37) := Lib.hid (Bx.kept Rz q); have r0 := R.out.cell' 0 _ rfl; have r1 := R.out.cell' 1 _ rfl; have r2 := R.out.cell' 2 _ rfl; have r3 := R.out.cell' 3 _ rfl; have r4 := R.out.cell' 4 _ rfl; have r5 := R.out.cell' 5 _ rfl; have r6 := R.out.cell' 6 _ rfl; have r7 := R.out.cell' 7 _ rfl; have r8 := R.out.cell' 8 _ rfl; have r9 := R.out.cell' 9 _ rfl; have r10 := R.out.cell' 10 _ rfl; replace q0 : Hid (Qw w w') := Lib.hid (Qw.trans Qz q); clear q)) | (go_at_call 51; ((with_reducible refine (BLANKX.out _).mono ?_); rintro e w' ⟨rfl, q⟩; replace R : Hid (Bx w' w.heap.size #[.int .i64 0, .int .i64 label, .bool skip, .slice wa words.length wc, .int .i64 left.op, .int .i64 left.n, .slice la left.ks.length lc, .int .i64 x.op, .int .i64 x.n, .slice xa x.ks.length xc, .int .i64 n] 37) := Lib.hid (Bx.kept Rz q); have r0 := R.out.cell' 0 _ rfl; have r1 := R.out.cell' 1 _ rfl; have r2 := R.out.cell' 2 _ rfl; have r3 := R.out.cell' 3 _ rfl; have r4 := R.out.cell' 4 _ rfl; have r5 := R.out.cell' 5 _ rfl; have r6 := R.out.cell' 6 _ rfl; have r7 := R.out.cell' 7 _ rfl; have r8 := R.out.cell' 8 _ rfl; have r9 := R.out.cell' 9 _ rfl; have r10 := R.out.cell' 10 _ rfl; replace q0 : Hid (Qw w w') := Lib.hid (Qw.trans Qz q); clear q)))
          go_ret
          exact ⟨rfl, Qz⟩
        | true =>
          rw [t2] at blankX
          have BLANKX := Lib.hid blankX
          clear t2 blankX
          by_cases hn : n = 0
          · subst hn
            have q0 : Hid (Qw w w) := Lib.hid (Qw.refl w)
            go_enter Tryd.func35, Tryd.ntmps35
            go_wp2_with (first | (go_at_call 49; ((with_reducible refine (CNTL.out _).mono ?_); rintro e w' ⟨rfl, rfl⟩)) | (go_at_call 50; ((with_reducible refine (WORDSW.out _ (Ow.kept HO.out Qz) (WordsB.go (fun b hS hb => ⟨(Qw.block' Qz b hb), hS⟩) HW.out)).mono ?_); rintro e w' ⟨rfl, q⟩; replace R : Hid (Bx w' w.heap.size #[.int .i64 0, .int .i64 label, .bool skip, .slice wa words.length wc, .int .i64 left.op, .int .i64 left.n, .slice la left.ks.length lc, .int .i64 x.op, .int .i64 x.n, .slice xa x.ks.length xc, .int .i64 0] 37) := Lib.hid (Bx.kept Rz q); have r0 := R.out.cell' 0 _ rfl; have r1 := R.out.cell' 1 _ rfl; have r2 := R.out.cell' 2 _ rfl; have r3 := R.out.cell' 3 _ rfl; have r4 := R.out.cell' 4 _ rfl; have r5 := R.out.cell' 5 _ rfl; have r6 := R.out.cell' 6 _ rfl; have r7 := R.out.cell' 7 _ rfl; have r8 := R.out.cell' 8 _ rfl; have r9 := R.out.cell' 9 _ rfl; have r10 := R.out.cell' 10 _ rfl; replace q0 : Hid (Qw w w') := Lib.hid (Qw.trans Qz q); clear q)) | (go_at_call 51; ((with_reducible refine (BLANKL.out _).mono ?_); rintro e w' ⟨rfl, q⟩; replace R : Hid (Bx w' w.heap.size #[.int .i64 0, .int .i64 label, .bool skip, .slice wa words.length wc, .int .i64 left.op, .int .i64 left.n, .slice la left.ks.length lc, .int .i64 x.op, .int .i64 x.n, .slice xa x.ks.length xc, .int .i64 0] 37) := Lib.hid (Bx.kept Rz q); have r0 := R.out.cell' 0 _ rfl; have r1 := R.out.cell' 1 _ rfl; have r2 := R.out.cell' 2 _ rfl; have r3 := R.out.cell' 3 _ rfl; have r4 := R.out.cell' 4 _ rfl; have r5 := R.out.cell' 5 _ rfl; have r6 := R.out.cell' 6 _ rfl; have r7 := R.out.cell' 7 _ rfl; have r8 := R.out.cell' 8 _ rfl; have r9 := R.out.cell' 9 _ rfl; have r10 := R.out.cell' 10 _ rfl; replace q0 : Hid (Qw w w') := Lib.hid (Qw.trans Qz q); clear q)) | (go_at_call 51; ((with_reducible refine (BLANKX.out _).mono ?_); rintro e w' ⟨rfl, q⟩; replace R : Hid (Bx w' w.heap.size #[.int .i64 0, .int .i64 label, .bool skip, .slice wa words.length wc, .int .i64 left.op, .int .i64 left.n, .slice la left.ks.length lc, .int .i64 x.op, .int .i64 x.n, .slice xa x.ks.length xc, .int .i64 0] 37) := Lib.hid (Bx.kept Rz q); have r0 := R.out.cell' 0 _ rfl; have r1 := R.out.cell' 1 _ rfl; have r2 := R.out.cell' 2 _ rfl; have r3 := R.out.cell' 3 _ rfl; have r4 := R.out.cell' 4 _ rfl; have r5 := R.out.cell' 5 _ rfl; have r6 := R.out.cell' 6 _ rfl; have r7 := R.out.cell' 7 _ rfl; have r8 := R.out.cell' 8 _ rfl; have r9 := R.out.cell' 9 _ rfl; have r10 := R.out.cell' 10 _ rfl; replace q0 : Hid (Qw w w') := Lib.hid (Qw.trans Qz q); clear q)))
            go_ret
            exact ⟨rfl, Qz⟩
          · have nb : (n == 0) = false := beq_eq_false_iff_ne.2 hn
            rw [decide_eq_false hn]
            clear hn
            have q0 : Hid (Qw w w) := Lib.hid (Qw.refl w)
            go_enter Tryd.func35, Tryd.ntmps35
            go_wp2_with (first | (go_at_call 49; ((with_reducible refine (CNTL.out _).mono ?_); rintro e w' ⟨rfl, rfl⟩)) | (go_at_call 50; ((with_reducible refine (WORDSW.out _ (Ow.kept HO.out Qz) (WordsB.go (fun b hS hb => ⟨(Qw.block' Qz b hb), hS⟩) HW.out)).mono ?_); rintro e w' ⟨rfl, q⟩; replace R : Hid (Bx w' w.heap.size #[.int .i64 0, .int .i64 label, .bool skip, .slice wa words.length wc, .int .i64 left.op, .int .i64 left.n, .slice la left.ks.length lc, .int .i64 x.op, .int .i64 x.n, .slice xa x.ks.length xc, .int .i64 n] 37) := Lib.hid (Bx.kept Rz q); have r0 := R.out.cell' 0 _ rfl; have r1 := R.out.cell' 1 _ rfl; have r2 := R.out.cell' 2 _ rfl; have r3 := R.out.cell' 3 _ rfl; have r4 := R.out.cell' 4 _ rfl; have r5 := R.out.cell' 5 _ rfl; have r6 := R.out.cell' 6 _ rfl; have r7 := R.out.cell' 7 _ rfl; have r8 := R.out.cell' 8 _ rfl; have r9 := R.out.cell' 9 _ rfl; have r10 := R.out.cell' 10 _ rfl; replace q0 : Hid (Qw w w') := Lib.hid (Qw.trans Qz q); clear q)) | (go_at_call 51; ((with_reducible refine (BLANKL.out _).mono ?_); rintro e w' ⟨rfl, q⟩; replace R : Hid (Bx w' w.heap.size #[.int .i64 0, .int .i64 label, .bool skip, .slice wa words.length wc, .int .i64 left.op, .int .i64 left.n, .slice la left.ks.length lc, .int .i64 x.op, .int .i64 x.n, .slice xa x.ks.length xc, .int .i64 n] 37) := Lib.hid (Bx.kept Rz q); have r0 := R.out.cell' 0 _ rfl; have r1 := R.out.cell' 1 _ rfl; have r2 := R.out.cell' 2 _ rfl; have r3 := R.out.cell' 3 _ rfl; have r4 := R.out.cell' 4 _ rfl; have r5 := R.out.cell' 5 _ rfl; have r6 := R.out.cell' 6 _ rfl; have r7 := R.out.cell' 7 _ rfl; have r8 := R.out.cell' 8 _ rfl; have r9 := R.out.cell' 9 _ rfl; have r10 := R.out.cell' 10 _ rfl; replace q0 : Hid (Qw w w') := Lib.hid (Qw.trans Qz q); clear q)) | (go_at_call 51; ((with_reducible refine (BLANKX.out _).mono ?_); rintro e w' ⟨rfl, q⟩; replace R : Hid (Bx w' w.heap.size #[.int .i64 0, .int .i64 label, .bool skip, .slice wa words.length wc, .int .i64 left.op, .int .i64 left.n, .slice la left.ks.length lc, .int .i64 x.op, .int .i64 x.n, .slice xa x.ks.length xc, .int .i64 n] 37) := Lib.hid (Bx.kept Rz q); have r0 := R.out.cell' 0 _ rfl; have r1 := R.out.cell' 1 _ rfl; have r2 := R.out.cell' 2 _ rfl; have r3 := R.out.cell' 3 _ rfl; have r4 := R.out.cell' 4 _ rfl; have r5 := R.out.cell' 5 _ rfl; have r6 := R.out.cell' 6 _ rfl; have r7 := R.out.cell' 7 _ rfl; have r8 := R.out.cell' 8 _ rfl; have r9 := R.out.cell' 9 _ rfl; have r10 := R.out.cell' 10 _ rfl; replace q0 : Hid (Qw w w') := Lib.hid (Qw.trans Qz q); clear q)))
            go_ret
            exact ⟨rfl, Qz⟩
end Go.Proofs.YtlgdjbabbfdngaaDoor
set_option linter.unusedVariables false
set_option linter.unusedSimpArgs false
namespace Go.Proofs.YtlgdjbabbfdngaaDoor
open Go.RowKit
set_option maxRecDepth 100000 in
set_option maxHeartbeats 4000000 in
theorem sv_valid1 (label n : Int) (skip : Bool) (words : List (Int × Sy.Ex)) (left x : Sy.Ex) (wa la xa : Option Addr) (wc lc xc : Nat) (S : Nat → Prop) (w : World) (hO : Ow w) (hW : WordsB w S wa wc words) (hL : KidsB w S la lc left.ks) (hX : KidsB w S xa xc x.ks)
    (hl : label = 0 ∨ (label ≠ 0 ∧ Sy.cnt label 99999 = true)) (hw : words = []) :
    Calls Tryd.prog 35 #[.agg #[.int .i64 1, .int .i64 label, .bool skip, .slice wa words.length wc, .int .i64 left.op, .int .i64 left.n, .slice la left.ks.length lc, .int .i64 x.op, .int .i64 x.n, .slice xa x.ks.length xc, .int .i64 n]] w fun e w' => e = .returned (.bool (Sy.rgt left && Sy.rgt x && decide (n = 0))) ∧ Qw w w' := by
  have HO := Lib.hid hO
  have HW := Lib.hid hW
  have HL := Lib.hid hL
  have HX := Lib.hid hX
  have m1 := hW.1
  have m2 := hW.2.1
  obtain ⟨m3, m4⟩ := hL.cap
  obtain ⟨m5, m6⟩ := hX.cap
  have R : Hid (Bx (w.alloc (.cells #[.int .i64 1, .int .i64 label, .bool skip, .slice wa words.length wc, .int .i64 left.op, .int .i64 left.n, .slice la left.ks.length lc, .int .i64 x.op, .int .i64 x.n, .slice xa x.ks.length xc, .int .i64 n] 37)) w.heap.size #[.int .i64 1, .int .i64 label, .bool skip, .slice wa words.length wc, .int .i64 left.op, .int .i64 left.n, .slice la left.ks.length lc, .int .i64 x.op, .int .i64 x.n, .slice xa x.ks.length xc, .int .i64 n] 37) := Lib.hid (Bx.new w _ _)
  have rightL : ∀ w, Ow w → KidsB w S la lc left.ks → Calls Tryd.prog 52 #[.agg #[.int .i64 left.op, .int .i64 left.n, .slice la left.ks.length lc]] w fun e w' => e = .returned (.bool (Sy.rgt left)) ∧ Qw w w' := fun w h1 h2 => by
    have := sv_right left.op left.n left.ks la lc S w h1 h2; cases left; exact this
  have rightX : ∀ w, Ow w → KidsB w S xa xc x.ks → Calls Tryd.prog 52 #[.agg #[.int .i64 x.op, .int .i64 x.n, .slice xa x.ks.length xc]] w fun e w' => e = .returned (.bool (Sy.rgt x)) ∧ Qw w w' := fun w h1 h2 => by
    have := sv_right x.op x.n x.ks xa xc S w h1 h2; cases x; exact this
  have blankL : ∀ w, Calls Tryd.prog 51 #[.agg #[.int .i64 left.op, .int .i64 left.n, .slice la left.ks.length lc]] w fun e w' => e = .returned (.bool (Sy.noneB left)) ∧ Qw w w' := fun w => sv_blank left.op left.n left.ks.length la lc m3 m4 w
  have blankX : ∀ w, Calls Tryd.prog 51 #[.agg #[.int .i64 x.op, .int .i64 x.n, .slice xa x.ks.length xc]] w fun e w' => e = .returned (.bool (Sy.noneB x)) ∧ Qw w w' := fun w => sv_blank x.op x.n x.ks.length xa xc m5 m6 w
  have cntN : ∀ m : Nat, ∀ w, Calls Tryd.prog 49 #[.int .i64 n, .int .i64 (m : Int)] w fun e w' => e = .returned (.bool (Sy.cnt n m)) ∧ w = w' := fun m w => syCounts n m w
  have cntL : ∀ w, Calls Tryd.prog 49 #[.int .i64 label, .int .i64 99999] w fun e w' => e = .returned (.bool (Sy.cnt label 99999)) ∧ w = w' := fun w => syCounts label 99999 w
  have wordsW : ∀ w, Ow w → WordsB w S wa wc words → Calls Tryd.prog 50 #[.slice wa words.length wc] w fun e w' => e = .returned (.bool (decide (words.length ≤ 24) && wdsB words)) ∧ Qw w w' := fun w h1 h2 => sv_rightWords words wa wc S w h1 h2
  clear hO hW hL hX m1 m3 m5
  subst hw
  have R' : Hid (Bx (w.alloc (.cells #[.int .i64 1, .int .i64 label, .bool skip, .slice wa 0 wc, .int .i64 left.op, .int .i64 left.n, .slice la left.ks.length lc, .int .i64 x.op, .int .i64 x.n, .slice xa x.ks.length xc, .int .i64 n] 37)) w.heap.size #[.int .i64 1, .int .i64 label, .bool skip, .slice wa 0 wc, .int .i64 left.op, .int .i64 left.n, .slice la left.ks.length lc, .int .i64 x.op, .int .i64 x.n, .slice xa x.ks.length xc, .int .i64 n] 37) := R
  clear R
  have R := R'
  clear R'
  clear cntN
  clear blankL
  clear blankX
  clear wordsW
  rcases hl with hl | ⟨hl, hc⟩
  · subst hl
    clear cntL
    cases t0 : Sy.rgt left with
    | false =>
      rw [t0] at rightL
      have RIGHTL := Lib.hid rightL
      clear t0 rightL rightX
      have q0 : Hid (Qw w w) := Lib.hid (Qw.refl w)
      go_enter Tryd.func35, Tryd.ntmps35
      go_wp2_with (go_at_call 52; ((with_reducible refine (RIGHTL.out _ (Ow.kept HO.out Qz) (KidsB.kept HL.out Qz)).mono ?_); rintro e w' ⟨rfl, q⟩; replace R : Hid (Bx w' w.heap.size #[.int .i64 1, .int .i64 0, .bool skip, .slice wa 0 wc, .int .i64 left.op, .int .i64 left.n, .slice la left.ks.length lc, .int .i64 x.op, .int .i64 x.n, .slice xa x.ks.length xc, .int .i64 n] 37) := Lib.hid (Bx.kept Rz q); have r0 := R.out.cell' 0 _ rfl; have r1 := R.out.cell' 1 _ rfl; have r2 := R.out.cell' 2 _ rfl; have r3 := R.out.cell' 3 _ rfl; have r4 := R.out.cell' 4 _ rfl; have r5 := R.out.cell' 5 _ rfl; have r6 := R.out.cell' 6 _ rfl; have r7 := R.out.cell' 7 _ rfl; have r8 := R.out.cell' 8 _ rfl; have r9 := R.out.cell' 9 _ rfl; have r10 := R.out.cell' 10 _ rfl; replace q0 : Hid (Qw w w') := Lib.hid (Qw.trans Qz q); clear q))
      go_ret
      exact ⟨rfl, Qz⟩
    | true =>
      rw [t0] at rightL
      have RIGHTL := Lib.hid rightL
      clear t0 rightL
      cases t1 : Sy.rgt x with
      | false =>
        rw [t1] at rightX
        have RIGHTX := Lib.hid rightX
        clear t1 rightX
        have q0 : Hid (Qw w w) := Lib.hid (Qw.refl w)
        go_enter Tryd.func35, Tryd.ntmps35
        go_wp2_with (first | (go_at_call 52; ((with_reducible refine (RIGHTL.out _ (Ow.kept HO.out Qz) (KidsB.kept HL.out Qz)).mono ?_); rintro e w' ⟨rfl, q⟩; replace R : Hid (Bx w' w.heap.size #[.int .i64 1, .int .i64 0, .bool skip, .slice wa 0 wc, .int .i64 left.op, .int .i64 left.n, .slice la left.ks.length lc, .int .i64 x.op, .int .i64 x.n, .slice xa x.ks.length xc, .int .i64 n] 37) := Lib.hid (Bx.kept Rz q); have r0 := R.out.cell' 0 _ rfl; have r1 := R.out.cell' 1 _ rfl; have r2 := R.out.cell' 2 _ rfl; have r3 := R.out.cell' 3 _ rfl; have r4 := R.out.cell' 4 _ rfl; have r5 := R.out.cell' 5 _ rfl; have r6 := R.out.cell' 6 _ rfl; have r7 := R.out.cell' 7 _ rfl; have r8 := R.out.cell' 8 _ rfl; have r9 := R.out.cell' 9 _ rfl; have r10 := R.out.cell' 10 _ rfl; replace q0 : Hid (Qw w w') := Lib.hid (Qw.trans Qz q); clear q)) | (go_at_call 52; ((with_reducible refine (RIGHTX.out _ (Ow.kept HO.out Qz) (KidsB.kept HX.out Qz)).mono ?_); rintro e w' ⟨rfl, q⟩; replace R : Hid (Bx w' w.heap.size #[.int .i64 1, .int .i64 0, .bool skip, .slice wa 0 wc, .int .i64 left.op, .int .i64 left.n, .slice la left.ks.length lc, .int .i64 x.op, .int .i64 x.n, .slice xa x.ks.length xc, .int .i64 n] 37) := Lib.hid (Bx.kept Rz q); have r0 := R.out.cell' 0 _ rfl; have r1 := R.out.cell' 1 _ rfl; have r2 := R.out.cell' 2 _ rfl; have r3 := R.out.cell' 3 _ rfl; have r4 := R.out.cell' 4 _ rfl; have r5 := R.out.cell' 5 _ rfl; have r6 := R.out.cell' 6 _ rfl; have r7 := R.out.cell' 7 _ rfl; have r8 := R.out.cell' 8 _ rfl; have r9 := R.out.cell' 9 _ rfl; have r10 := R.out.cell' 10 _ rfl; replace q0 : Hid (Qw w w') := Lib.hid (Qw.trans Qz q); clear q)))
        go_ret
        exact ⟨rfl, Qz⟩
      | true =>
        rw [t1] at rightX
        have RIGHTX := Lib.hid rightX
        clear t1 rightX
        by_cases hn : n = 0
        · subst hn
          have q0 : Hid (Qw w w) := Lib.hid (Qw.refl w)
          go_enter Tryd.func35, Tryd.ntmps35
          go_wp2_with (first | (go_at_call 52; ((with_reducible refine (RIGHTL.out _ (Ow.kept HO.out Qz) (KidsB.kept HL.out Qz)).mono ?_); rintro e w' ⟨rfl, q⟩; replace R : Hid (Bx w' w.heap.size #[.int .i64 1, .int .i64 0, .bool skip, .slice wa 0 wc, .int .i64 left.op, .int .i64 left.n, .slice la left.ks.length lc, .int .i64 x.op, .int .i64 x.n, .slice xa x.ks.length xc, .int .i64 0] 37) := Lib.hid (Bx.kept Rz q); have r0 := R.out.cell' 0 _ rfl; have r1 := R.out.cell' 1 _ rfl; have r2 := R.out.cell' 2 _ rfl; have r3 := R.out.cell' 3 _ rfl; have r4 := R.out.cell' 4 _ rfl; have r5 := R.out.cell' 5 _ rfl; have r6 := R.out.cell' 6 _ rfl; have r7 := R.out.cell' 7 _ rfl; have r8 := R.out.cell' 8 _ rfl; have r9 := R.out.cell' 9 _ rfl; have r10 := R.out.cell' 10 _ rfl; replace q0 : Hid (Qw w w') := Lib.hid (Qw.trans Qz q); clear q)) | (go_at_call 52; ((with_reducible refine (RIGHTX.out _ (Ow.kept HO.out Qz) (KidsB.kept HX.out Qz)).mono ?_); rintro e w' ⟨rfl, q⟩; replace R : Hid (Bx w' w.heap.size #[.int .i64 1, .int .i64 0, .bool skip, .slice wa 0 wc, .int .i64 left.op, .int .i64 left.n, .slice la left.ks.length lc, .int .i64 x.op, .int .i64 x.n, .slice xa x.ks.length xc, .int .i64 0] 37) := Lib.hid (Bx.kept Rz q); have r0 := R.out.cell' 0 _ rfl; have r1 := R.out.cell' 1 _ rfl; have r2 := R.out.cell' 2 _ rfl; have r3 := R.out.cell' 3 _ rfl; have r4 := R.out.cell' 4 _ rfl; have r5 := R.out.cell' 5 _ rfl; have r6 := R.out.cell' 6 _ rfl; have r7 := R.out.cell' 7 _ rfl; have r8 := R.out.cell' 8 _ rfl; have r9 := R.out.cell' 9 _ rfl; have r10 := R.out.cell' 10 _ rfl; replace q0 : Hid (Qw w w') := Lib.hid (Qw.trans Qz q); clear q)))
          go_ret
          exact ⟨rfl, Qz⟩
        · have nb : (n == 0) = false := beq_eq_false_iff_ne.2 hn
          rw [decide_eq_false hn]
          clear hn
          have q0 : Hid (Qw w w) := Lib.hid (Qw.refl w)
          go_enter Tryd.func35, Tryd.ntmps35
          go_wp2_with (first | (go_at_call 52; ((with_reducible refine (RIGHTL.out _ (Ow.kept HO.out Qz) (KidsB.kept HL.out Qz)).mono ?_); rintro e w' ⟨rfl, q⟩; replace R : Hid (Bx w' w.heap.size #[.int .i64 1, .int .i64 0, .bool skip, .slice wa 0 wc, .int .i64 left.op, .int .i64 left.n, .slice la left.ks.length lc, .int .i64 x.op, .int .i64 x.n, .slice xa x.ks.length xc, .int .i64 n] 37) := Lib.hid (Bx.kept Rz q); have r0 := R.out.cell' 0 _ rfl; have r1 := R.out.cell' 1 _ rfl; have r2 := R.out.cell' 2 _ rfl; have r3 := R.out.cell' 3 _ rfl; have r4 := R.out.cell' 4 _ rfl; have r5 := R.out.cell' 5 _ rfl; have r6 := R.out.cell' 6 _ rfl; have r7 := R.out.cell' 7 _ rfl; have r8 := R.out.cell' 8 _ rfl; have r9 := R.out.cell' 9 _ rfl; have r10 := R.out.cell' 10 _ rfl; replace q0 : Hid (Qw w w') := Lib.hid (Qw.trans Qz q); clear q)) | (go_at_call 52; ((with_reducible refine (RIGHTX.out _ (Ow.kept HO.out Qz) (KidsB.kept HX.out Qz)).mono ?_); rintro e w' ⟨rfl, q⟩; replace R : Hid (Bx w' w.heap.size #[.int .i64 1, .int .i64 0, .bool skip, .slice wa 0 wc, .int .i64 left.op, .int .i64 left.n, .slice la left.ks.length lc, .int .i64 x.op, .int .i64 x.n, .slice xa x.ks.length xc, .int .i64 n] 37) := Lib.hid (Bx.kept Rz q); have r0 := R.out.cell' 0 _ rfl; have r1 := R.out.cell' 1 _ rfl; have r2 := R.out.cell' 2 _ rfl; have r3 := R.out.cell' 3 _ rfl; have r4 := R.out.cell' 4 _ rfl; have r5 := R.out.cell' 5 _ rfl; have r6 := R.out.cell' 6 _ rfl; have r7 := R.out.cell' 7 _ rfl; have r8 := R.out.cell' 8 _ rfl; have r9 := R.out.cell' 9 _ rfl; have r10 := R.out.cell' 10 _ rfl; replace q0 : Hid (Qw w w') := Lib.hid (Qw.trans Qz q); clear q)))
          go_ret
          exact ⟨rfl, Qz⟩
  · rw [hc] at cntL
    have lb : (label != 0) = true := by simpa using hl
    have CNTL := Lib.hid cntL
    clear cntL hl hc
    cases t0 : Sy.rgt left with
    | false =>
      rw [t0] at rightL
      have RIGHTL := Lib.hid rightL
      clear t0 rightL rightX
      have q0 : Hid (Qw w w) := Lib.hid (Qw.refl w)
      go_enter Tryd.func35, Tryd.ntmps35
      go_wp2_with (first | (go_at_call 49; ((with_reducible refine (CNTL.out _).mono ?_); rintro e w' ⟨rfl, rfl⟩)) | (go_at_call 52; ((with_reducible refine (RIGHTL.out _ (Ow.kept HO.out Qz) (KidsB.kept HL.out Qz)).mono ?_); rintro e w' ⟨rfl, q⟩; replace R : Hid (Bx w' w.heap.size #[.int .i64 1, .int .i64 label, .bool skip, .slice wa 0 wc, .int .i64 left.op, .int .i64 left.n, .slice la left.ks.length lc, .int .i64 x.op, .int .i64 x.n, .slice xa x.ks.length xc, .int .i64 n] 37) := Lib.hid (Bx.kept Rz q); have r0 := R.out.cell' 0 _ rfl; have r1 := R.out.cell' 1 _ rfl; have r2 := R.out.cell' 2 _ rfl; have r3 := R.out.cell' 3 _ rfl; have r4 := R.out.cell' 4 _ rfl; have r5 := R.out.cell' 5 _ rfl; have r6 := R.out.cell' 6 _ rfl; have r7 := R.out.cell' 7 _ rfl; have r8 := R.out.cell' 8 _ rfl; have r9 := R.out.cell' 9 _ rfl; have r10 := R.out.cell' 10 _ rfl; replace q0 : Hid (Qw w w') := Lib.hid (Qw.trans Qz q); clear q)))
      go_ret
      exact ⟨rfl, Qz⟩
    | true =>
      rw [t0] at rightL
      have RIGHTL := Lib.hid rightL
      clear t0 rightL
      cases t1 : Sy.rgt x with
      | false =>
        rw [t1] at rightX
        have RIGHTX := Lib.hid rightX
        clear t1 rightX
        have q0 : Hid (Qw w w) := Lib.hid (Qw.refl w)
        go_enter Tryd.func35, Tryd.ntmps35
        go_wp2_with (first | (go_at_call 49; ((with_reducible refine (CNTL.out _).mono ?_); rintro e w' ⟨rfl, rfl⟩)) | (go_at_call 52; ((with_reducible refine (RIGHTL.out _ (Ow.kept HO.out Qz) (KidsB.kept HL.out Qz)).mono ?_); rintro e w' ⟨rfl, q⟩; replace R : Hid (Bx w' w.heap.size #[.int .i64 1, .int .i64 label, .bool skip, .slice wa 0 wc, .int .i64 left.op, .int .i64 left.n, .slice la left.ks.length lc, .int .i64 x.op, .int .i64 x.n, .slice xa x.ks.length xc, .int .i64 n] 37) := Lib.hid (Bx.kept Rz q); have r0 := R.out.cell' 0 _ rfl; have r1 := R.out.cell' 1 _ rfl; have r2 := R.out.cell' 2 _ rfl; have r3 := R.out.cell' 3 _ rfl; have r4 := R.out.cell' 4 _ rfl; have r5 := R.out.cell' 5 _ rfl; have r6 := R.out.cell' 6 _ rfl; have r7 := R.out.cell' 7 _ rfl; have r8 := R.out.cell' 8 _ rfl; have r9 := R.out.cell' 9 _ rfl; have r10 := R.out.cell' 10 _ rfl; replace q0 : Hid (Qw w w') := Lib.hid (Qw.trans Qz q); clear q)) | (go_at_call 52; ((with_reducible refine (RIGHTX.out _ (Ow.kept HO.out Qz) (KidsB.kept HX.out Qz)).mono ?_); rintro e w' ⟨rfl, q⟩; replace R : Hid (Bx w' w.heap.size #[.int .i64 1, .int .i64 label, .bool skip, .slice wa 0 wc, .int .i64 left.op, .int .i64 left.n, .slice la left.ks.length lc, .int .i64 x.op, .int .i64 x.n, .slice xa x.ks.length xc, .int .i64 n] 37) := Lib.hid (Bx.kept Rz q); have r0 := R.out.cell' 0 _ rfl; have r1 := R.out.cell' 1 _ rfl; have r2 := R.out.cell' 2 _ rfl; have r3 := R.out.cell' 3 _ rfl; have r4 := R.out.cell' 4 _ rfl; have r5 := R.out.cell' 5 _ rfl; have r6 := R.out.cell' 6 _ rfl; have r7 := R.out.cell' 7 _ rfl; have r8 := R.out.cell' 8 _ rfl; have r9 := R.out.cell' 9 _ rfl; have r10 := R.out.cell' 10 _ rfl; replace q0 : Hid (Qw w w') := Lib.hid (Qw.trans Qz q); clear q)))
        go_ret
        exact ⟨rfl, Qz⟩
      | true =>
        rw [t1] at rightX
        have RIGHTX := Lib.hid rightX
        clear t1 rightX
        by_cases hn : n = 0
        · subst hn
          have q0 : Hid (Qw w w) := Lib.hid (Qw.refl w)
          go_enter Tryd.func35, Tryd.ntmps35
          go_wp2_with (first | (go_at_call 49; ((with_reducible refine (CNTL.out _).mono ?_); rintro e w' ⟨rfl, rfl⟩)) | (go_at_call 52; ((with_reducible refine (RIGHTL.out _ (Ow.kept HO.out Qz) (KidsB.kept HL.out Qz)).mono ?_); rintro e w' ⟨rfl, q⟩; replace R : Hid (Bx w' w.heap.size #[.int .i64 1, .int .i64 label, .bool skip, .slice wa 0 wc, .int .i64 left.op, .int .i64 left.n, .slice la left.ks.length lc, .int .i64 x.op, .int .i64 x.n, .slice xa x.ks.length xc, .int .i64 0] 37) := Lib.hid (Bx.kept Rz q); have r0 := R.out.cell' 0 _ rfl; have r1 := R.out.cell' 1 _ rfl; have r2 := R.out.cell' 2 _ rfl; have r3 := R.out.cell' 3 _ rfl; have r4 := R.out.cell' 4 _ rfl; have r5 := R.out.cell' 5 _ rfl; have r6 := R.out.cell' 6 _ rfl; have r7 := R.out.cell' 7 _ rfl; have r8 := R.out.cell' 8 _ rfl; have r9 := R.out.cell' 9 _ rfl; have r10 := R.out.cell' 10 _ rfl; replace q0 : Hid (Qw w w') := Lib.hid (Qw.trans Qz q); clear q)) | (go_at_call 52; ((with_reducible refine (RIGHTX.out _ (Ow.kept HO.out Qz) (KidsB.kept HX.out Qz)).mono ?_); rintro e w' ⟨rfl, q⟩; replace R : Hid (Bx w' w.heap.size #[.int .i64 1, .int .i64 label, .bool skip, .slice wa 0 wc, .int .i64 left.op, .int .i64 left.n, .slice la left.ks.length lc, .int .i64 x.op, .int .i64 x.n, .slice xa x.ks.length xc, .int .i64 0] 37) := Lib.hid (Bx.kept Rz q); have r0 := R.out.cell' 0 _ rfl; have r1 := R.out.cell' 1 _ rfl; have r2 := R.out.cell' 2 _ rfl; have r3 := R.out.cell' 3 _ rfl; have r4 := R.out.cell' 4 _ rfl; have r5 := R.out.cell' 5 _ rfl; have r6 := R.out.cell' 6 _ rfl; have r7 := R.out.cell' 7 _ rfl; have r8 := R.out.cell' 8 _ rfl; have r9 := R.out.cell' 9 _ rfl; have r10 := R.out.cell' 10 _ rfl; replace q0 : Hid (Qw w w') := Lib.hid (Qw.trans Qz q); clear q)))
          go_ret
          exact ⟨rfl, Qz⟩
        · have nb : (n == 0) = false := beq_eq_false_iff_ne.2 hn
          rw [decide_eq_false hn]
          clear hn
          have q0 : Hid (Qw w w) := Lib.hid (Qw.refl w)
          go_enter Tryd.func35, Tryd.ntmps35
          go_wp2_with (first | (go_at_call 49; ((with_reducible refine (CNTL.out _).mono ?_); rintro e w' ⟨rfl, rfl⟩)) | (go_at_call 52; ((with_reducible refine (RIGHTL.out _ (Ow.kept HO.out Qz) (KidsB.kept HL.out Qz)).mono ?_); rintro e w' ⟨rfl, q⟩; replace R : Hid (Bx w' w.heap.size #[.int .i64 1, .int .i64 label, .bool skip, .slice wa 0 wc, .int .i64 left.op, .int .i64 left.n, .slice la left.ks.length lc, .int .i64 x.op, .int .i64 x.n, .slice xa x.ks.length xc, .int .i64 n] 37) := Lib.hid (Bx.kept Rz q); have r0 := R.out.cell' 0 _ rfl; have r1 := R.out.cell' 1 _ rfl; have r2 := R.out.cell' 2 _ rfl; have r3 := R.out.cell' 3 _ rfl; have r4 := R.out.cell' 4 _ rfl; have r5 := R.out.cell' 5 _ rfl; have r6 := R.out.cell' 6 _ rfl; have r7 := R.out.cell' 7 _ rfl; have r8 := R.out.cell' 8 _ rfl; have r9 := R.out.cell' 9 _ rfl; have r10 := R.out.cell' 10 _ rfl; replace q0 : Hid (Qw w w') := Lib.hid (Qw.trans Qz q); clear q)) | (go_at_call 52; ((with_reducible refine (RIGHTX.out _ (Ow.kept HO.out Qz) (KidsB.kept HX.out Qz)).mono ?_); rintro e w' ⟨rfl, q⟩; replace R : Hid (Bx w' w.heap.size #[.int .i64 1, .int .i64 label, .bool skip, .slice wa 0 wc, .int .i64 left.op, .int .i64 left.n, .slice la left.ks.length lc, .int .i64 x.op, .int .i64 x.n, .slice xa x.ks.length xc, .int .i64 n] 37) := Lib.hid (Bx.kept Rz q); have r0 := R.out.cell' 0 _ rfl; have r1 := R.out.cell' 1 _ rfl; have r2 := R.out.cell' 2 _ rfl; have r3 := R.out.cell' 3 _ rfl; have r4 := R.out.cell' 4 _ rfl; have r5 := R.out.cell' 5 _ rfl; have r6 := R.out.cell' 6 _ rfl; have r7 := R.out.cell' 7 _ rfl; have r8 := R.out.cell' 8 _ rfl; have r9 := R.out.cell' 9 _ rfl; have r10 := R.out.cell' 10 _ rfl; replace q0 : Hid (Qw w w') := Lib.hid (Qw.trans Qz q); clear q)))
          go_ret
          exact ⟨rfl, Qz⟩
set_option maxRecDepth 100000 in
set_option maxHeartbeats 4000000 in
theorem sv_valid3 (label n : Int) (skip : Bool) (words : List (Int × Sy.Ex)) (left x : Sy.Ex) (wa la xa : Option Addr) (wc lc xc : Nat) (S : Nat → Prop) (w : World) (hO : Ow w) (hW : WordsB w S wa wc words) (hL : KidsB w S la lc left.ks) (hX : KidsB w S xa xc x.ks)
    (hl : label = 0 ∨ (label ≠ 0 ∧ Sy.cnt label 99999 = true)) (hw : words = []) :
    Calls Tryd.prog 35 #[.agg #[.int .i64 3, .int .i64 label, .bool skip, .slice wa words.length wc, .int .i64 left.op, .int .i64 left.n, .slice la left.ks.length lc, .int .i64 x.op, .int .i64 x.n, .slice xa x.ks.length xc, .int .i64 n]] w fun e w' => e = .returned (.bool (Sy.rgt left && Sy.rgt x && decide (n = 0))) ∧ Qw w w' := by
  have HO := Lib.hid hO
  have HW := Lib.hid hW
  have HL := Lib.hid hL
  have HX := Lib.hid hX
  have m1 := hW.1
  have m2 := hW.2.1
  obtain ⟨m3, m4⟩ := hL.cap
  obtain ⟨m5, m6⟩ := hX.cap
  have R : Hid (Bx (w.alloc (.cells #[.int .i64 3, .int .i64 label, .bool skip, .slice wa words.length wc, .int .i64 left.op, .int .i64 left.n, .slice la left.ks.length lc, .int .i64 x.op, .int .i64 x.n, .slice xa x.ks.length xc, .int .i64 n] 37)) w.heap.size #[.int .i64 3, .int .i64 label, .bool skip, .slice wa words.length wc, .int .i64 left.op, .int .i64 left.n, .slice la left.ks.length lc, .int .i64 x.op, .int .i64 x.n, .slice xa x.ks.length xc, .int .i64 n] 37) := Lib.hid (Bx.new w _ _)
  have rightL : ∀ w, Ow w → KidsB w S la lc left.ks → Calls Tryd.prog 52 #[.agg #[.int .i64 left.op, .int .i64 left.n, .slice la left.ks.length lc]] w fun e w' => e = .returned (.bool (Sy.rgt left)) ∧ Qw w w' := fun w h1 h2 => by
    have := sv_right left.op left.n left.ks la lc S w h1 h2; cases left; exact this
  have rightX : ∀ w, Ow w → KidsB w S xa xc x.ks → Calls Tryd.prog 52 #[.agg #[.int .i64 x.op, .int .i64 x.n, .slice xa x.ks.length xc]] w fun e w' => e = .returned (.bool (Sy.rgt x)) ∧ Qw w w' := fun w h1 h2 => by
    have := sv_right x.op x.n x.ks xa xc S w h1 h2; cases x; exact this
  have blankL : ∀ w, Calls Tryd.prog 51 #[.agg #[.int .i64 left.op, .int .i64 left.n, .slice la left.ks.length lc]] w fun e w' => e = .returned (.bool (Sy.noneB left)) ∧ Qw w w' := fun w => sv_blank left.op left.n left.ks.length la lc m3 m4 w
  have blankX : ∀ w, Calls Tryd.prog 51 #[.agg #[.int .i64 x.op, .int .i64 x.n, .slice xa x.ks.length xc]] w fun e w' => e = .returned (.bool (Sy.noneB x)) ∧ Qw w w' := fun w => sv_blank x.op x.n x.ks.length xa xc m5 m6 w
  have cntN : ∀ m : Nat, ∀ w, Calls Tryd.prog 49 #[.int .i64 n, .int .i64 (m : Int)] w fun e w' => e = .returned (.bool (Sy.cnt n m)) ∧ w = w' := fun m w => syCounts n m w
  have cntL : ∀ w, Calls Tryd.prog 49 #[.int .i64 label, .int .i64 99999] w fun e w' => e = .returned (.bool (Sy.cnt label 99999)) ∧ w = w' := fun w => syCounts label 99999 w
  have wordsW : ∀ w, Ow w → WordsB w S wa wc words → Calls Tryd.prog 50 #[.slice wa words.length wc] w fun e w' => e = .returned (.bool (decide (words.length ≤ 24) && wdsB words)) ∧ Qw w w' := fun w h1 h2 => sv_rightWords words wa wc S w h1 h2
  clear hO hW hL hX m1 m3 m5
  subst hw
  have R' : Hid (Bx (w.alloc (.cells #[.int .i64 3, .int .i64 label, .bool skip, .slice wa 0 wc, .int .i64 left.op, .int .i64 left.n, .slice la left.ks.length lc, .int .i64 x.op, .int .i64 x.n, .slice xa x.ks.length xc, .int .i64 n] 37)) w.heap.size #[.int .i64 3, .int .i64 label, .bool skip, .slice wa 0 wc, .int .i64 left.op, .int .i64 left.n, .slice la left.ks.length lc, .int .i64 x.op, .int .i64 x.n, .slice xa x.ks.length xc, .int .i64 n] 37) := R
  clear R
  have R := R'
  clear R'
  clear cntN
  clear blankL
  clear blankX
  clear wordsW
  rcases hl with hl | ⟨hl, hc⟩
  · subst hl
    clear cntL
    cases t0 : Sy.rgt left with
    | false =>
      rw [t0] at rightL
      have RIGHTL := Lib.hid rightL
      clear t0 rightL rightX
      have q0 : Hid (Qw w w) := Lib.hid (Qw.refl w)
      go_enter Tryd.func35, Tryd.ntmps35
      go_wp2_with (go_at_call 52; ((with_reducible refine (RIGHTL.out _ (Ow.kept HO.out Qz) (KidsB.kept HL.out Qz)).mono ?_); rintro e w' ⟨rfl, q⟩; replace R : Hid (Bx w' w.heap.size #[.int .i64 3, .int .i64 0, .bool skip, .slice wa 0 wc, .int .i64 left.op, .int .i64 left.n, .slice la left.ks.length lc, .int .i64 x.op, .int .i64 x.n, .slice xa x.ks.length xc, .int .i64 n] 37) := Lib.hid (Bx.kept Rz q); have r0 := R.out.cell' 0 _ rfl; have r1 := R.out.cell' 1 _ rfl; have r2 := R.out.cell' 2 _ rfl; have r3 := R.out.cell' 3 _ rfl; have r4 := R.out.cell' 4 _ rfl; have r5 := R.out.cell' 5 _ rfl; have r6 := R.out.cell' 6 _ rfl; have r7 := R.out.cell' 7 _ rfl; have r8 := R.out.cell' 8 _ rfl; have r9 := R.out.cell' 9 _ rfl; have r10 := R.out.cell' 10 _ rfl; replace q0 : Hid (Qw w w') := Lib.hid (Qw.trans Qz q); clear q))
      go_ret
      exact ⟨rfl, Qz⟩
    | true =>
      rw [t0] at rightL
      have RIGHTL := Lib.hid rightL
      clear t0 rightL
      cases t1 : Sy.rgt x with
      | false =>
        rw [t1] at rightX
        have RIGHTX := Lib.hid rightX
        clear t1 rightX
        have q0 : Hid (Qw w w) := Lib.hid (Qw.refl w)
        go_enter Tryd.func35, Tryd.ntmps35
        go_wp2_with (first | (go_at_call 52; ((with_reducible refine (RIGHTL.out _ (Ow.kept HO.out Qz) (KidsB.kept HL.out Qz)).mono ?_); rintro e w' ⟨rfl, q⟩; replace R : Hid (Bx w' w.heap.size #[.int .i64 3, .int .i64 0, .bool skip, .slice wa 0 wc, .int .i64 left.op, .int .i64 left.n, .slice la left.ks.length lc, .int .i64 x.op, .int .i64 x.n, .slice xa x.ks.length xc, .int .i64 n] 37) := Lib.hid (Bx.kept Rz q); have r0 := R.out.cell' 0 _ rfl; have r1 := R.out.cell' 1 _ rfl; have r2 := R.out.cell' 2 _ rfl; have r3 := R.out.cell' 3 _ rfl; have r4 := R.out.cell' 4 _ rfl; have r5 := R.out.cell' 5 _ rfl; have r6 := R.out.cell' 6 _ rfl; have r7 := R.out.cell' 7 _ rfl; have r8 := R.out.cell' 8 _ rfl; have r9 := R.out.cell' 9 _ rfl; have r10 := R.out.cell' 10 _ rfl; replace q0 : Hid (Qw w w') := Lib.hid (Qw.trans Qz q); clear q)) | (go_at_call 52; ((with_reducible refine (RIGHTX.out _ (Ow.kept HO.out Qz) (KidsB.kept HX.out Qz)).mono ?_); rintro e w' ⟨rfl, q⟩; replace R : Hid (Bx w' w.heap.size #[.int .i64 3, .int .i64 0, .bool skip, .slice wa 0 wc, .int .i64 left.op, .int .i64 left.n, .slice la left.ks.length lc, .int .i64 x.op, .int .i64 x.n, .slice xa x.ks.length xc, .int .i64 n] 37) := Lib.hid (Bx.kept Rz q); have r0 := R.out.cell' 0 _ rfl; have r1 := R.out.cell' 1 _ rfl; have r2 := R.out.cell' 2 _ rfl; have r3 := R.out.cell' 3 _ rfl; have r4 := R.out.cell' 4 _ rfl; have r5 := R.out.cell' 5 _ rfl; have r6 := R.out.cell' 6 _ rfl; have r7 := R.out.cell' 7 _ rfl; have r8 := R.out.cell' 8 _ rfl; have r9 := R.out.cell' 9 _ rfl; have r10 := R.out.cell' 10 _ rfl; replace q0 : Hid (Qw w w') := Lib.hid (Qw.trans Qz q); clear q)))
        go_ret
        exact ⟨rfl, Qz⟩
      | true =>
        rw [t1] at rightX
        have RIGHTX := Lib.hid rightX
        clear t1 rightX
        by_cases hn : n = 0
        · subst hn
          have q0 : Hid (Qw w w) := Lib.hid (Qw.refl w)
          go_enter Tryd.func35, Tryd.ntmps35
          go_wp2_with (first | (go_at_call 52; ((with_reducible refine (RIGHTL.out _ (Ow.kept HO.out Qz) (KidsB.kept HL.out Qz)).mono ?_); rintro e w' ⟨rfl, q⟩; replace R : Hid (Bx w' w.heap.size #[.int .i64 3, .int .i64 0, .bool skip, .slice wa 0 wc, .int .i64 left.op, .int .i64 left.n, .slice la left.ks.length lc, .int .i64 x.op, .int .i64 x.n, .slice xa x.ks.length xc, .int .i64 0] 37) := Lib.hid (Bx.kept Rz q); have r0 := R.out.cell' 0 _ rfl; have r1 := R.out.cell' 1 _ rfl; have r2 := R.out.cell' 2 _ rfl; have r3 := R.out.cell' 3 _ rfl; have r4 := R.out.cell' 4 _ rfl; have r5 := R.out.cell' 5 _ rfl; have r6 := R.out.cell' 6 _ rfl; have r7 := R.out.cell' 7 _ rfl; have r8 := R.out.cell' 8 _ rfl; have r9 := R.out.cell' 9 _ rfl; have r10 := R.out.cell' 10 _ rfl; replace q0 : Hid (Qw w w') := Lib.hid (Qw.trans Qz q); clear q)) | (go_at_call 52; ((with_reducible refine (RIGHTX.out _ (Ow.kept HO.out Qz) (KidsB.kept HX.out Qz)).mono ?_); rintro e w' ⟨rfl, q⟩; replace R : Hid (Bx w' w.heap.size #[.int .i64 3, .int .i64 0, .bool skip, .slice wa 0 wc, .int .i64 left.op, .int .i64 left.n, .slice la left.ks.length lc, .int .i64 x.op, .int .i64 x.n, .slice xa x.ks.length xc, .int .i64 0] 37) := Lib.hid (Bx.kept Rz q); have r0 := R.out.cell' 0 _ rfl; have r1 := R.out.cell' 1 _ rfl; have r2 := R.out.cell' 2 _ rfl; have r3 := R.out.cell' 3 _ rfl; have r4 := R.out.cell' 4 _ rfl; have r5 := R.out.cell' 5 _ rfl; have r6 := R.out.cell' 6 _ rfl; have r7 := R.out.cell' 7 _ rfl; have r8 := R.out.cell' 8 _ rfl; have r9 := R.out.cell' 9 _ rfl; have r10 := R.out.cell' 10 _ rfl; replace q0 : Hid (Qw w w') := Lib.hid (Qw.trans Qz q); clear q)))
          go_ret
          exact ⟨rfl, Qz⟩
        · have nb : (n == 0) = false := beq_eq_false_iff_ne.2 hn
          rw [decide_eq_false hn]
          clear hn
          have q0 : Hid (Qw w w) := Lib.hid (Qw.refl w)
          go_enter Tryd.func35, Tryd.ntmps35
          go_wp2_with (first | (go_at_call 52; ((with_reducible refine (RIGHTL.out _ (Ow.kept HO.out Qz) (KidsB.kept HL.out Qz)).mono ?_); rintro e w' ⟨rfl, q⟩; replace R : Hid (Bx w' w.heap.size #[.int .i64 3, .int .i64 0, .bool skip, .slice wa 0 wc, .int .i64 left.op, .int .i64 left.n, .slice la left.ks.length lc, .int .i64 x.op, .int .i64 x.n, .slice xa x.ks.length xc, .int .i64 n] 37) := Lib.hid (Bx.kept Rz q); have r0 := R.out.cell' 0 _ rfl; have r1 := R.out.cell' 1 _ rfl; have r2 := R.out.cell' 2 _ rfl; have r3 := R.out.cell' 3 _ rfl; have r4 := R.out.cell' 4 _ rfl; have r5 := R.out.cell' 5 _ rfl; have r6 := R.out.cell' 6 _ rfl; have r7 := R.out.cell' 7 _ rfl; have r8 := R.out.cell' 8 _ rfl; have r9 := R.out.cell' 9 _ rfl; have r10 := R.out.cell' 10 _ rfl; replace q0 : Hid (Qw w w') := Lib.hid (Qw.trans Qz q); clear q)) | (go_at_call 52; ((with_reducible refine (RIGHTX.out _ (Ow.kept HO.out Qz) (KidsB.kept HX.out Qz)).mono ?_); rintro e w' ⟨rfl, q⟩; replace R : Hid (Bx w' w.heap.size #[.int .i64 3, .int .i64 0, .bool skip, .slice wa 0 wc, .int .i64 left.op, .int .i64 left.n, .slice la left.ks.length lc, .int .i64 x.op, .int .i64 x.n, .slice xa x.ks.length xc, .int .i64 n] 37) := Lib.hid (Bx.kept Rz q); have r0 := R.out.cell' 0 _ rfl; have r1 := R.out.cell' 1 _ rfl; have r2 := R.out.cell' 2 _ rfl; have r3 := R.out.cell' 3 _ rfl; have r4 := R.out.cell' 4 _ rfl; have r5 := R.out.cell' 5 _ rfl; have r6 := R.out.cell' 6 _ rfl; have r7 := R.out.cell' 7 _ rfl; have r8 := R.out.cell' 8 _ rfl; have r9 := R.out.cell' 9 _ rfl; have r10 := R.out.cell' 10 _ rfl; replace q0 : Hid (Qw w w') := Lib.hid (Qw.trans Qz q); clear q)))
          go_ret
          exact ⟨rfl, Qz⟩
  · rw [hc] at cntL
    have lb : (label != 0) = true := by simpa using hl
    have CNTL := Lib.hid cntL
    clear cntL hl hc
    cases t0 : Sy.rgt left with
    | false =>
      rw [t0] at rightL
      have RIGHTL := Lib.hid rightL
      clear t0 rightL rightX
      have q0 : Hid (Qw w w) := Lib.hid (Qw.refl w)
      go_enter Tryd.func35, Tryd.ntmps35
      go_wp2_with (first | (go_at_call 49; ((with_reducible refine (CNTL.out _).mono ?_); rintro e w' ⟨rfl, rfl⟩)) | (go_at_call 52; ((with_reducible refine (RIGHTL.out _ (Ow.kept HO.out Qz) (KidsB.kept HL.out Qz)).mono ?_); rintro e w' ⟨rfl, q⟩; replace R : Hid (Bx w' w.heap.size #[.int .i64 3, .int .i64 label, .bool skip, .slice wa 0 wc, .int .i64 left.op, .int .i64 left.n, .slice la left.ks.length lc, .int .i64 x.op, .int .i64 x.n, .slice xa x.ks.length xc, .int .i64 n] 37) := Lib.hid (Bx.kept Rz q); have r0 := R.out.cell' 0 _ rfl; have r1 := R.out.cell' 1 _ rfl; have r2 := R.out.cell' 2 _ rfl; have r3 := R.out.cell' 3 _ rfl; have r4 := R.out.cell' 4 _ rfl; have r5 := R.out.cell' 5 _ rfl; have r6 := R.out.cell' 6 _ rfl; have r7 := R.out.cell' 7 _ rfl; have r8 := R.out.cell' 8 _ rfl; have r9 := R.out.cell' 9 _ rfl; have r10 := R.out.cell' 10 _ rfl; replace q0 : Hid (Qw w w') := Lib.hid (Qw.trans Qz q); clear q)))
      go_ret
      exact ⟨rfl, Qz⟩
    | true =>
      rw [t0] at rightL
      have RIGHTL := Lib.hid rightL
      clear t0 rightL
      cases t1 : Sy.rgt x with
      | false =>
        rw [t1] at rightX
        have RIGHTX := Lib.hid rightX
        clear t1 rightX
        have q0 : Hid (Qw w w) := Lib.hid (Qw.refl w)
        go_enter Tryd.func35, Tryd.ntmps35
        go_wp2_with (first | (go_at_call 49; ((with_reducible refine (CNTL.out _).mono ?_); rintro e w' ⟨rfl, rfl⟩)) | (go_at_call 52; ((with_reducible refine (RIGHTL.out _ (Ow.kept HO.out Qz) (KidsB.kept HL.out Qz)).mono ?_); rintro e w' ⟨rfl, q⟩; replace R : Hid (Bx w' w.heap.size #[.int .i64 3, .int .i64 label, .bool skip, .slice wa 0 wc, .int .i64 left.op, .int .i64 left.n, .slice la left.ks.length lc, .int .i64 x.op, .int .i64 x.n, .slice xa x.ks.length xc, .int .i64 n] 37) := Lib.hid (Bx.kept Rz q); have r0 := R.out.cell' 0 _ rfl; have r1 := R.out.cell' 1 _ rfl; have r2 := R.out.cell' 2 _ rfl; have r3 := R.out.cell' 3 _ rfl; have r4 := R.out.cell' 4 _ rfl; have r5 := R.out.cell' 5 _ rfl; have r6 := R.out.cell' 6 _ rfl; have r7 := R.out.cell' 7 _ rfl; have r8 := R.out.cell' 8 _ rfl; have r9 := R.out.cell' 9 _ rfl; have r10 := R.out.cell' 10 _ rfl; replace q0 : Hid (Qw w w') := Lib.hid (Qw.trans Qz q); clear q)) | (go_at_call 52; ((with_reducible refine (RIGHTX.out _ (Ow.kept HO.out Qz) (KidsB.kept HX.out Qz)).mono ?_); rintro e w' ⟨rfl, q⟩; replace R : Hid (Bx w' w.heap.size #[.int .i64 3, .int .i64 label, .bool skip, .slice wa 0 wc, .int .i64 left.op, .int .i64 left.n, .slice la left.ks.length lc, .int .i64 x.op, .int .i64 x.n, .slice xa x.ks.length xc, .int .i64 n] 37) := Lib.hid (Bx.kept Rz q); have r0 := R.out.cell' 0 _ rfl; have r1 := R.out.cell' 1 _ rfl; have r2 := R.out.cell' 2 _ rfl; have r3 := R.out.cell' 3 _ rfl; have r4 := R.out.cell' 4 _ rfl; have r5 := R.out.cell' 5 _ rfl; have r6 := R.out.cell' 6 _ rfl; have r7 := R.out.cell' 7 _ rfl; have r8 := R.out.cell' 8 _ rfl; have r9 := R.out.cell' 9 _ rfl; have r10 := R.out.cell' 10 _ rfl; replace q0 : Hid (Qw w w') := Lib.hid (Qw.trans Qz q); clear q)))
        go_ret
        exact ⟨rfl, Qz⟩
      | true =>
        rw [t1] at rightX
        have RIGHTX := Lib.hid rightX
        clear t1 rightX
        by_cases hn : n = 0
        · subst hn
          have q0 : Hid (Qw w w) := Lib.hid (Qw.refl w)
          go_enter Tryd.func35, Tryd.ntmps35
          go_wp2_with (first | (go_at_call 49; ((with_reducible refine (CNTL.out _).mono ?_); rintro e w' ⟨rfl, rfl⟩)) | (go_at_call 52; ((with_reducible refine (RIGHTL.out _ (Ow.kept HO.out Qz) (KidsB.kept HL.out Qz)).mono ?_); rintro e w' ⟨rfl, q⟩; replace R : Hid (Bx w' w.heap.size #[.int .i64 3, .int .i64 label, .bool skip, .slice wa 0 wc, .int .i64 left.op, .int .i64 left.n, .slice la left.ks.length lc, .int .i64 x.op, .int .i64 x.n, .slice xa x.ks.length xc, .int .i64 0] 37) := Lib.hid (Bx.kept Rz q); have r0 := R.out.cell' 0 _ rfl; have r1 := R.out.cell' 1 _ rfl; have r2 := R.out.cell' 2 _ rfl; have r3 := R.out.cell' 3 _ rfl; have r4 := R.out.cell' 4 _ rfl; have r5 := R.out.cell' 5 _ rfl; have r6 := R.out.cell' 6 _ rfl; have r7 := R.out.cell' 7 _ rfl; have r8 := R.out.cell' 8 _ rfl; have r9 := R.out.cell' 9 _ rfl; have r10 := R.out.cell' 10 _ rfl; replace q0 : Hid (Qw w w') := Lib.hid (Qw.trans Qz q); clear q)) | (go_at_call 52; ((with_reducible refine (RIGHTX.out _ (Ow.kept HO.out Qz) (KidsB.kept HX.out Qz)).mono ?_); rintro e w' ⟨rfl, q⟩; replace R : Hid (Bx w' w.heap.size #[.int .i64 3, .int .i64 label, .bool skip, .slice wa 0 wc, .int .i64 left.op, .int .i64 left.n, .slice la left.ks.length lc, .int .i64 x.op, .int .i64 x.n, .slice xa x.ks.length xc, .int .i64 0] 37) := Lib.hid (Bx.kept Rz q); have r0 := R.out.cell' 0 _ rfl; have r1 := R.out.cell' 1 _ rfl; have r2 := R.out.cell' 2 _ rfl; have r3 := R.out.cell' 3 _ rfl; have r4 := R.out.cell' 4 _ rfl; have r5 := R.out.cell' 5 _ rfl; have r6 := R.out.cell' 6 _ rfl; have r7 := R.out.cell' 7 _ rfl; have r8 := R.out.cell' 8 _ rfl; have r9 := R.out.cell' 9 _ rfl; have r10 := R.out.cell' 10 _ rfl; replace q0 : Hid (Qw w w') := Lib.hid (Qw.trans Qz q); clear q)))
          go_ret
          exact ⟨rfl, Qz⟩
        · have nb : (n == 0) = false := beq_eq_false_iff_ne.2 hn
          rw [decide_eq_false hn]
          clear hn
          have q0 : Hid (Qw w w) := Lib.hid (Qw.refl w)
          go_enter Tryd.func35, Tryd.ntmps35
          go_wp2_with (first | (go_at_call 49; ((with_reducible refine (CNTL.out _).mono ?_); rintro e w' ⟨rfl, rfl⟩)) | (go_at_call 52; ((with_reducible refine (RIGHTL.out _ (Ow.kept HO.out Qz) (KidsB.kept HL.out Qz)).mono ?_); rintro e w' ⟨rfl, q⟩; replace R : Hid (Bx w' w.heap.size #[.int .i64 3, .int .i64 label, .bool skip, .slice wa 0 wc, .int .i64 left.op, .int .i64 left.n, .slice la left.ks.length lc, .int .i64 x.op, .int .i64 x.n, .slice xa x.ks.length xc, .int .i64 n] 37) := Lib.hid (Bx.kept Rz q); have r0 := R.out.cell' 0 _ rfl; have r1 := R.out.cell' 1 _ rfl; have r2 := R.out.cell' 2 _ rfl; have r3 := R.out.cell' 3 _ rfl; have r4 := R.out.cell' 4 _ rfl; have r5 := R.out.cell' 5 _ rfl; have r6 := R.out.cell' 6 _ rfl; have r7 := R.out.cell' 7 _ rfl; have r8 := R.out.cell' 8 _ rfl; have r9 := R.out.cell' 9 _ rfl; have r10 := R.out.cell' 10 _ rfl; replace q0 : Hid (Qw w w') := Lib.hid (Qw.trans Qz q); clear q)) | (go_at_call 52; ((with_reducible refine (RIGHTX.out _ (Ow.kept HO.out Qz) (KidsB.kept HX.out Qz)).mono ?_); rintro e w' ⟨rfl, q⟩; replace R : Hid (Bx w' w.heap.size #[.int .i64 3, .int .i64 label, .bool skip, .slice wa 0 wc, .int .i64 left.op, .int .i64 left.n, .slice la left.ks.length lc, .int .i64 x.op, .int .i64 x.n, .slice xa x.ks.length xc, .int .i64 n] 37) := Lib.hid (Bx.kept Rz q); have r0 := R.out.cell' 0 _ rfl; have r1 := R.out.cell' 1 _ rfl; have r2 := R.out.cell' 2 _ rfl; have r3 := R.out.cell' 3 _ rfl; have r4 := R.out.cell' 4 _ rfl; have r5 := R.out.cell' 5 _ rfl; have r6 := R.out.cell' 6 _ rfl; have r7 := R.out.cell' 7 _ rfl; have r8 := R.out.cell' 8 _ rfl; have r9 := R.out.cell' 9 _ rfl; have r10 := R.out.cell' 10 _ rfl; replace q0 : Hid (Qw w w') := Lib.hid (Qw.trans Qz q); clear q)))
          go_ret
          exact ⟨rfl, Qz⟩
set_option maxRecDepth 100000 in
set_option maxHeartbeats 4000000 in
theorem sv_valid2 (label n : Int) (skip : Bool) (words : List (Int × Sy.Ex)) (left x : Sy.Ex) (wa la xa : Option Addr) (wc lc xc : Nat) (S : Nat → Prop) (w : World) (hO : Ow w) (hW : WordsB w S wa wc words) (hL : KidsB w S la lc left.ks) (hX : KidsB w S xa xc x.ks)
    (hl : label = 0 ∨ (label ≠ 0 ∧ Sy.cnt label 99999 = true)) (hw : words = []) :
    Calls Tryd.prog 35 #[.agg #[.int .i64 2, .int .i64 label, .bool skip, .slice wa words.length wc, .int .i64 left.op, .int .i64 left.n, .slice la left.ks.length lc, .int .i64 x.op, .int .i64 x.n, .slice xa x.ks.length xc, .int .i64 n]] w fun e w' => e = .returned (.bool (Sy.noneB left && Sy.rgt x && decide (n = 0))) ∧ Qw w w' := by
  have HO := Lib.hid hO
  have HW := Lib.hid hW
  have HL := Lib.hid hL
  have HX := Lib.hid hX
  have m1 := hW.1
  have m2 := hW.2.1
  obtain ⟨m3, m4⟩ := hL.cap
  obtain ⟨m5, m6⟩ := hX.cap
  have R : Hid (Bx (w.alloc (.cells #[.int .i64 2, .int .i64 label, .bool skip, .slice wa words.length wc, .int .i64 left.op, .int .i64 left.n, .slice la left.ks.length lc, .int .i64 x.op, .int .i64 x.n, .slice xa x.ks.length xc, .int .i64 n] 37)) w.heap.size #[.int .i64 2, .int .i64 label, .bool skip, .slice wa words.length wc, .int .i64 left.op, .int .i64 left.n, .slice la left.ks.length lc, .int .i64 x.op, .int .i64 x.n, .slice xa x.ks.length xc, .int .i64 n] 37) := Lib.hid (Bx.new w _ _)
  have rightL : ∀ w, Ow w → KidsB w S la lc left.ks → Calls Tryd.prog 52 #[.agg #[.int .i64 left.op, .int .i64 left.n, .slice la left.ks.length lc]] w fun e w' => e = .returned (.bool (Sy.rgt left)) ∧ Qw w w' := fun w h1 h2 => by
    have := sv_right left.op left.n left.ks la lc S w h1 h2; cases left; exact this
  have rightX : ∀ w, Ow w → KidsB w S xa xc x.ks → Calls Tryd.prog 52 #[.agg #[.int .i64 x.op, .int .i64 x.n, .slice xa x.ks.length xc]] w fun e w' => e = .returned (.bool (Sy.rgt x)) ∧ Qw w w' := fun w h1 h2 => by
    have := sv_right x.op x.n x.ks xa xc S w h1 h2; cases x; exact this
  have blankL : ∀ w, Calls Tryd.prog 51 #[.agg #[.int .i64 left.op, .int .i64 left.n, .slice la left.ks.length lc]] w fun e w' => e = .returned (.bool (Sy.noneB left)) ∧ Qw w w' := fun w => sv_blank left.op left.n left.ks.length la lc m3 m4 w
  have blankX : ∀ w, Calls Tryd.prog 51 #[.agg #[.int .i64 x.op, .int .i64 x.n, .slice xa x.ks.length xc]] w fun e w' => e = .returned (.bool (Sy.noneB x)) ∧ Qw w w' := fun w => sv_blank x.op x.n x.ks.length xa xc m5 m6 w
  have cntN : ∀ m : Nat, ∀ w, Calls Tryd.prog 49 #[.int .i64 n, .int .i64 (m : Int)] w fun e w' => e = .returned (.bool (Sy.cnt n m)) ∧ w = w' := fun m w => syCounts n m w
  have cntL : ∀ w, Calls Tryd.prog 49 #[.int .i64 label, .int .i64 99999] w fun e w' => e = .returned (.bool (Sy.cnt label 99999)) ∧ w = w' := fun w => syCounts label 99999 w
  have wordsW : ∀ w, Ow w → WordsB w S wa wc words → Calls Tryd.prog 50 #[.slice wa words.length wc] w fun e w' => e = .returned (.bool (decide (words.length ≤ 24) && wdsB words)) ∧ Qw w w' := fun w h1 h2 => sv_rightWords words wa wc S w h1 h2
  clear hO hW hL hX m1 m3 m5
  subst hw
  have R' : Hid (Bx (w.alloc (.cells #[.int .i64 2, .int .i64 label, .bool skip, .slice wa 0 wc, .int .i64 left.op, .int .i64 left.n, .slice la left.ks.length lc, .int .i64 x.op, .int .i64 x.n, .slice xa x.ks.length xc, .int .i64 n] 37)) w.heap.size #[.int .i64 2, .int .i64 label, .bool skip, .slice wa 0 wc, .int .i64 left.op, .int .i64 left.n, .slice la left.ks.length lc, .int .i64 x.op, .int .i64 x.n, .slice xa x.ks.length xc, .int .i64 n] 37) := R
  clear R
  have R := R'
  clear R'
  clear cntN
  clear rightL
  clear blankX
  clear wordsW
  rcases hl with hl | ⟨hl, hc⟩
  · subst hl
    clear cntL
    cases t0 : Sy.noneB left with
    | false =>
      rw [t0] at blankL
      have BLANKL := Lib.hid blankL
      clear t0 blankL rightX
      have q0 : Hid (Qw w w) := Lib.hid (Qw.refl w)
      go_enter Tryd.func35, Tryd.ntmps35
      go_wp2_with (go_at_call 51; ((with_reducible refine (BLANKL.out _).mono ?_); rintro e w' ⟨rfl, q⟩; replace R : Hid (Bx w' w.heap.size #[.int .i64 2, .int .i64 0, .bool skip, .slice wa 0 wc, .int .i64 left.op, .int .i64 left.n, .slice la left.ks.length lc, .int .i64 x.op, .int .i64 x.n, .slice xa x.ks.length xc, .int .i64 n] 37) := Lib.hid (Bx.kept Rz q); have r0 := R.out.cell' 0 _ rfl; have r1 := R.out.cell' 1 _ rfl; have r2 := R.out.cell' 2 _ rfl; have r3 := R.out.cell' 3 _ rfl; have r4 := R.out.cell' 4 _ rfl; have r5 := R.out.cell' 5 _ rfl; have r6 := R.out.cell' 6 _ rfl; have r7 := R.out.cell' 7 _ rfl; have r8 := R.out.cell' 8 _ rfl; have r9 := R.out.cell' 9 _ rfl; have r10 := R.out.cell' 10 _ rfl; replace q0 : Hid (Qw w w') := Lib.hid (Qw.trans Qz q); clear q))
      go_ret
      exact ⟨rfl, Qz⟩
    | true =>
      rw [t0] at blankL
      have BLANKL := Lib.hid blankL
      clear t0 blankL
      cases t1 : Sy.rgt x with
      | false =>
        rw [t1] at rightX
        have RIGHTX := Lib.hid rightX
        clear t1 rightX
        have q0 : Hid (Qw w w) := Lib.hid (Qw.refl w)
        go_enter Tryd.func35, Tryd.ntmps35
        go_wp2_with (first | (go_at_call 51; ((with_reducible refine (BLANKL.out _).mono ?_); rintro e w' ⟨rfl, q⟩; replace R : Hid (Bx w' w.heap.size #[.int .i64 2, .int .i64 0, .bool skip, .slice wa 0 wc, .int .i64 left.op, .int .i64 left.n, .slice la left.ks.length lc, .int .i64 x.op, .int .i64 x.n, .slice xa x.ks.length xc, .int .i64 n] 37) := Lib.hid (Bx.kept Rz q); have r0 := R.out.cell' 0 _ rfl; have r1 := R.out.cell' 1 _ rfl; have r2 := R.out.cell' 2 _ rfl; have r3 := R.out.cell' 3 _ rfl; have r4 := R.out.cell' 4 _ rfl; have r5 := R.out.cell' 5 _ rfl; have r6 := R.out.cell' 6 _ rfl; have r7 := R.out.cell' 7 _ rfl; have r8 := R.out.cell' 8 _ rfl; have r9 := R.out.cell' 9 _ rfl; have r10 := R.out.cell' 10 _ rfl; replace q0 : Hid (Qw w w') := Lib.hid (Qw.trans Qz q); clear q)) | (go_at_call 52; ((with_reducible refine (RIGHTX.out _ (Ow.kept HO.out Qz) (KidsB.kept HX.out Qz)).mono ?_); rintro e w' ⟨rfl, q⟩; replace R : Hid (Bx w' w.heap.size #[.int .i64 2, .int .i64 0, .bool skip, .slice wa 0 wc, .int .i64 left.op, .int .i64 left.n, .slice la left.ks.length lc, .int .i64 x.op, .int .i64 x.n, .slice xa x.ks.length xc, .int .i64 n] 37) := Lib.hid (Bx.kept Rz q); have r0 := R.out.cell' 0 _ rfl; have r1 := R.out.cell' 1 _ rfl; have r2 := R.out.cell' 2 _ rfl; have r3 := R.out.cell' 3 _ rfl; have r4 := R.out.cell' 4 _ rfl; have r5 := R.out.cell' 5 _ rfl; have r6 := R.out.cell' 6 _ rfl; have r7 := R.out.cell' 7 _ rfl; have r8 := R.out.cell' 8 _ rfl; have r9 := R.out.cell' 9 _ rfl; have r10 := R.out.cell' 10 _ rfl; replace q0 : Hid (Qw w w') := Lib.hid (Qw.trans Qz q); clear q)))
        go_ret
        exact ⟨rfl, Qz⟩
      | true =>
        rw [t1] at rightX
        have RIGHTX := Lib.hid rightX
        clear t1 rightX
        by_cases hn : n = 0
        · subst hn
          have q0 : Hid (Qw w w) := Lib.hid (Qw.refl w)
          go_enter Tryd.func35, Tryd.ntmps35
          go_wp2_with (first | (go_at_call 51; ((with_reducible refine (BLANKL.out _).mono ?_); rintro e w' ⟨rfl, q⟩; replace R : Hid (Bx w' w.heap.size #[.int .i64 2, .int .i64 0, .bool skip, .slice wa 0 wc, .int .i64 left.op, .int .i64 left.n, .slice la left.ks.length lc, .int .i64 x.op, .int .i64 x.n, .slice xa x.ks.length xc, .int .i64 0] 37) := Lib.hid (Bx.kept Rz q); have r0 := R.out.cell' 0 _ rfl; have r1 := R.out.cell' 1 _ rfl; have r2 := R.out.cell' 2 _ rfl; have r3 := R.out.cell' 3 _ rfl; have r4 := R.out.cell' 4 _ rfl; have r5 := R.out.cell' 5 _ rfl; have r6 := R.out.cell' 6 _ rfl; have r7 := R.out.cell' 7 _ rfl; have r8 := R.out.cell' 8 _ rfl; have r9 := R.out.cell' 9 _ rfl; have r10 := R.out.cell' 10 _ rfl; replace q0 : Hid (Qw w w') := Lib.hid (Qw.trans Qz q); clear q)) | (go_at_call 52; ((with_reducible refine (RIGHTX.out _ (Ow.kept HO.out Qz) (KidsB.kept HX.out Qz)).mono ?_); rintro e w' ⟨rfl, q⟩; replace R : Hid (Bx w' w.heap.size #[.int .i64 2, .int .i64 0, .bool skip, .slice wa 0 wc, .int .i64 left.op, .int .i64 left.n, .slice la left.ks.length lc, .int .i64 x.op, .int .i64 x.n, .slice xa x.ks.length xc, .int .i64 0] 37) := Lib.hid (Bx.kept Rz q); have r0 := R.out.cell' 0 _ rfl; have r1 := R.out.cell' 1 _ rfl; have r2 := R.out.cell' 2 _ rfl; have r3 := R.out.cell' 3 _ rfl; have r4 := R.out.cell' 4 _ rfl; have r5 := R.out.cell' 5 _ rfl; have r6 := R.out.cell' 6 _ rfl; have r7 := R.out.cell' 7 _ rfl; have r8 := R.out.cell' 8 _ rfl; have r9 := R.out.cell' 9 _ rfl; have r10 := R.out.cell' 10 _ rfl; replace q0 : Hid (Qw w w') := Lib.hid (Qw.trans Qz q); clear q)))
          go_ret
          exact ⟨rfl, Qz⟩
        · have nb : (n == 0) = false := beq_eq_false_iff_ne.2 hn
          rw [decide_eq_false hn]
          clear hn
          have q0 : Hid (Qw w w) := Lib.hid (Qw.refl w)
          go_enter Tryd.func35, Tryd.ntmps35
          go_wp2_with (first | (go_at_call 51; ((with_reducible refine (BLANKL.out _).mono ?_); rintro e w' ⟨rfl, q⟩; replace R : Hid (Bx w' w.heap.size #[.int .i64 2, .int .i64 0, .bool skip, .slice wa 0 wc, .int .i64 left.op, .int .i64 left.n, .slice la left.ks.length lc, .int .i64 x.op, .int .i64 x.n, .slice xa x.ks.length xc, .int .i64 n] 37) := Lib.hid (Bx.kept Rz q); have r0 := R.out.cell' 0 _ rfl; have r1 := R.out.cell' 1 _ rfl; have r2 := R.out.cell' 2 _ rfl; have r3 := R.out.cell' 3 _ rfl; have r4 := R.out.cell' 4 _ rfl; have r5 := R.out.cell' 5 _ rfl; have r6 := R.out.cell' 6 _ rfl; have r7 := R.out.cell' 7 _ rfl; have r8 := R.out.cell' 8 _ rfl; have r9 := R.out.cell' 9 _ rfl; have r10 := R.out.cell' 10 _ rfl; replace q0 : Hid (Qw w w') := Lib.hid (Qw.trans Qz q); clear q)) | (go_at_call 52; ((with_reducible refine (RIGHTX.out _ (Ow.kept HO.out Qz) (KidsB.kept HX.out Qz)).mono ?_); rintro e w' ⟨rfl, q⟩; replace R : Hid (Bx w' w.heap.size #[.int .i64 2, .int .i64 0, .bool skip, .slice wa 0 wc, .int .i64 left.op, .int .i64 left.n, .slice la left.ks.length lc, .int .i64 x.op, .int .i64 x.n, .slice xa x.ks.length xc, .int .i64 n] 37) := Lib.hid (Bx.kept Rz q); have r0 := R.out.cell' 0 _ rfl; have r1 := R.out.cell' 1 _ rfl; have r2 := R.out.cell' 2 _ rfl; have r3 := R.out.cell' 3 _ rfl; have r4 := R.out.cell' 4 _ rfl; have r5 := R.out.cell' 5 _ rfl; have r6 := R.out.cell' 6 _ rfl; have r7 := R.out.cell' 7 _ rfl; have r8 := R.out.cell' 8 _ rfl; have r9 := R.out.cell' 9 _ rfl; have r10 := R.out.cell' 10 _ rfl; replace q0 : Hid (Qw w w') := Lib.hid (Qw.trans Qz q); clear q)))
          go_ret
          exact ⟨rfl, Qz⟩
  · rw [hc] at cntL
    have lb : (label != 0) = true := by simpa using hl
    have CNTL := Lib.hid cntL
    clear cntL hl hc
    cases t0 : Sy.noneB left with
    | false =>
      rw [t0] at blankL
      have BLANKL := Lib.hid blankL
      clear t0 blankL rightX
      have q0 : Hid (Qw w w) := Lib.hid (Qw.refl w)
      go_enter Tryd.func35, Tryd.ntmps35
      go_wp2_with (first | (go_at_call 49; ((with_reducible refine (CNTL.out _).mono ?_); rintro e w' ⟨rfl, rfl⟩)) | (go_at_call 51; ((with_reducible refine (BLANKL.out _).mono ?_); rintro e w' ⟨rfl, q⟩; replace R : Hid (Bx w' w.heap.size #[.int .i64 2, .int .i64 label, .bool skip, .slice wa 0 wc, .int .i64 left.op, .int .i64 left.n, .slice la left.ks.length lc, .int .i64 x.op, .int .i64 x.n, .slice xa x.ks.length xc, .int .i64 n] 37) := Lib.hid (Bx.kept Rz q); have r0 := R.out.cell' 0 _ rfl; have r1 := R.out.cell' 1 _ rfl; have r2 := R.out.cell' 2 _ rfl; have r3 := R.out.cell' 3 _ rfl; have r4 := R.out.cell' 4 _ rfl; have r5 := R.out.cell' 5 _ rfl; have r6 := R.out.cell' 6 _ rfl; have r7 := R.out.cell' 7 _ rfl; have r8 := R.out.cell' 8 _ rfl; have r9 := R.out.cell' 9 _ rfl; have r10 := R.out.cell' 10 _ rfl; replace q0 : Hid (Qw w w') := Lib.hid (Qw.trans Qz q); clear q)))
      go_ret
      exact ⟨rfl, Qz⟩
    | true =>
      rw [t0] at blankL
      have BLANKL := Lib.hid blankL
      clear t0 blankL
      cases t1 : Sy.rgt x with
      | false =>
        rw [t1] at rightX
        have RIGHTX := Lib.hid rightX
        clear t1 rightX
        have q0 : Hid (Qw w w) := Lib.hid (Qw.refl w)
        go_enter Tryd.func35, Tryd.ntmps35
        go_wp2_with (first | (go_at_call 49; ((with_reducible refine (CNTL.out _).mono ?_); rintro e w' ⟨rfl, rfl⟩)) | (go_at_call 51; ((with_reducible refine (BLANKL.out _).mono ?_); rintro e w' ⟨rfl, q⟩; replace R : Hid (Bx w' w.heap.size #[.int .i64 2, .int .i64 label, .bool skip, .slice wa 0 wc, .int .i64 left.op, .int .i64 left.n, .slice la left.ks.length lc, .int .i64 x.op, .int .i64 x.n, .slice xa x.ks.length xc, .int .i64 n] 37) := Lib.hid (Bx.kept Rz q); have r0 := R.out.cell' 0 _ rfl; have r1 := R.out.cell' 1 _ rfl; have r2 := R.out.cell' 2 _ rfl; have r3 := R.out.cell' 3 _ rfl; have r4 := R.out.cell' 4 _ rfl; have r5 := R.out.cell' 5 _ rfl; have r6 := R.out.cell' 6 _ rfl; have r7 := R.out.cell' 7 _ rfl; have r8 := R.out.cell' 8 _ rfl; have r9 := R.out.cell' 9 _ rfl; have r10 := R.out.cell' 10 _ rfl; replace q0 : Hid (Qw w w') := Lib.hid (Qw.trans Qz q); clear q)) | (go_at_call 52; ((with_reducible refine (RIGHTX.out _ (Ow.kept HO.out Qz) (KidsB.kept HX.out Qz)).mono ?_); rintro e w' ⟨rfl, q⟩; replace R : Hid (Bx w' w.heap.size #[.int .i64 2, .int .i64 label, .bool skip, .slice wa 0 wc, .int .i64 left.op, .int .i64 left.n, .slice la left.ks.length lc, .int .i64 x.op, .int .i64 x.n, .slice xa x.ks.length xc, .int .i64 n] 37) := Lib.hid (Bx.kept Rz q); have r0 := R.out.cell' 0 _ rfl; have r1 := R.out.cell' 1 _ rfl; have r2 := R.out.cell' 2 _ rfl; have r3 := R.out.cell' 3 _ rfl; have r4 := R.out.cell' 4 _ rfl; have r5 := R.out.cell' 5 _ rfl; have r6 := R.out.cell' 6 _ rfl; have r7 := R.out.cell' 7 _ rfl; have r8 := R.out.cell' 8 _ rfl; have r9 := R.out.cell' 9 _ rfl; have r10 := R.out.cell' 10 _ rfl; replace q0 : Hid (Qw w w') := Lib.hid (Qw.trans Qz q); clear q)))
        go_ret
        exact ⟨rfl, Qz⟩
      | true =>
        rw [t1] at rightX
        have RIGHTX := Lib.hid rightX
        clear t1 rightX
        by_cases hn : n = 0
        · subst hn
          have q0 : Hid (Qw w w) := Lib.hid (Qw.refl w)
          go_enter Tryd.func35, Tryd.ntmps35
          go_wp2_with (first | (go_at_call 49; ((with_reducible refine (CNTL.out _).mono ?_); rintro e w' ⟨rfl, rfl⟩)) | (go_at_call 51; ((with_reducible refine (BLANKL.out _).mono ?_); rintro e w' ⟨rfl, q⟩; replace R : Hid (Bx w' w.heap.size #[.int .i64 2, .int .i64 label, .bool skip, .slice wa 0 wc, .int .i64 left.op, .int .i64 left.n, .slice la left.ks.length lc, .int .i64 x.op, .int .i64 x.n, .slice xa x.ks.length xc, .int .i64 0] 37) := Lib.hid (Bx.kept Rz q); have r0 := R.out.cell' 0 _ rfl; have r1 := R.out.cell' 1 _ rfl; have r2 := R.out.cell' 2 _ rfl; have r3 := R.out.cell' 3 _ rfl; have r4 := R.out.cell' 4 _ rfl; have r5 := R.out.cell' 5 _ rfl; have r6 := R.out.cell' 6 _ rfl; have r7 := R.out.cell' 7 _ rfl; have r8 := R.out.cell' 8 _ rfl; have r9 := R.out.cell' 9 _ rfl; have r10 := R.out.cell' 10 _ rfl; replace q0 : Hid (Qw w w') := Lib.hid (Qw.trans Qz q); clear q)) | (go_at_call 52; ((with_reducible refine (RIGHTX.out _ (Ow.kept HO.out Qz) (KidsB.kept HX.out Qz)).mono ?_); rintro e w' ⟨rfl, q⟩; replace R : Hid (Bx w' w.heap.size #[.int .i64 2, .int .i64 label, .bool skip, .slice wa 0 wc, .int .i64 left.op, .int .i64 left.n, .slice la left.ks.length lc, .int .i64 x.op, .int .i64 x.n, .slice xa x.ks.length xc, .int .i64 0] 37) := Lib.hid (Bx.kept Rz q); have r0 := R.out.cell' 0 _ rfl; have r1 := R.out.cell' 1 _ rfl; have r2 := R.out.cell' 2 _ rfl; have r3 := R.out.cell' 3 _ rfl; have r4 := R.out.cell' 4 _ rfl; have r5 := R.out.cell' 5 _ rfl; have r6 := R.out.cell' 6 _ rfl; have r7 := R.out.cell' 7 _ rfl; have r8 := R.out.cell' 8 _ rfl; have r9 := R.out.cell' 9 _ rfl; have r10 := R.out.cell' 10 _ rfl; replace q0 : Hid (Qw w w') := Lib.hid (Qw.trans Qz q); clear q)))
          go_ret
          exact ⟨rfl, Qz⟩
        · have nb : (n == 0) = false := beq_eq_false_iff_ne.2 hn
          rw [decide_eq_false hn]
          clear hn
          have q0 : Hid (Qw w w) := Lib.hid (Qw.refl w)
          go_enter Tryd.func35, Tryd.ntmps35
          go_wp2_with (first | (go_at_call 49; ((with_reducible refine (CNTL.out _).mono ?_); rintro e w' ⟨rfl, rfl⟩)) | (go_at_call 51; ((with_reducible refine (BLANKL.out _).mono ?_); rintro e w' ⟨rfl, q⟩; replace R : Hid (Bx w' w.heap.size #[.int .i64 2, .int .i64 label, .bool skip, .slice wa 0 wc, .int .i64 left.op, .int .i64 left.n, .slice la left.ks.length lc, .int .i64 x.op, .int .i64 x.n, .slice xa x.ks.length xc, .int .i64 n] 37) := Lib.hid (Bx.kept Rz q); have r0 := R.out.cell' 0 _ rfl; have r1 := R.out.cell' 1 _ rfl; have r2 := R.out.cell' 2 _ rfl; have r3 := R.out.cell' 3 _ rfl; have r4 := R.out.cell' 4 _ rfl; have r5 := R.out.cell' 5 _ rfl; have r6 := R.out.cell' 6 _ rfl; have r7 := R.out.cell' 7 _ rfl; have r8 := R.out.cell' 8 _ rfl; have r9 := R.out.cell' 9 _ rfl; have r10 := R.out.cell' 10 _ rfl; replace q0 : Hid (Qw w w') := Lib.hid (Qw.trans Qz q); clear q)) | (go_at_call 52; ((with_reducible refine (RIGHTX.out _ (Ow.kept HO.out Qz) (KidsB.kept HX.out Qz)).mono ?_); rintro e w' ⟨rfl, q⟩; replace R : Hid (Bx w' w.heap.size #[.int .i64 2, .int .i64 label, .bool skip, .slice wa 0 wc, .int .i64 left.op, .int .i64 left.n, .slice la left.ks.length lc, .int .i64 x.op, .int .i64 x.n, .slice xa x.ks.length xc, .int .i64 n] 37) := Lib.hid (Bx.kept Rz q); have r0 := R.out.cell' 0 _ rfl; have r1 := R.out.cell' 1 _ rfl; have r2 := R.out.cell' 2 _ rfl; have r3 := R.out.cell' 3 _ rfl; have r4 := R.out.cell' 4 _ rfl; have r5 := R.out.cell' 5 _ rfl; have r6 := R.out.cell' 6 _ rfl; have r7 := R.out.cell' 7 _ rfl; have r8 := R.out.cell' 8 _ rfl; have r9 := R.out.cell' 9 _ rfl; have r10 := R.out.cell' 10 _ rfl; replace q0 : Hid (Qw w w') := Lib.hid (Qw.trans Qz q); clear q)))
          go_ret
          exact ⟨rfl, Qz⟩
end Go.Proofs.YtlgdjbabbfdngaaDoor

