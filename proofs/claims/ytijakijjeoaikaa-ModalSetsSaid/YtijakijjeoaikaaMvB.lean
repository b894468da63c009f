
/- Drawing the values of a block from a tape: the walk. -/
import Derived.Test.YtijakijjeoaikaaMvA
set_option linter.unusedVariables false
set_option linter.unusedSimpArgs false
namespace Go.Proofs.Ytijakijjeoaikaa
open Go.RowKit

set_option maxRecDepth 100000 in
theorem numberM (B : Nat) (v : Value) (zs : List Int) (k : Nat) (w : World) (h : TapeAt w B v zs k) :
    Calls Try.prog 36 #[.pointer (some ⟨B, 0, none⟩)] w fun e w' => e = .returned (.int .i64 (numv zs k)) ∧ TapeAt w' B v zs (adv zs (adv zs k)) ∧ w.grownBy w' (some B) := by
  have c1 := nextM B v zs k 8 (by omega) (by omega) w h
  have c2 := fun n n1 n2 w h => nextM B v zs (adv zs k) n n1 n2 w h
  have b1 := nxt_bd zs k 8 (by omega)
  have b2 := fun n n1 => nxt_bd zs (adv zs k) n n1
  have C1 := Lib.hid c1
  unfold numv
  generalize nxt zs k 8 = c at *
  obtain ⟨b10, b11⟩ := b1
  have cs : c = 0 ∨ c = 1 ∨ c = 2 ∨ c = 3 ∨ 4 ≤ c := by omega
  rcases cs with rfl | rfl | rfl | rfl | hc
  · rw [if_pos rfl]
    have b := b2 1000000000000000 (by omega)
    have cc := fun w h => c2 1000000000000000 (by omega) (by omega) w h
    clear c1 c2 b2 h
    generalize nxt zs (adv zs k) 1000000000000000 = r at *
    obtain ⟨r0, r1⟩ := b
    have CC := Lib.hid cc
    clear cc
    go_enter Try.func36, Try.ntmps36
    go_wp2_with fail
    ((with_reducible refine C1.out.mono ?_); rintro e w1 ⟨rfl, h1, q1⟩)
    have H1 := Lib.hid h1
    clear h1
    go_wp2_with fail
    ((with_reducible refine (CC.out _ H1.out).mono ?_); rintro e w2 ⟨rfl, h2, q2⟩)
    have H2 := Lib.hid h2
    clear h2
    go_wp2
    go_ret
    exact ⟨rfl, H2.out, q1.trans q2⟩
  · rw [if_neg (by decide), if_pos rfl]
    have b := b2 1000000 (by omega)
    have cc := fun w h => c2 1000000 (by omega) (by omega) w h
    clear c1 c2 b2 h
    generalize nxt zs (adv zs k) 1000000 = r at *
    obtain ⟨r0, r1⟩ := b
    have CC := Lib.hid cc
    clear cc
    go_enter Try.func36, Try.ntmps36
    go_wp2_with fail
    ((with_reducible refine C1.out.mono ?_); rintro e w1 ⟨rfl, h1, q1⟩)
    have H1 := Lib.hid h1
    clear h1
    go_wp2_with fail
    ((with_reducible refine (CC.out _ H1.out).mono ?_); rintro e w2 ⟨rfl, h2, q2⟩)
    have H2 := Lib.hid h2
    clear h2
    go_wp2
    go_ret
    exact ⟨rfl, H2.out, q1.trans q2⟩
  · rw [if_neg (by decide), if_neg (by decide), if_pos (.inl rfl)]
    have b := b2 40 (by omega)
    have cc := fun w h => c2 40 (by omega) (by omega) w h
    clear c1 c2 b2 h
    generalize nxt zs (adv zs k) 40 = r at *
    obtain ⟨r0, r1⟩ := b
    have CC := Lib.hid cc
    clear cc
    go_enter Try.func36, Try.ntmps36
    go_wp2_with fail
    ((with_reducible refine C1.out.mono ?_); rintro e w1 ⟨rfl, h1, q1⟩)
    have H1 := Lib.hid h1
    clear h1
    go_wp2_with fail
    ((with_reducible refine (CC.out _ H1.out).mono ?_); rintro e w2 ⟨rfl, h2, q2⟩)
    have H2 := Lib.hid h2
    clear h2
    go_wp2
    go_ret
    exact ⟨rfl, H2.out, q1.trans q2⟩
  · rw [if_neg (by decide), if_neg (by decide), if_pos (.inr rfl)]
    have b := b2 40 (by omega)
    have cc := fun w h => c2 40 (by omega) (by omega) w h
    clear c1 c2 b2 h
    generalize nxt zs (adv zs k) 40 = r at *
    obtain ⟨r0, r1⟩ := b
    have CC := Lib.hid cc
    clear cc
    go_enter Try.func36, Try.ntmps36
    go_wp2_with fail
    ((with_reducible refine C1.out.mono ?_); rintro e w1 ⟨rfl, h1, q1⟩)
    have H1 := Lib.hid h1
    clear h1
    go_wp2_with fail
    ((with_reducible refine (CC.out _ H1.out).mono ?_); rintro e w2 ⟨rfl, h2, q2⟩)
    have H2 := Lib.hid h2
    clear h2
    go_wp2
    go_ret
    exact ⟨rfl, H2.out, q1.trans q2⟩
  · rw [if_neg (by omega), if_neg (by omega), if_neg (by omega)]
    have z0 : (c == 0) = false := beq_eq_false_iff_ne.2 (by omega)
    have z1 : (c == 1) = false := beq_eq_false_iff_ne.2 (by omega)
    have z2 : (c == 2) = false := beq_eq_false_iff_ne.2 (by omega)
    have z3 : (c == 3) = false := beq_eq_false_iff_ne.2 (by omega)
    have b := b2 12 (by omega)
    have cc := fun w h => c2 12 (by omega) (by omega) w h
    clear c1 c2 b2 h
    generalize nxt zs (adv zs k) 12 = r at *
    obtain ⟨r0, r1⟩ := b
    have CC := Lib.hid cc
    clear cc
    go_enter Try.func36, Try.ntmps36
    go_wp2_with fail
    ((with_reducible refine C1.out.mono ?_); rintro e w1 ⟨rfl, h1, q1⟩)
    have H1 := Lib.hid h1
    clear h1
    go_wp2_with fail
    ((with_reducible refine (CC.out _ H1.out).mono ?_); rintro e w2 ⟨rfl, h2, q2⟩)
    have H2 := Lib.hid h2
    clear h2
    go_wp2
    go_ret
    exact ⟨rfl, H2.out, q1.trans q2⟩


def cdl : List Int := [0, 1, 2, 3, 4, 10, 12, 13, 15, 16, 17, 18, 19, 20, 21, 31, 33, 40, 41, 42, 43, 44, 49, 52, 53, 54, 55, 59, 61, 64, 68, 69, 73, 80, 81, 90, 91, 92, 94, 95, 98, 99, 5, 65]
def msl : List Int := [0, 1, 2, 3, 4, 5, 6, 7, 8, 9, 30, 62, 63, 98, 10]
def ivm (l : List Int) : Array Value := (l.map (Value.int .i64)).toArray
theorem ivm_at {l : List Int} {i : Nat} (h : i < l.length) : (ivm l)[i]? = some (.int .i64 (l.getD i 0)) := by
  simp [ivm, List.getD_eq_getElem?_getD, List.getElem?_eq_getElem h]
theorem cdl_bd : ∀ j : Fin 44, 0 ≤ cdl.getD j 0 ∧ cdl.getD j 0 ≤ 99 := by decide
theorem msl_bd : ∀ j : Fin 15, 0 ≤ msl.getD j 0 ∧ msl.getD j 0 ≤ 99 := by decide
def ltb : ByteArray := { data := #[88, 89, 90, 73, 74, 75, 82, 81, 80, 76, 70, 83, 84, 72, 68] }
theorem Bx.grM {w w' : World} {b B : Nat} {cs : Array Value} {t : TypeId} (h : Bx w b cs t) (q : w.grownBy w' (some B)) (hb : b ≠ B) : Bx w' b cs t := (q.block b h.lt (by simpa using hb)).trans h
def ValR (w0 : World) (B : Nat) (tv : Value) (zs : List Int) (e : Ending) (w' : World) : Prop := ∃ (E : Nat) (k : Nat) (sv : Value) (l : Vs.Ar), e = .returned sv ∧ Vm w0 B E tv zs k sv l w' ∧ l.length ≤ 20
set_option maxRecDepth 100000 in
set_option maxHeartbeats 8000000 in
theorem valuesM {w : World} {B : Nat} {tv : Value} {zs : List Int} {k : Nat} (h : TapeAt w B tv zs k) : Calls Try.prog 16 #[.pointer (some ⟨B, 0, none⟩)] w (ValR w B tv zs) := by
  have hBw := lt_of_block h.1
  have HV0 := Lib.hid ((Vm.start h 0).re (.cells (ivm cdl) 3))
  have HX0 := Lib.hid (Bx.new w (ivm cdl) 3)
  have c0 := fun w h => nextM B tv zs k 4 (by omega) (by omega) w h
  have b0 := nxt_bd zs k 4 (by omega)
  clear h
  generalize nxt zs k 4 = n0 at *
  generalize adv zs k = k0 at *
  have C0 := Lib.hid c0
  clear c0
  obtain ⟨m0, rfl⟩ := Int.eq_ofNat_of_zero_le b0.1
  have hm0 : m0 < 4 := by omega
  clear b0
  go_enter Try.func16, Try.ntmps16
  go_wp2_with (go_at_call 35; (refine (C0.out _ HV0.out.t).mono ?_; rintro e w1 ⟨rfl, h1, q1⟩; have V1 := Lib.hid (HV0.out.next h1 q1); have X1 := Lib.hid (HX0.out.grM q1 (by omega)); clear h1 q1))
  clear HV0 HX0 C0
  obtain ⟨D, hD⟩ : ∃ D, D = w.heap.size := ⟨_, rfl⟩
  rw [← hD] at V1 X1 ⊢
  have hBD : B < D := by omega
  have HD := Lib.hid hD
  clear hD
  go_loopw [3, 5] (fun lv nv wr => ∃ (sl : Value) (l : Vs.Ar) (k n : Nat), sl = lv ∧ nv = .int .i64 (n : Int) ∧ l.length + n ≤ 3 ∧ Hid (Vm w B D tv zs k sl l wr) ∧ Hid (Bx wr D (ivm cdl) 3)) (fun _ nv _ => (intOf nv).toNat)
  case atStart => exact ⟨_, _, _, m0, rfl, rfl, by simp; omega, V1, X1⟩
  case round =>
    clear V1 X1
    obtain ⟨sl, l, k, n, rfl, rfl, hl, HV, HX⟩ := hrel
    by_cases hn : 0 < n
    · have cn := fun w h => nextM B tv zs k 44 (by omega) (by omega) w h
      have bn := nxt_bd zs k 44 (by omega)
      generalize nxt zs k 44 = r at *
      obtain ⟨R, rfl⟩ := Int.eq_ofNat_of_zero_le bn.1
      have hR : R < 44 := by omega
      have cb := cdl_bd ⟨R, hR⟩
      simp only at cb
      have ca := ivm_at (l := cdl) (i := R) hR
      generalize cdl.getD R 0 = c at *
      obtain ⟨cb0, cb1⟩ := cb
      have CN := Lib.hid cn
      have CA := Lib.hid ca
      have rl : (R : Int) < 44 := by omega
      have hn' : (0 : Int) < (n : Int) := by omega
      clear cn ca bn
      go_wp2_with (first | (go_at_call 35; ((with_reducible refine (CN.out _ HV.out.t).mono ?_); rintro e w2 ⟨rfl, h2, q2⟩; have V2 := Lib.hid (HV.out.next h2 q2); have X2 := Lib.hid (HX.out.grM q2 (by omega)); have cx := X2.out.cell' R _ CA.out; clear h2 q2)) | (refine val_append 18 28 (71, c * 1000000) w.heap.size sl l w2.heap.size rfl rfl (Bx.new w2 _ _) (V2.out.al _).o (by omega) (by have := V2.out.g.size; simp; omega) ?_; intro v' w3 o g nr; have V3 := Lib.hid ((V2.out.al _).app (by have := X2.out.lt; simp; omega) o g nr (by show -9000000000000000 ≤ c * 1000000; omega) (by show c * 1000000 ≤ 9000000000000000; omega)); have X3 := Lib.hid (show Bx w3 D (ivm cdl) 3 from (g.block D (by have := X2.out.lt; simp; omega) (fun e => V2.out.e e.symm)).trans (X2.out.alloc _)); clear o g nr))
      go_roundw
      case rel => exact ⟨_, _, _, n - 1, rfl, by go_num, by simp; omega, V3, X3⟩
      case measure => simp [intOf]; omega
    · obtain rfl : n = 0 := by omega
      have HV0 := Lib.hid (HV.out.re (.cells (ivm msl) 3))
      have HX0 := Lib.hid (Bx.new wr (ivm msl) 3)
      have c0 := fun w h => nextM B tv zs k 3 (by omega) (by omega) w h
      have b0 := nxt_bd zs k 3 (by omega)
      have hBr : B < wr.heap.size := lt_of_block HV.out.t.1
      generalize nxt zs k 3 = n0 at *
      generalize adv zs k = k0 at *
      have C0 := Lib.hid c0
      clear c0 hn HX
      obtain ⟨m0, rfl⟩ := Int.eq_ofNat_of_zero_le b0.1
      have hm0 : m0 < 3 := by omega
      clear b0
      go_wp2_with (go_at_call 35; (refine (C0.out _ HV0.out.t).mono ?_; rintro e w1 ⟨rfl, h1, q1⟩; have V1 := Lib.hid (HV0.out.next h1 q1); have X1 := Lib.hid (HX0.out.grM q1 (by omega)); clear h1 q1))
      clear HV0 HX0 C0 HV
      generalize wr.heap.size = D2 at *
      have hl3 : l.length ≤ 3 := by omega
      clear hl
      go_loopw [3, 7] (fun lv nv wr => ∃ (sl : Value) (l : Vs.Ar) (k n : Nat), sl = lv ∧ nv = .int .i64 (n : Int) ∧ l.length + n ≤ 5 ∧ Hid (Vm w B D2 tv zs k sl l wr) ∧ Hid (Bx wr D2 (ivm msl) 3)) (fun _ nv _ => (intOf nv).toNat)
      case atStart => exact ⟨_, _, _, m0, rfl, rfl, by omega, V1, X1⟩
      case round =>
        clear V1 X1
        obtain ⟨sl, l, k, n, rfl, rfl, hl, HV, HX⟩ := hrel
        by_cases hn : 0 < n
        · have cn := fun w h => nextM B tv zs k 15 (by omega) (by omega) w h
          have bn := nxt_bd zs k 15 (by omega)
          generalize nxt zs k 15 = r at *
          obtain ⟨R, rfl⟩ := Int.eq_ofNat_of_zero_le bn.1
          have hR : R < 15 := by omega
          have cb := msl_bd ⟨R, hR⟩
          simp only at cb
          have ca := ivm_at (l := msl) (i := R) hR
          generalize msl.getD R 0 = c at *
          obtain ⟨cb0, cb1⟩ := cb
          have CN := Lib.hid cn
          have CA := Lib.hid ca
          have rl : (R : Int) < 15 := by omega
          have hn' : (0 : Int) < (n : Int) := by omega
          clear cn ca bn
          go_wp2_with (first | (go_at_call 35; ((with_reducible refine (CN.out _ HV.out.t).mono ?_); rintro e w2 ⟨rfl, h2, q2⟩; have V2 := Lib.hid (HV.out.next h2 q2); have X2 := Lib.hid (HX.out.grM q2 (by omega)); have cx := X2.out.cell' R _ CA.out; clear h2 q2)) | (refine val_append 37 47 (77, c * 1000000) w.heap.size sl l w2.heap.size rfl rfl (Bx.new w2 _ _) (V2.out.al _).o (by omega) (by have := V2.out.g.size; simp; omega) ?_; intro v' w3 o g nr; have V3 := Lib.hid ((V2.out.al _).app (by have := X2.out.lt; simp; omega) o g nr (by show -9000000000000000 ≤ c * 1000000; omega) (by show c * 1000000 ≤ 9000000000000000; omega)); have X3 := Lib.hid (show Bx w3 D2 (ivm msl) 3 from (g.block D2 (by have := X2.out.lt; simp; omega) (fun e => V2.out.e e.symm)).trans (X2.out.alloc _)); clear o g nr))
          go_roundw
          case rel => exact ⟨_, _, _, n - 1, rfl, by go_num, by simp; omega, V3, X3⟩
          case measure => simp [intOf]; omega
        · obtain rfl : n = 0 := by omega
          have hl5 : l.length ≤ 5 := by omega
          have HE : D2 < wr.heap.size := HX.out.lt
          clear hl hn HX
          go_wp2
          obtain ⟨S, hS⟩ : ∃ S : ByteArray, S = { data := #[88, 89, 90, 73, 74, 75, 82, 81, 80, 76, 70, 83, 84, 72, 68] } := ⟨_, rfl⟩
          have hs : S.size = 15 := by rw [hS]; rfl
          rw [← hS]
          clear hS
          try rw [show (((0 : Nat) : Int)) = 0 from rfl]
          go_loopw [3, 9] (fun lv iv wr => ∃ (sl : Value) (l : Vs.Ar) (k i : Nat), sl = lv ∧ iv = .int .i64 (i : Int) ∧ i ≤ 15 ∧ l.length ≤ 5 + i ∧ Hid (Vm w B D2 tv zs k sl l wr) ∧ D2 < wr.heap.size) (fun _ iv _ => 15 - (intOf iv).toNat)
          case atStart => exact ⟨_, _, _, 0, rfl, rfl, by omega, by omega, HV, HE⟩
          case round =>
            clear HV HE
            obtain ⟨sl, l, k, i, rfl, rfl, hi, hl, HV, HE⟩ := hrel
            by_cases hlt : i < 15
            · have cn := fun w h => nextM B tv zs k 4 (by omega) (by omega) w h
              have hi15 : (i : Int) < 15 := by omega
              have hi0 : 0 ≤ (i : Int) := by omega
              generalize nxt zs k 4 = r at *
              generalize adv zs k = k1 at *
              have CN := Lib.hid cn
              clear cn
              by_cases hr : r = 0
              · subst hr
                have cm := fun w h => numberM B tv zs k1 w h
                have bm := numv_bd zs k1
                generalize numv zs k1 = x at *
                generalize adv zs (adv zs k1) = k2 at *
                have CM := Lib.hid cm
                have cq := fun w h => nextM B tv zs k2 3 (by omega) (by omega) w h
                generalize nxt zs k2 3 = r2 at *
                have CQ := Lib.hid cq
                obtain ⟨bm0, bm1⟩ := bm
                have hz : i < S.size := by omega
                have z1 : ((S[i]'hz).toNat : Int) ≤ 255 := by have := (S[i]'hz).toNat_lt; omega
                have z0 : (0 : Int) ≤ ((S[i]'hz).toNat : Int) := by omega
                clear cm cq
                by_cases hr2 : r2 = 0
                · subst hr2
                  go_wp2_with (first | (go_at_call 35; (first | ((with_reducible refine (CN.out _ HV.out.t).mono ?_); rintro e w2 ⟨rfl, h2, q2⟩; have V2 := Lib.hid (HV.out.next h2 q2); have hE2 : D2 < w2.heap.size := Nat.lt_of_lt_of_le HE q2.size; clear h2 q2) | ((with_reducible refine (CQ.out _ V4.out.t).mono ?_); rintro e w5 ⟨rfl, h5, q5⟩; have V5 := Lib.hid (V4.out.next h5 q5); have hE5 : D2 < w5.heap.size := Nat.lt_of_lt_of_le hE4 q5.size; clear h5 q5))) | (go_at_call 36; ((with_reducible refine (CM.out _ V2.out.t).mono ?_); rintro e w4 ⟨rfl, h4, q4⟩; have V4 := Lib.hid (V2.out.next h4 q4); have hE4 : D2 < w4.heap.size := Nat.lt_of_lt_of_le hE2 q4.size; clear h4 q4)) | (refine val_append 65 72 (((S[i]'hz).toNat : Int), -x) w.heap.size sl l w5.heap.size rfl rfl (Bx.new w5 _ _) (V5.out.al _).o (by omega) (by have := V5.out.g.size; simp; omega) ?_; intro v' w6 o g nr; have V6 := Lib.hid ((V5.out.al _).app (by simp; omega) o g nr (by show -9000000000000000 ≤ -x; omega) (by show -x ≤ 9000000000000000; omega)); have hE6 : D2 < w6.heap.size := Nat.lt_of_lt_of_le hE5 (Nat.le_trans (by simp) g.size); clear o g nr))
                  go_roundw
                  case rel => exact ⟨_, _, _, i + 1, rfl, by go_num, by omega, by simp; omega, V6, hE6⟩
                  case measure => simp [intOf]; omega
                · have z2 : (r2 == 0) = false := beq_eq_false_iff_ne.2 hr2
                  clear hr2
                  go_wp2_with (first | (go_at_call 35; (first | ((with_reducible refine (CN.out _ HV.out.t).mono ?_); rintro e w2 ⟨rfl, h2, q2⟩; have V2 := Lib.hid (HV.out.next h2 q2); have hE2 : D2 < w2.heap.size := Nat.lt_of_lt_of_le HE q2.size; clear h2 q2) | ((with_reducible refine (CQ.out _ V4.out.t).mono ?_); rintro e w5 ⟨rfl, h5, q5⟩; have V5 := Lib.hid (V4.out.next h5 q5); have hE5 : D2 < w5.heap.size := Nat.lt_of_lt_of_le hE4 q5.size; clear h5 q5))) | (go_at_call 36; ((with_reducible refine (CM.out _ V2.out.t).mono ?_); rintro e w4 ⟨rfl, h4, q4⟩; have V4 := Lib.hid (V2.out.next h4 q4); have hE4 : D2 < w4.heap.size := Nat.lt_of_lt_of_le hE2 q4.size; clear h4 q4)) | (refine val_append 65 72 (((S[i]'hz).toNat : Int), x) w.heap.size sl l w5.heap.size rfl rfl (Bx.new w5 _ _) (V5.out.al _).o (by omega) (by have := V5.out.g.size; simp; omega) ?_; intro v' w6 o g nr; have V6 := Lib.hid ((V5.out.al _).app (by simp; omega) o g nr (by show -9000000000000000 ≤ x; omega) (by show x ≤ 9000000000000000; omega)); have hE6 : D2 < w6.heap.size := Nat.lt_of_lt_of_le hE5 (Nat.le_trans (by simp) g.size); clear o g nr))
                  go_roundw
                  case rel => exact ⟨_, _, _, i + 1, rfl, by go_num, by omega, by simp; omega, V6, hE6⟩
                  case measure => simp [intOf]; omega
              · have z : (r == 0) = false := beq_eq_false_iff_ne.2 hr
                clear hr
                go_wp2_with (go_at_call 35; ((with_reducible refine (CN.out _ HV.out.t).mono ?_); rintro e w2 ⟨rfl, h2, q2⟩; have V2 := Lib.hid (HV.out.next h2 q2); have hE2 : D2 < w2.heap.size := Nat.lt_of_lt_of_le HE q2.size; clear h2 q2))
                go_roundw
                case rel => exact ⟨_, _, _, i + 1, rfl, by go_num, by omega, by omega, V2, hE2⟩
                case measure => simp [intOf]; omega
            · obtain rfl : i = 15 := by omega
              clear hlt
              go_wp2
              go_ret
              exact ⟨D2, _, _, _, rfl, HV.out, by omega⟩
end Go.Proofs.Ytijakijjeoaikaa
