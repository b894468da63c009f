import Derived.Test.YtbcbnkapipimmaaGreatDoorZLv25
set_option linter.unusedVariables false
set_option linter.unusedSimpArgs false
namespace Go.Proofs.YtbcbnkapipimmaaGreatDoor
open Go.RowKit
namespace Sy
open Lx
def opN (i : Nat) : Nat := [24, 25, 23, 17, 21, 3, 4, 5, 6, 7].getD i 0
def lvN (i : Nat) : Nat := [0, 0, 1, 2, 2, 3, 3, 4, 4, 4].getD i 0
theorem opN_ok : ∀ i, i < 10 → opN i < 26 ∧ binB (opN i) = true ∧ kds (opN i) = 2 := by decide
def levT (X Y Z : Int) (o1 o2 : Nat) : List UInt8 := [35] ++ (([49] ++ [61]) ++ ((fmtp X ++ (32 :: onm o1 ++ [32])) ++ ((fmtp Y ++ (32 :: onm o2 ++ [32])) ++ fmtp Z)))
def levK (X Y Z : Int) (o1 o2 : Nat) : List Tr := [sgn 35] ++ (([nmb 1000000] ++ [sgn 61]) ++ (([nmb X] ++ [otk o1]) ++ (([nmb Y] ++ [otk o2]) ++ [nmb Z])))
theorem hdop (o : Nat) : Hd (32 :: onm o ++ [32]) := ⟨32, onm o ++ [32], rfl, by decide, by decide⟩
theorem lxd_lev {X Y Z : Int} (x0 : 0 ≤ X) (x1 : X < 1000000000000000) (y0 : 0 ≤ Y) (y1 : Y < 1000000000000000) (z0 : 0 ≤ Z) (z1 : Z < 1000000000000000) {o1 o2 : Nat} (h1 : o1 < 26) (b1 : binB o1 = true) (h2 : o2 < 26) (b2 : binB o2 = true) : Lxd (levT X Y Z o1 o2) (levK X Y Z o1 o2) := by
  have b : Lxd [49] [nmb 1000000] := by
    have := lxd_num 1000000 (by decide) (by decide)
    rw [fmtp_1 1000000 1 rfl (by decide) (by decide)] at this
    exact this
  exact Lx0.appd (lx0_sgn 35 (by decide)) (Lx0.appd (Lxd.app b ⟨61, [], rfl, by decide, by decide⟩ (lx0_sgn 61 (by decide))) (Lx0.appd (Lxd.app (lxd_num X x0 x1) (hdop o1) (lx0_op h1 b1)) (Lx0.appd (Lxd.app (lxd_num Y y0 y1) (hdop o2) (lx0_op h2 b2)) (lxd_num Z z0 z1))))
def want (i k : Nat) (X Y Z : Int) : Ex := if lvN i < lvN k then bin (opN i : Nat) (num X) (bin (opN k : Nat) (num Y) (num Z)) else bin (opN k : Nat) (bin (opN i : Nat) (num X) (num Y)) (num Z)
theorem want_ok {X Y Z : Int} (x0 : 0 ≤ X) (x1 : X < 1000000000000000) (y0 : 0 ≤ Y) (y1 : Y < 1000000000000000) (z0 : 0 ≤ Z) (z1 : Z < 1000000000000000) (i k : Nat) (hi : i < 10) (hk : k < 10) : okx (want i k X Y Z) = true ∧ dpt (want i k X Y Z) ≤ 4 := by
  have ox := okx_num' x0 x1; have oy := okx_num' y0 y1; have oz := okx_num' z0 z1
  obtain ⟨a1, _, a3⟩ := opN_ok i hi
  obtain ⟨c1, _, c3⟩ := opN_ok k hk
  have ti : ((opN i : Nat) : Int).toNat = opN i := rfl
  have tk : ((opN k : Nat) : Int).toNat = opN k := rfl
  unfold want
  split
  · exact ⟨okx_bin' (by omega) a3 ox (okx_bin' (by omega) c3 oy oz), by rw [dpt_bin, dpt_bin, dpt_num, dpt_num, dpt_num]; decide⟩
  · exact ⟨okx_bin' (by omega) c3 (okx_bin' (by omega) a3 ox oy) oz, by rw [dpt_bin, dpt_bin, dpt_num, dpt_num, dpt_num]; decide⟩
theorem tok_tr {t : Lx.Tok} {u : Tr} (h : tri t = u) : t = ⟨u.1, u.2.1, t.p, u.2.2⟩ := by
  subst h; cases t; rfl
def levTok (X Y Z : Int) (i k : Nat) (p0 p1 p2 p3 p4 p5 p6 p7 : Nat) : List Lx.Tok := [⟨4, 0, p0, [35]⟩, ⟨2, 1000000, p1, []⟩, ⟨4, 0, p2, [61]⟩, ⟨2, X, p3, []⟩, ⟨(otk (opN i)).1, (otk (opN i)).2.1, p4, (otk (opN i)).2.2⟩, ⟨2, Y, p5, []⟩, ⟨(otk (opN k)).1, (otk (opN k)).2.1, p6, (otk (opN k)).2.2⟩, ⟨2, Z, p7, []⟩]
theorem levTok_of {X Y Z : Int} {i k : Nat} {ts : List Lx.Tok} (h : ts.map tri = levK X Y Z (opN i) (opN k)) : ∃ p0 p1 p2 p3 p4 p5 p6 p7, ts = levTok X Y Z i k p0 p1 p2 p3 p4 p5 p6 p7 := by
  have hl := congrArg List.length h
  simp [levK] at hl
  match ts, hl with
  | [t0, t1, t2, t3, t4, t5, t6, t7], _ =>
    simp only [List.map_cons, List.map_nil, levK, List.cons_append, List.nil_append, List.cons.injEq, and_true] at h
    obtain ⟨h0, h1, h2, h3, h4, h5, h6, h7⟩ := h
    refine ⟨t0.p, t1.p, t2.p, t3.p, t4.p, t5.p, t6.p, t7.p, ?_⟩
    unfold levTok
    simp only [List.cons.injEq, and_true]
    exact ⟨tok_tr h0, tok_tr h1, tok_tr h2, tok_tr h3, tok_tr h4, tok_tr h5, tok_tr h6, tok_tr h7⟩
theorem levp_0_0 (X Y Z : Int) (p0 p1 p2 p3 p4 p5 p6 p7 : Nat) : pLn (levTok X Y Z 0 0 p0 p1 p2 p3 p4 p5 p6 p7) = .ok ⟨1, 0, false, [], num 1000000, want 0 0 X Y Z, 0⟩ 8 := by kernel_rfl
theorem levp_0_1 (X Y Z : Int) (p0 p1 p2 p3 p4 p5 p6 p7 : Nat) : pLn (levTok X Y Z 0 1 p0 p1 p2 p3 p4 p5 p6 p7) = .ok ⟨1, 0, false, [], num 1000000, want 0 1 X Y Z, 0⟩ 8 := by kernel_rfl
theorem levp_0_2 (X Y Z : Int) (p0 p1 p2 p3 p4 p5 p6 p7 : Nat) : pLn (levTok X Y Z 0 2 p0 p1 p2 p3 p4 p5 p6 p7) = .ok ⟨1, 0, false, [], num 1000000, want 0 2 X Y Z, 0⟩ 8 := by kernel_rfl
theorem levp_0_3 (X Y Z : Int) (p0 p1 p2 p3 p4 p5 p6 p7 : Nat) : pLn (levTok X Y Z 0 3 p0 p1 p2 p3 p4 p5 p6 p7) = .ok ⟨1, 0, false, [], num 1000000, want 0 3 X Y Z, 0⟩ 8 := by kernel_rfl
theorem levp_0_4 (X Y Z : Int) (p0 p1 p2 p3 p4 p5 p6 p7 : Nat) : pLn (levTok X Y Z 0 4 p0 p1 p2 p3 p4 p5 p6 p7) = .ok ⟨1, 0, false, [], num 1000000, want 0 4 X Y Z, 0⟩ 8 := by kernel_rfl
theorem levp_0_5 (X Y Z : Int) (p0 p1 p2 p3 p4 p5 p6 p7 : Nat) : pLn (levTok X Y Z 0 5 p0 p1 p2 p3 p4 p5 p6 p7) = .ok ⟨1, 0, false, [], num 1000000, want 0 5 X Y Z, 0⟩ 8 := by kernel_rfl
theorem levp_0_6 (X Y Z : Int) (p0 p1 p2 p3 p4 p5 p6 p7 : Nat) : pLn (levTok X Y Z 0 6 p0 p1 p2 p3 p4 p5 p6 p7) = .ok ⟨1, 0, false, [], num 1000000, want 0 6 X Y Z, 0⟩ 8 := by kernel_rfl
theorem levp_0_7 (X Y Z : Int) (p0 p1 p2 p3 p4 p5 p6 p7 : Nat) : pLn (levTok X Y Z 0 7 p0 p1 p2 p3 p4 p5 p6 p7) = .ok ⟨1, 0, false, [], num 1000000, want 0 7 X Y Z, 0⟩ 8 := by kernel_rfl
theorem levp_0_8 (X Y Z : Int) (p0 p1 p2 p3 p4 p5 p6 p7 : Nat) : pLn (levTok X Y Z 0 8 p0 p1 p2 p3 p4 p5 p6 p7) = .ok ⟨1, 0, false, [], num 1000000, want 0 8 X Y Z, 0⟩ 8 := by kernel_rfl
theorem levp_0_9 (X Y Z : Int) (p0 p1 p2 p3 p4 p5 p6 p7 : Nat) : pLn (levTok X Y Z 0 9 p0 p1 p2 p3 p4 p5 p6 p7) = .ok ⟨1, 0, false, [], num 1000000, want 0 9 X Y Z, 0⟩ 8 := by kernel_rfl
theorem levp_1_0 (X Y Z : Int) (p0 p1 p2 p3 p4 p5 p6 p7 : Nat) : pLn (levTok X Y Z 1 0 p0 p1 p2 p3 p4 p5 p6 p7) = .ok ⟨1, 0, false, [], num 1000000, want 1 0 X Y Z, 0⟩ 8 := by kernel_rfl
theorem levp_1_1 (X Y Z : Int) (p0 p1 p2 p3 p4 p5 p6 p7 : Nat) : pLn (levTok X Y Z 1 1 p0 p1 p2 p3 p4 p5 p6 p7) = .ok ⟨1, 0, false, [], num 1000000, want 1 1 X Y Z, 0⟩ 8 := by kernel_rfl
theorem levp_1_2 (X Y Z : Int) (p0 p1 p2 p3 p4 p5 p6 p7 : Nat) : pLn (levTok X Y Z 1 2 p0 p1 p2 p3 p4 p5 p6 p7) = .ok ⟨1, 0, false, [], num 1000000, want 1 2 X Y Z, 0⟩ 8 := by kernel_rfl
theorem levp_1_3 (X Y Z : Int) (p0 p1 p2 p3 p4 p5 p6 p7 : Nat) : pLn (levTok X Y Z 1 3 p0 p1 p2 p3 p4 p5 p6 p7) = .ok ⟨1, 0, false, [], num 1000000, want 1 3 X Y Z, 0⟩ 8 := by kernel_rfl
theorem levp_1_4 (X Y Z : Int) (p0 p1 p2 p3 p4 p5 p6 p7 : Nat) : pLn (levTok X Y Z 1 4 p0 p1 p2 p3 p4 p5 p6 p7) = .ok ⟨1, 0, false, [], num 1000000, want 1 4 X Y Z, 0⟩ 8 := by kernel_rfl
theorem levp_1_5 (X Y Z : Int) (p0 p1 p2 p3 p4 p5 p6 p7 : Nat) : pLn (levTok X Y Z 1 5 p0 p1 p2 p3 p4 p5 p6 p7) = .ok ⟨1, 0, false, [], num 1000000, want 1 5 X Y Z, 0⟩ 8 := by kernel_rfl
theorem levp_1_6 (X Y Z : Int) (p0 p1 p2 p3 p4 p5 p6 p7 : Nat) : pLn (levTok X Y Z 1 6 p0 p1 p2 p3 p4 p5 p6 p7) = .ok ⟨1, 0, false, [], num 1000000, want 1 6 X Y Z, 0⟩ 8 := by kernel_rfl
theorem levp_1_7 (X Y Z : Int) (p0 p1 p2 p3 p4 p5 p6 p7 : Nat) : pLn (levTok X Y Z 1 7 p0 p1 p2 p3 p4 p5 p6 p7) = .ok ⟨1, 0, false, [], num 1000000, want 1 7 X Y Z, 0⟩ 8 := by kernel_rfl
theorem levp_1_8 (X Y Z : Int) (p0 p1 p2 p3 p4 p5 p6 p7 : Nat) : pLn (levTok X Y Z 1 8 p0 p1 p2 p3 p4 p5 p6 p7) = .ok ⟨1, 0, false, [], num 1000000, want 1 8 X Y Z, 0⟩ 8 := by kernel_rfl
theorem levp_1_9 (X Y Z : Int) (p0 p1 p2 p3 p4 p5 p6 p7 : Nat) : pLn (levTok X Y Z 1 9 p0 p1 p2 p3 p4 p5 p6 p7) = .ok ⟨1, 0, false, [], num 1000000, want 1 9 X Y Z, 0⟩ 8 := by kernel_rfl
theorem levp_2_0 (X Y Z : Int) (p0 p1 p2 p3 p4 p5 p6 p7 : Nat) : pLn (levTok X Y Z 2 0 p0 p1 p2 p3 p4 p5 p6 p7) = .ok ⟨1, 0, false, [], num 1000000, want 2 0 X Y Z, 0⟩ 8 := by kernel_rfl
theorem levp_2_1 (X Y Z : Int) (p0 p1 p2 p3 p4 p5 p6 p7 : Nat) : pLn (levTok X Y Z 2 1 p0 p1 p2 p3 p4 p5 p6 p7) = .ok ⟨1, 0, false, [], num 1000000, want 2 1 X Y Z, 0⟩ 8 := by kernel_rfl
theorem levp_2_2 (X Y Z : Int) (p0 p1 p2 p3 p4 p5 p6 p7 : Nat) : pLn (levTok X Y Z 2 2 p0 p1 p2 p3 p4 p5 p6 p7) = .ok ⟨1, 0, false, [], num 1000000, want 2 2 X Y Z, 0⟩ 8 := by kernel_rfl
theorem levp_2_3 (X Y Z : Int) (p0 p1 p2 p3 p4 p5 p6 p7 : Nat) : pLn (levTok X Y Z 2 3 p0 p1 p2 p3 p4 p5 p6 p7) = .ok ⟨1, 0, false, [], num 1000000, want 2 3 X Y Z, 0⟩ 8 := by kernel_rfl
theorem levp_2_4 (X Y Z : Int) (p0 p1 p2 p3 p4 p5 p6 p7 : Nat) : pLn (levTok X Y Z 2 4 p0 p1 p2 p3 p4 p5 p6 p7) = .ok ⟨1, 0, false, [], num 1000000, want 2 4 X Y Z, 0⟩ 8 := by kernel_rfl
theorem levp_2_5 (X Y Z : Int) (p0 p1 p2 p3 p4 p5 p6 p7 : Nat) : pLn (levTok X Y Z 2 5 p0 p1 p2 p3 p4 p5 p6 p7) = .ok ⟨1, 0, false, [], num 1000000, want 2 5 X Y Z, 0⟩ 8 := by kernel_rfl
theorem levp_2_6 (X Y Z : Int) (p0 p1 p2 p3 p4 p5 p6 p7 : Nat) : pLn (levTok X Y Z 2 6 p0 p1 p2 p3 p4 p5 p6 p7) = .ok ⟨1, 0, false, [], num 1000000, want 2 6 X Y Z, 0⟩ 8 := by kernel_rfl
theorem levp_2_7 (X Y Z : Int) (p0 p1 p2 p3 p4 p5 p6 p7 : Nat) : pLn (levTok X Y Z 2 7 p0 p1 p2 p3 p4 p5 p6 p7) = .ok ⟨1, 0, false, [], num 1000000, want 2 7 X Y Z, 0⟩ 8 := by kernel_rfl
theorem levp_2_8 (X Y Z : Int) (p0 p1 p2 p3 p4 p5 p6 p7 : Nat) : pLn (levTok X Y Z 2 8 p0 p1 p2 p3 p4 p5 p6 p7) = .ok ⟨1, 0, false, [], num 1000000, want 2 8 X Y Z, 0⟩ 8 := by kernel_rfl
theorem levp_2_9 (X Y Z : Int) (p0 p1 p2 p3 p4 p5 p6 p7 : Nat) : pLn (levTok X Y Z 2 9 p0 p1 p2 p3 p4 p5 p6 p7) = .ok ⟨1, 0, false, [], num 1000000, want 2 9 X Y Z, 0⟩ 8 := by kernel_rfl
theorem levp_3_0 (X Y Z : Int) (p0 p1 p2 p3 p4 p5 p6 p7 : Nat) : pLn (levTok X Y Z 3 0 p0 p1 p2 p3 p4 p5 p6 p7) = .ok ⟨1, 0, false, [], num 1000000, want 3 0 X Y Z, 0⟩ 8 := by kernel_rfl
theorem levp_3_1 (X Y Z : Int) (p0 p1 p2 p3 p4 p5 p6 p7 : Nat) : pLn (levTok X Y Z 3 1 p0 p1 p2 p3 p4 p5 p6 p7) = .ok ⟨1, 0, false, [], num 1000000, want 3 1 X Y Z, 0⟩ 8 := by kernel_rfl
theorem levp_3_2 (X Y Z : Int) (p0 p1 p2 p3 p4 p5 p6 p7 : Nat) : pLn (levTok X Y Z 3 2 p0 p1 p2 p3 p4 p5 p6 p7) = .ok ⟨1, 0, false, [], num 1000000, want 3 2 X Y Z, 0⟩ 8 := by kernel_rfl
theorem levp_3_5 (X Y Z : Int) (p0 p1 p2 p3 p4 p5 p6 p7 : Nat) : pLn (levTok X Y Z 3 5 p0 p1 p2 p3 p4 p5 p6 p7) = .ok ⟨1, 0, false, [], num 1000000, want 3 5 X Y Z, 0⟩ 8 := by kernel_rfl
theorem levp_3_6 (X Y Z : Int) (p0 p1 p2 p3 p4 p5 p6 p7 : Nat) : pLn (levTok X Y Z 3 6 p0 p1 p2 p3 p4 p5 p6 p7) = .ok ⟨1, 0, false, [], num 1000000, want 3 6 X Y Z, 0⟩ 8 := by kernel_rfl
theorem levp_3_7 (X Y Z : Int) (p0 p1 p2 p3 p4 p5 p6 p7 : Nat) : pLn (levTok X Y Z 3 7 p0 p1 p2 p3 p4 p5 p6 p7) = .ok ⟨1, 0, false, [], num 1000000, want 3 7 X Y Z, 0⟩ 8 := by kernel_rfl
theorem levp_3_8 (X Y Z : Int) (p0 p1 p2 p3 p4 p5 p6 p7 : Nat) : pLn (levTok X Y Z 3 8 p0 p1 p2 p3 p4 p5 p6 p7) = .ok ⟨1, 0, false, [], num 1000000, want 3 8 X Y Z, 0⟩ 8 := by kernel_rfl
theorem levp_3_9 (X Y Z : Int) (p0 p1 p2 p3 p4 p5 p6 p7 : Nat) : pLn (levTok X Y Z 3 9 p0 p1 p2 p3 p4 p5 p6 p7) = .ok ⟨1, 0, false, [], num 1000000, want 3 9 X Y Z, 0⟩ 8 := by kernel_rfl
theorem levp_4_0 (X Y Z : Int) (p0 p1 p2 p3 p4 p5 p6 p7 : Nat) : pLn (levTok X Y Z 4 0 p0 p1 p2 p3 p4 p5 p6 p7) = .ok ⟨1, 0, false, [], num 1000000, want 4 0 X Y Z, 0⟩ 8 := by kernel_rfl
theorem levp_4_1 (X Y Z : Int) (p0 p1 p2 p3 p4 p5 p6 p7 : Nat) : pLn (levTok X Y Z 4 1 p0 p1 p2 p3 p4 p5 p6 p7) = .ok ⟨1, 0, false, [], num 1000000, want 4 1 X Y Z, 0⟩ 8 := by kernel_rfl
theorem levp_4_2 (X Y Z : Int) (p0 p1 p2 p3 p4 p5 p6 p7 : Nat) : pLn (levTok X Y Z 4 2 p0 p1 p2 p3 p4 p5 p6 p7) = .ok ⟨1, 0, false, [], num 1000000, want 4 2 X Y Z, 0⟩ 8 := by kernel_rfl
theorem levp_4_5 (X Y Z : Int) (p0 p1 p2 p3 p4 p5 p6 p7 : Nat) : pLn (levTok X Y Z 4 5 p0 p1 p2 p3 p4 p5 p6 p7) = .ok ⟨1, 0, false, [], num 1000000, want 4 5 X Y Z, 0⟩ 8 := by kernel_rfl
theorem levp_4_6 (X Y Z : Int) (p0 p1 p2 p3 p4 p5 p6 p7 : Nat) : pLn (levTok X Y Z 4 6 p0 p1 p2 p3 p4 p5 p6 p7) = .ok ⟨1, 0, false, [], num 1000000, want 4 6 X Y Z, 0⟩ 8 := by kernel_rfl
theorem levp_4_7 (X Y Z : Int) (p0 p1 p2 p3 p4 p5 p6 p7 : Nat) : pLn (levTok X Y Z 4 7 p0 p1 p2 p3 p4 p5 p6 p7) = .ok ⟨1, 0, false, [], num 1000000, want 4 7 X Y Z, 0⟩ 8 := by kernel_rfl
theorem levp_4_8 (X Y Z : Int) (p0 p1 p2 p3 p4 p5 p6 p7 : Nat) : pLn (levTok X Y Z 4 8 p0 p1 p2 p3 p4 p5 p6 p7) = .ok ⟨1, 0, false, [], num 1000000, want 4 8 X Y Z, 0⟩ 8 := by kernel_rfl
theorem levp_4_9 (X Y Z : Int) (p0 p1 p2 p3 p4 p5 p6 p7 : Nat) : pLn (levTok X Y Z 4 9 p0 p1 p2 p3 p4 p5 p6 p7) = .ok ⟨1, 0, false, [], num 1000000, want 4 9 X Y Z, 0⟩ 8 := by kernel_rfl
theorem levp_5_0 (X Y Z : Int) (p0 p1 p2 p3 p4 p5 p6 p7 : Nat) : pLn (levTok X Y Z 5 0 p0 p1 p2 p3 p4 p5 p6 p7) = .ok ⟨1, 0, false, [], num 1000000, want 5 0 X Y Z, 0⟩ 8 := by kernel_rfl
theorem levp_5_1 (X Y Z : Int) (p0 p1 p2 p3 p4 p5 p6 p7 : Nat) : pLn (levTok X Y Z 5 1 p0 p1 p2 p3 p4 p5 p6 p7) = .ok ⟨1, 0, false, [], num 1000000, want 5 1 X Y Z, 0⟩ 8 := by kernel_rfl
theorem levp_5_2 (X Y Z : Int) (p0 p1 p2 p3 p4 p5 p6 p7 : Nat) : pLn (levTok X Y Z 5 2 p0 p1 p2 p3 p4 p5 p6 p7) = .ok ⟨1, 0, false, [], num 1000000, want 5 2 X Y Z, 0⟩ 8 := by kernel_rfl
theorem levp_5_3 (X Y Z : Int) (p0 p1 p2 p3 p4 p5 p6 p7 : Nat) : pLn (levTok X Y Z 5 3 p0 p1 p2 p3 p4 p5 p6 p7) = .ok ⟨1, 0, false, [], num 1000000, want 5 3 X Y Z, 0⟩ 8 := by kernel_rfl
theorem levp_5_4 (X Y Z : Int) (p0 p1 p2 p3 p4 p5 p6 p7 : Nat) : pLn (levTok X Y Z 5 4 p0 p1 p2 p3 p4 p5 p6 p7) = .ok ⟨1, 0, false, [], num 1000000, want 5 4 X Y Z, 0⟩ 8 := by kernel_rfl
theorem levp_5_5 (X Y Z : Int) (p0 p1 p2 p3 p4 p5 p6 p7 : Nat) : pLn (levTok X Y Z 5 5 p0 p1 p2 p3 p4 p5 p6 p7) = .ok ⟨1, 0, false, [], num 1000000, want 5 5 X Y Z, 0⟩ 8 := by kernel_rfl
theorem levp_5_6 (X Y Z : Int) (p0 p1 p2 p3 p4 p5 p6 p7 : Nat) : pLn (levTok X Y Z 5 6 p0 p1 p2 p3 p4 p5 p6 p7) = .ok ⟨1, 0, false, [], num 1000000, want 5 6 X Y Z, 0⟩ 8 := by kernel_rfl
theorem levp_5_7 (X Y Z : Int) (p0 p1 p2 p3 p4 p5 p6 p7 : Nat) : pLn (levTok X Y Z 5 7 p0 p1 p2 p3 p4 p5 p6 p7) = .ok ⟨1, 0, false, [], num 1000000, want 5 7 X Y Z, 0⟩ 8 := by kernel_rfl
theorem levp_5_8 (X Y Z : Int) (p0 p1 p2 p3 p4 p5 p6 p7 : Nat) : pLn (levTok X Y Z 5 8 p0 p1 p2 p3 p4 p5 p6 p7) = .ok ⟨1, 0, false, [], num 1000000, want 5 8 X Y Z, 0⟩ 8 := by kernel_rfl
theorem levp_5_9 (X Y Z : Int) (p0 p1 p2 p3 p4 p5 p6 p7 : Nat) : pLn (levTok X Y Z 5 9 p0 p1 p2 p3 p4 p5 p6 p7) = .ok ⟨1, 0, false, [], num 1000000, want 5 9 X Y Z, 0⟩ 8 := by kernel_rfl
theorem levp_6_0 (X Y Z : Int) (p0 p1 p2 p3 p4 p5 p6 p7 : Nat) : pLn (levTok X Y Z 6 0 p0 p1 p2 p3 p4 p5 p6 p7) = .ok ⟨1, 0, false, [], num 1000000, want 6 0 X Y Z, 0⟩ 8 := by kernel_rfl
theorem levp_6_1 (X Y Z : Int) (p0 p1 p2 p3 p4 p5 p6 p7 : Nat) : pLn (levTok X Y Z 6 1 p0 p1 p2 p3 p4 p5 p6 p7) = .ok ⟨1, 0, false, [], num 1000000, want 6 1 X Y Z, 0⟩ 8 := by kernel_rfl
theorem levp_6_2 (X Y Z : Int) (p0 p1 p2 p3 p4 p5 p6 p7 : Nat) : pLn (levTok X Y Z 6 2 p0 p1 p2 p3 p4 p5 p6 p7) = .ok ⟨1, 0, false, [], num 1000000, want 6 2 X Y Z, 0⟩ 8 := by kernel_rfl
theorem levp_6_3 (X Y Z : Int) (p0 p1 p2 p3 p4 p5 p6 p7 : Nat) : pLn (levTok X Y Z 6 3 p0 p1 p2 p3 p4 p5 p6 p7) = .ok ⟨1, 0, false, [], num 1000000, want 6 3 X Y Z, 0⟩ 8 := by kernel_rfl
theorem levp_6_4 (X Y Z : Int) (p0 p1 p2 p3 p4 p5 p6 p7 : Nat) : pLn (levTok X Y Z 6 4 p0 p1 p2 p3 p4 p5 p6 p7) = .ok ⟨1, 0, false, [], num 1000000, want 6 4 X Y Z, 0⟩ 8 := by kernel_rfl
theorem levp_6_5 (X Y Z : Int) (p0 p1 p2 p3 p4 p5 p6 p7 : Nat) : pLn (levTok X Y Z 6 5 p0 p1 p2 p3 p4 p5 p6 p7) = .ok ⟨1, 0, false, [], num 1000000, want 6 5 X Y Z, 0⟩ 8 := by kernel_rfl
theorem levp_6_6 (X Y Z : Int) (p0 p1 p2 p3 p4 p5 p6 p7 : Nat) : pLn (levTok X Y Z 6 6 p0 p1 p2 p3 p4 p5 p6 p7) = .ok ⟨1, 0, false, [], num 1000000, want 6 6 X Y Z, 0⟩ 8 := by kernel_rfl
theorem levp_6_7 (X Y Z : Int) (p0 p1 p2 p3 p4 p5 p6 p7 : Nat) : pLn (levTok X Y Z 6 7 p0 p1 p2 p3 p4 p5 p6 p7) = .ok ⟨1, 0, false, [], num 1000000, want 6 7 X Y Z, 0⟩ 8 := by kernel_rfl
theorem levp_6_8 (X Y Z : Int) (p0 p1 p2 p3 p4 p5 p6 p7 : Nat) : pLn (levTok X Y Z 6 8 p0 p1 p2 p3 p4 p5 p6 p7) = .ok ⟨1, 0, false, [], num 1000000, want 6 8 X Y Z, 0⟩ 8 := by kernel_rfl
theorem levp_6_9 (X Y Z : Int) (p0 p1 p2 p3 p4 p5 p6 p7 : Nat) : pLn (levTok X Y Z 6 9 p0 p1 p2 p3 p4 p5 p6 p7) = .ok ⟨1, 0, false, [], num 1000000, want 6 9 X Y Z, 0⟩ 8 := by kernel_rfl
theorem levp_7_0 (X Y Z : Int) (p0 p1 p2 p3 p4 p5 p6 p7 : Nat) : pLn (levTok X Y Z 7 0 p0 p1 p2 p3 p4 p5 p6 p7) = .ok ⟨1, 0, false, [], num 1000000, want 7 0 X Y Z, 0⟩ 8 := by kernel_rfl
theorem levp_7_1 (X Y Z : Int) (p0 p1 p2 p3 p4 p5 p6 p7 : Nat) : pLn (levTok X Y Z 7 1 p0 p1 p2 p3 p4 p5 p6 p7) = .ok ⟨1, 0, false, [], num 1000000, want 7 1 X Y Z, 0⟩ 8 := by kernel_rfl
theorem levp_7_2 (X Y Z : Int) (p0 p1 p2 p3 p4 p5 p6 p7 : Nat) : pLn (levTok X Y Z 7 2 p0 p1 p2 p3 p4 p5 p6 p7) = .ok ⟨1, 0, false, [], num 1000000, want 7 2 X Y Z, 0⟩ 8 := by kernel_rfl
theorem levp_7_3 (X Y Z : Int) (p0 p1 p2 p3 p4 p5 p6 p7 : Nat) : pLn (levTok X Y Z 7 3 p0 p1 p2 p3 p4 p5 p6 p7) = .ok ⟨1, 0, false, [], num 1000000, want 7 3 X Y Z, 0⟩ 8 := by kernel_rfl
theorem levp_7_4 (X Y Z : Int) (p0 p1 p2 p3 p4 p5 p6 p7 : Nat) : pLn (levTok X Y Z 7 4 p0 p1 p2 p3 p4 p5 p6 p7) = .ok ⟨1, 0, false, [], num 1000000, want 7 4 X Y Z, 0⟩ 8 := by kernel_rfl
theorem levp_7_5 (X Y Z : Int) (p0 p1 p2 p3 p4 p5 p6 p7 : Nat) : pLn (levTok X Y Z 7 5 p0 p1 p2 p3 p4 p5 p6 p7) = .ok ⟨1, 0, false, [], num 1000000, want 7 5 X Y Z, 0⟩ 8 := by kernel_rfl
theorem levp_7_6 (X Y Z : Int) (p0 p1 p2 p3 p4 p5 p6 p7 : Nat) : pLn (levTok X Y Z 7 6 p0 p1 p2 p3 p4 p5 p6 p7) = .ok ⟨1, 0, false, [], num 1000000, want 7 6 X Y Z, 0⟩ 8 := by kernel_rfl
theorem levp_7_7 (X Y Z : Int) (p0 p1 p2 p3 p4 p5 p6 p7 : Nat) : pLn (levTok X Y Z 7 7 p0 p1 p2 p3 p4 p5 p6 p7) = .ok ⟨1, 0, false, [], num 1000000, want 7 7 X Y Z, 0⟩ 8 := by kernel_rfl
theorem levp_7_8 (X Y Z : Int) (p0 p1 p2 p3 p4 p5 p6 p7 : Nat) : pLn (levTok X Y Z 7 8 p0 p1 p2 p3 p4 p5 p6 p7) = .ok ⟨1, 0, false, [], num 1000000, want 7 8 X Y Z, 0⟩ 8 := by kernel_rfl
theorem levp_7_9 (X Y Z : Int) (p0 p1 p2 p3 p4 p5 p6 p7 : Nat) : pLn (levTok X Y Z 7 9 p0 p1 p2 p3 p4 p5 p6 p7) = .ok ⟨1, 0, false, [], num 1000000, want 7 9 X Y Z, 0⟩ 8 := by kernel_rfl
theorem levp_8_0 (X Y Z : Int) (p0 p1 p2 p3 p4 p5 p6 p7 : Nat) : pLn (levTok X Y Z 8 0 p0 p1 p2 p3 p4 p5 p6 p7) = .ok ⟨1, 0, false, [], num 1000000, want 8 0 X Y Z, 0⟩ 8 := by kernel_rfl
theorem levp_8_1 (X Y Z : Int) (p0 p1 p2 p3 p4 p5 p6 p7 : Nat) : pLn (levTok X Y Z 8 1 p0 p1 p2 p3 p4 p5 p6 p7) = .ok ⟨1, 0, false, [], num 1000000, want 8 1 X Y Z, 0⟩ 8 := by kernel_rfl
theorem levp_8_2 (X Y Z : Int) (p0 p1 p2 p3 p4 p5 p6 p7 : Nat) : pLn (levTok X Y Z 8 2 p0 p1 p2 p3 p4 p5 p6 p7) = .ok ⟨1, 0, false, [], num 1000000, want 8 2 X Y Z, 0⟩ 8 := by kernel_rfl
theorem levp_8_3 (X Y Z : Int) (p0 p1 p2 p3 p4 p5 p6 p7 : Nat) : pLn (levTok X Y Z 8 3 p0 p1 p2 p3 p4 p5 p6 p7) = .ok ⟨1, 0, false, [], num 1000000, want 8 3 X Y Z, 0⟩ 8 := by kernel_rfl
theorem levp_8_4 (X Y Z : Int) (p0 p1 p2 p3 p4 p5 p6 p7 : Nat) : pLn (levTok X Y Z 8 4 p0 p1 p2 p3 p4 p5 p6 p7) = .ok ⟨1, 0, false, [], num 1000000, want 8 4 X Y Z, 0⟩ 8 := by kernel_rfl
theorem levp_8_5 (X Y Z : Int) (p0 p1 p2 p3 p4 p5 p6 p7 : Nat) : pLn (levTok X Y Z 8 5 p0 p1 p2 p3 p4 p5 p6 p7) = .ok ⟨1, 0, false, [], num 1000000, want 8 5 X Y Z, 0⟩ 8 := by kernel_rfl
theorem levp_8_6 (X Y Z : Int) (p0 p1 p2 p3 p4 p5 p6 p7 : Nat) : pLn (levTok X Y Z 8 6 p0 p1 p2 p3 p4 p5 p6 p7) = .ok ⟨1, 0, false, [], num 1000000, want 8 6 X Y Z, 0⟩ 8 := by kernel_rfl
theorem levp_8_7 (X Y Z : Int) (p0 p1 p2 p3 p4 p5 p6 p7 : Nat) : pLn (levTok X Y Z 8 7 p0 p1 p2 p3 p4 p5 p6 p7) = .ok ⟨1, 0, false, [], num 1000000, want 8 7 X Y Z, 0⟩ 8 := by kernel_rfl
theorem levp_8_8 (X Y Z : Int) (p0 p1 p2 p3 p4 p5 p6 p7 : Nat) : pLn (levTok X Y Z 8 8 p0 p1 p2 p3 p4 p5 p6 p7) = .ok ⟨1, 0, false, [], num 1000000, want 8 8 X Y Z, 0⟩ 8 := by kernel_rfl
theorem levp_8_9 (X Y Z : Int) (p0 p1 p2 p3 p4 p5 p6 p7 : Nat) : pLn (levTok X Y Z 8 9 p0 p1 p2 p3 p4 p5 p6 p7) = .ok ⟨1, 0, false, [], num 1000000, want 8 9 X Y Z, 0⟩ 8 := by kernel_rfl
theorem levp_9_0 (X Y Z : Int) (p0 p1 p2 p3 p4 p5 p6 p7 : Nat) : pLn (levTok X Y Z 9 0 p0 p1 p2 p3 p4 p5 p6 p7) = .ok ⟨1, 0, false, [], num 1000000, want 9 0 X Y Z, 0⟩ 8 := by kernel_rfl
theorem levp_9_1 (X Y Z : Int) (p0 p1 p2 p3 p4 p5 p6 p7 : Nat) : pLn (levTok X Y Z 9 1 p0 p1 p2 p3 p4 p5 p6 p7) = .ok ⟨1, 0, false, [], num 1000000, want 9 1 X Y Z, 0⟩ 8 := by kernel_rfl
theorem levp_9_2 (X Y Z : Int) (p0 p1 p2 p3 p4 p5 p6 p7 : Nat) : pLn (levTok X Y Z 9 2 p0 p1 p2 p3 p4 p5 p6 p7) = .ok ⟨1, 0, false, [], num 1000000, want 9 2 X Y Z, 0⟩ 8 := by kernel_rfl
theorem levp_9_3 (X Y Z : Int) (p0 p1 p2 p3 p4 p5 p6 p7 : Nat) : pLn (levTok X Y Z 9 3 p0 p1 p2 p3 p4 p5 p6 p7) = .ok ⟨1, 0, false, [], num 1000000, want 9 3 X Y Z, 0⟩ 8 := by kernel_rfl
theorem levp_9_4 (X Y Z : Int) (p0 p1 p2 p3 p4 p5 p6 p7 : Nat) : pLn (levTok X Y Z 9 4 p0 p1 p2 p3 p4 p5 p6 p7) = .ok ⟨1, 0, false, [], num 1000000, want 9 4 X Y Z, 0⟩ 8 := by kernel_rfl
theorem levp_9_5 (X Y Z : Int) (p0 p1 p2 p3 p4 p5 p6 p7 : Nat) : pLn (levTok X Y Z 9 5 p0 p1 p2 p3 p4 p5 p6 p7) = .ok ⟨1, 0, false, [], num 1000000, want 9 5 X Y Z, 0⟩ 8 := by kernel_rfl
theorem levp_9_6 (X Y Z : Int) (p0 p1 p2 p3 p4 p5 p6 p7 : Nat) : pLn (levTok X Y Z 9 6 p0 p1 p2 p3 p4 p5 p6 p7) = .ok ⟨1, 0, false, [], num 1000000, want 9 6 X Y Z, 0⟩ 8 := by kernel_rfl
theorem levp_9_7 (X Y Z : Int) (p0 p1 p2 p3 p4 p5 p6 p7 : Nat) : pLn (levTok X Y Z 9 7 p0 p1 p2 p3 p4 p5 p6 p7) = .ok ⟨1, 0, false, [], num 1000000, want 9 7 X Y Z, 0⟩ 8 := by kernel_rfl
theorem levp_9_8 (X Y Z : Int) (p0 p1 p2 p3 p4 p5 p6 p7 : Nat) : pLn (levTok X Y Z 9 8 p0 p1 p2 p3 p4 p5 p6 p7) = .ok ⟨1, 0, false, [], num 1000000, want 9 8 X Y Z, 0⟩ 8 := by kernel_rfl
theorem levp_9_9 (X Y Z : Int) (p0 p1 p2 p3 p4 p5 p6 p7 : Nat) : pLn (levTok X Y Z 9 9 p0 p1 p2 p3 p4 p5 p6 p7) = .ok ⟨1, 0, false, [], num 1000000, want 9 9 X Y Z, 0⟩ 8 := by kernel_rfl
theorem levp_3_3 (X Y Z : Int) (p0 p1 p2 p3 p4 p5 p6 p7 : Nat) : pLn (levTok X Y Z 3 3 p0 p1 p2 p3 p4 p5 p6 p7) = .bad 6 := by kernel_rfl
theorem levp_3_4 (X Y Z : Int) (p0 p1 p2 p3 p4 p5 p6 p7 : Nat) : pLn (levTok X Y Z 3 4 p0 p1 p2 p3 p4 p5 p6 p7) = .bad 6 := by kernel_rfl
theorem levp_4_3 (X Y Z : Int) (p0 p1 p2 p3 p4 p5 p6 p7 : Nat) : pLn (levTok X Y Z 4 3 p0 p1 p2 p3 p4 p5 p6 p7) = .bad 6 := by kernel_rfl
theorem levp_4_4 (X Y Z : Int) (p0 p1 p2 p3 p4 p5 p6 p7 : Nat) : pLn (levTok X Y Z 4 4 p0 p1 p2 p3 p4 p5 p6 p7) = .bad 6 := by kernel_rfl
theorem levp (i k : Nat) (hi : i < 10) (hk : k < 10) (X Y Z : Int) (p0 p1 p2 p3 p4 p5 p6 p7 : Nat) : pLn (levTok X Y Z i k p0 p1 p2 p3 p4 p5 p6 p7) = if lvN i = 2 ∧ lvN k = 2 then .bad 6 else .ok ⟨1, 0, false, [], num 1000000, want i k X Y Z, 0⟩ 8 := by
  match i, k, hi, hk with
  | 0, 0, _, _ => rw [if_neg (by decide)]; exact levp_0_0 X Y Z p0 p1 p2 p3 p4 p5 p6 p7
  | 0, 1, _, _ => rw [if_neg (by decide)]; exact levp_0_1 X Y Z p0 p1 p2 p3 p4 p5 p6 p7
  | 0, 2, _, _ => rw [if_neg (by decide)]; exact levp_0_2 X Y Z p0 p1 p2 p3 p4 p5 p6 p7
  | 0, 3, _, _ => rw [if_neg (by decide)]; exact levp_0_3 X Y Z p0 p1 p2 p3 p4 p5 p6 p7
  | 0, 4, _, _ => rw [if_neg (by decide)]; exact levp_0_4 X Y Z p0 p1 p2 p3 p4 p5 p6 p7
  | 0, 5, _, _ => rw [if_neg (by decide)]; exact levp_0_5 X Y Z p0 p1 p2 p3 p4 p5 p6 p7
  | 0, 6, _, _ => rw [if_neg (by decide)]; exact levp_0_6 X Y Z p0 p1 p2 p3 p4 p5 p6 p7
  | 0, 7, _, _ => rw [if_neg (by decide)]; exact levp_0_7 X Y Z p0 p1 p2 p3 p4 p5 p6 p7
  | 0, 8, _, _ => rw [if_neg (by decide)]; exact levp_0_8 X Y Z p0 p1 p2 p3 p4 p5 p6 p7
  | 0, 9, _, _ => rw [if_neg (by decide)]; exact levp_0_9 X Y Z p0 p1 p2 p3 p4 p5 p6 p7
  | 0, k + 10, _, h => exact absurd h (by omega)
  | 1, 0, _, _ => rw [if_neg (by decide)]; exact levp_1_0 X Y Z p0 p1 p2 p3 p4 p5 p6 p7
  | 1, 1, _, _ => rw [if_neg (by decide)]; exact levp_1_1 X Y Z p0 p1 p2 p3 p4 p5 p6 p7
  | 1, 2, _, _ => rw [if_neg (by decide)]; exact levp_1_2 X Y Z p0 p1 p2 p3 p4 p5 p6 p7
  | 1, 3, _, _ => rw [if_neg (by decide)]; exact levp_1_3 X Y Z p0 p1 p2 p3 p4 p5 p6 p7
  | 1, 4, _, _ => rw [if_neg (by decide)]; exact levp_1_4 X Y Z p0 p1 p2 p3 p4 p5 p6 p7
  | 1, 5, _, _ => rw [if_neg (by decide)]; exact levp_1_5 X Y Z p0 p1 p2 p3 p4 p5 p6 p7
  | 1, 6, _, _ => rw [if_neg (by decide)]; exact levp_1_6 X Y Z p0 p1 p2 p3 p4 p5 p6 p7
  | 1, 7, _, _ => rw [if_neg (by decide)]; exact levp_1_7 X Y Z p0 p1 p2 p3 p4 p5 p6 p7
  | 1, 8, _, _ => rw [if_neg (by decide)]; exact levp_1_8 X Y Z p0 p1 p2 p3 p4 p5 p6 p7
  | 1, 9, _, _ => rw [if_neg (by decide)]; exact levp_1_9 X Y Z p0 p1 p2 p3 p4 p5 p6 p7
  | 1, k + 10, _, h => exact absurd h (by omega)
  | 2, 0, _, _ => rw [if_neg (by decide)]; exact levp_2_0 X Y Z p0 p1 p2 p3 p4 p5 p6 p7
  | 2, 1, _, _ => rw [if_neg (by decide)]; exact levp_2_1 X Y Z p0 p1 p2 p3 p4 p5 p6 p7
  | 2, 2, _, _ => rw [if_neg (by decide)]; exact levp_2_2 X Y Z p0 p1 p2 p3 p4 p5 p6 p7
  | 2, 3, _, _ => rw [if_neg (by decide)]; exact levp_2_3 X Y Z p0 p1 p2 p3 p4 p5 p6 p7
  | 2, 4, _, _ => rw [if_neg (by decide)]; exact levp_2_4 X Y Z p0 p1 p2 p3 p4 p5 p6 p7
  | 2, 5, _, _ => rw [if_neg (by decide)]; exact levp_2_5 X Y Z p0 p1 p2 p3 p4 p5 p6 p7
  | 2, 6, _, _ => rw [if_neg (by decide)]; exact levp_2_6 X Y Z p0 p1 p2 p3 p4 p5 p6 p7
  | 2, 7, _, _ => rw [if_neg (by decide)]; exact levp_2_7 X Y Z p0 p1 p2 p3 p4 p5 p6 p7
  | 2, 8, _, _ => rw [if_neg (by decide)]; exact levp_2_8 X Y Z p0 p1 p2 p3 p4 p5 p6 p7
  | 2, 9, _, _ => rw [if_neg (by decide)]; exact levp_2_9 X Y Z p0 p1 p2 p3 p4 p5 p6 p7
  | 2, k + 10, _, h => exact absurd h (by omega)
  | 3, 0, _, _ => rw [if_neg (by decide)]; exact levp_3_0 X Y Z p0 p1 p2 p3 p4 p5 p6 p7
  | 3, 1, _, _ => rw [if_neg (by decide)]; exact levp_3_1 X Y Z p0 p1 p2 p3 p4 p5 p6 p7
  | 3, 2, _, _ => rw [if_neg (by decide)]; exact levp_3_2 X Y Z p0 p1 p2 p3 p4 p5 p6 p7
  | 3, 3, _, _ => rw [if_pos ⟨rfl, rfl⟩]; exact levp_3_3 X Y Z p0 p1 p2 p3 p4 p5 p6 p7
  | 3, 4, _, _ => rw [if_pos ⟨rfl, rfl⟩]; exact levp_3_4 X Y Z p0 p1 p2 p3 p4 p5 p6 p7
  | 3, 5, _, _ => rw [if_neg (by decide)]; exact levp_3_5 X Y Z p0 p1 p2 p3 p4 p5 p6 p7
  | 3, 6, _, _ => rw [if_neg (by decide)]; exact levp_3_6 X Y Z p0 p1 p2 p3 p4 p5 p6 p7
  | 3, 7, _, _ => rw [if_neg (by decide)]; exact levp_3_7 X Y Z p0 p1 p2 p3 p4 p5 p6 p7
  | 3, 8, _, _ => rw [if_neg (by decide)]; exact levp_3_8 X Y Z p0 p1 p2 p3 p4 p5 p6 p7
  | 3, 9, _, _ => rw [if_neg (by decide)]; exact levp_3_9 X Y Z p0 p1 p2 p3 p4 p5 p6 p7
  | 3, k + 10, _, h => exact absurd h (by omega)
  | 4, 0, _, _ => rw [if_neg (by decide)]; exact levp_4_0 X Y Z p0 p1 p2 p3 p4 p5 p6 p7
  | 4, 1, _, _ => rw [if_neg (by decide)]; exact levp_4_1 X Y Z p0 p1 p2 p3 p4 p5 p6 p7
  | 4, 2, _, _ => rw [if_neg (by decide)]; exact levp_4_2 X Y Z p0 p1 p2 p3 p4 p5 p6 p7
  | 4, 3, _, _ => rw [if_pos ⟨rfl, rfl⟩]; exact levp_4_3 X Y Z p0 p1 p2 p3 p4 p5 p6 p7
  | 4, 4, _, _ => rw [if_pos ⟨rfl, rfl⟩]; exact levp_4_4 X Y Z p0 p1 p2 p3 p4 p5 p6 p7
  | 4, 5, _, _ => rw [if_neg (by decide)]; exact levp_4_5 X Y Z p0 p1 p2 p3 p4 p5 p6 p7
  | 4, 6, _, _ => rw [if_neg (by decide)]; exact levp_4_6 X Y Z p0 p1 p2 p3 p4 p5 p6 p7
  | 4, 7, _, _ => rw [if_neg (by decide)]; exact levp_4_7 X Y Z p0 p1 p2 p3 p4 p5 p6 p7
  | 4, 8, _, _ => rw [if_neg (by decide)]; exact levp_4_8 X Y Z p0 p1 p2 p3 p4 p5 p6 p7
  | 4, 9, _, _ => rw [if_neg (by decide)]; exact levp_4_9 X Y Z p0 p1 p2 p3 p4 p5 p6 p7
  | 4, k + 10, _, h => exact absurd h (by omega)
  | 5, 0, _, _ => rw [if_neg (by decide)]; exact levp_5_0 X Y Z p0 p1 p2 p3 p4 p5 p6 p7
  | 5, 1, _, _ => rw [if_neg (by decide)]; exact levp_5_1 X Y Z p0 p1 p2 p3 p4 p5 p6 p7
  | 5, 2, _, _ => rw [if_neg (by decide)]; exact levp_5_2 X Y Z p0 p1 p2 p3 p4 p5 p6 p7
  | 5, 3, _, _ => rw [if_neg (by decide)]; exact levp_5_3 X Y Z p0 p1 p2 p3 p4 p5 p6 p7
  | 5, 4, _, _ => rw [if_neg (by decide)]; exact levp_5_4 X Y Z p0 p1 p2 p3 p4 p5 p6 p7
  | 5, 5, _, _ => rw [if_neg (by decide)]; exact levp_5_5 X Y Z p0 p1 p2 p3 p4 p5 p6 p7
  | 5, 6, _, _ => rw [if_neg (by decide)]; exact levp_5_6 X Y Z p0 p1 p2 p3 p4 p5 p6 p7
  | 5, 7, _, _ => rw [if_neg (by decide)]; exact levp_5_7 X Y Z p0 p1 p2 p3 p4 p5 p6 p7
  | 5, 8, _, _ => rw [if_neg (by decide)]; exact levp_5_8 X Y Z p0 p1 p2 p3 p4 p5 p6 p7
  | 5, 9, _, _ => rw [if_neg (by decide)]; exact levp_5_9 X Y Z p0 p1 p2 p3 p4 p5 p6 p7
  | 5, k + 10, _, h => exact absurd h (by omega)
  | 6, 0, _, _ => rw [if_neg (by decide)]; exact levp_6_0 X Y Z p0 p1 p2 p3 p4 p5 p6 p7
  | 6, 1, _, _ => rw [if_neg (by decide)]; exact levp_6_1 X Y Z p0 p1 p2 p3 p4 p5 p6 p7
  | 6, 2, _, _ => rw [if_neg (by decide)]; exact levp_6_2 X Y Z p0 p1 p2 p3 p4 p5 p6 p7
  | 6, 3, _, _ => rw [if_neg (by decide)]; exact levp_6_3 X Y Z p0 p1 p2 p3 p4 p5 p6 p7
  | 6, 4, _, _ => rw [if_neg (by decide)]; exact levp_6_4 X Y Z p0 p1 p2 p3 p4 p5 p6 p7
  | 6, 5, _, _ => rw [if_neg (by decide)]; exact levp_6_5 X Y Z p0 p1 p2 p3 p4 p5 p6 p7
  | 6, 6, _, _ => rw [if_neg (by decide)]; exact levp_6_6 X Y Z p0 p1 p2 p3 p4 p5 p6 p7
  | 6, 7, _, _ => rw [if_neg (by decide)]; exact levp_6_7 X Y Z p0 p1 p2 p3 p4 p5 p6 p7
  | 6, 8, _, _ => rw [if_neg (by decide)]; exact levp_6_8 X Y Z p0 p1 p2 p3 p4 p5 p6 p7
  | 6, 9, _, _ => rw [if_neg (by decide)]; exact levp_6_9 X Y Z p0 p1 p2 p3 p4 p5 p6 p7
  | 6, k + 10, _, h => exact absurd h (by omega)
  | 7, 0, _, _ => rw [if_neg (by decide)]; exact levp_7_0 X Y Z p0 p1 p2 p3 p4 p5 p6 p7
  | 7, 1, _, _ => rw [if_neg (by decide)]; exact levp_7_1 X Y Z p0 p1 p2 p3 p4 p5 p6 p7
  | 7, 2, _, _ => rw [if_neg (by decide)]; exact levp_7_2 X Y Z p0 p1 p2 p3 p4 p5 p6 p7
  | 7, 3, _, _ => rw [if_neg (by decide)]; exact levp_7_3 X Y Z p0 p1 p2 p3 p4 p5 p6 p7
  | 7, 4, _, _ => rw [if_neg (by decide)]; exact levp_7_4 X Y Z p0 p1 p2 p3 p4 p5 p6 p7
  | 7, 5, _, _ => rw [if_neg (by decide)]; exact levp_7_5 X Y Z p0 p1 p2 p3 p4 p5 p6 p7
  | 7, 6, _, _ => rw [if_neg (by decide)]; exact levp_7_6 X Y Z p0 p1 p2 p3 p4 p5 p6 p7
  | 7, 7, _, _ => rw [if_neg (by decide)]; exact levp_7_7 X Y Z p0 p1 p2 p3 p4 p5 p6 p7
  | 7, 8, _, _ => rw [if_neg (by decide)]; exact levp_7_8 X Y Z p0 p1 p2 p3 p4 p5 p6 p7
  | 7, 9, _, _ => rw [if_neg (by decide)]; exact levp_7_9 X Y Z p0 p1 p2 p3 p4 p5 p6 p7
  | 7, k + 10, _, h => exact absurd h (by omega)
  | 8, 0, _, _ => rw [if_neg (by decide)]; exact levp_8_0 X Y Z p0 p1 p2 p3 p4 p5 p6 p7
  | 8, 1, _, _ => rw [if_neg (by decide)]; exact levp_8_1 X Y Z p0 p1 p2 p3 p4 p5 p6 p7
  | 8, 2, _, _ => rw [if_neg (by decide)]; exact levp_8_2 X Y Z p0 p1 p2 p3 p4 p5 p6 p7
  | 8, 3, _, _ => rw [if_neg (by decide)]; exact levp_8_3 X Y Z p0 p1 p2 p3 p4 p5 p6 p7
  | 8, 4, _, _ => rw [if_neg (by decide)]; exact levp_8_4 X Y Z p0 p1 p2 p3 p4 p5 p6 p7
  | 8, 5, _, _ => rw [if_neg (by decide)]; exact levp_8_5 X Y Z p0 p1 p2 p3 p4 p5 p6 p7
  | 8, 6, _, _ => rw [if_neg (by decide)]; exact levp_8_6 X Y Z p0 p1 p2 p3 p4 p5 p6 p7
  | 8, 7, _, _ => rw [if_neg (by decide)]; exact levp_8_7 X Y Z p0 p1 p2 p3 p4 p5 p6 p7
  | 8, 8, _, _ => rw [if_neg (by decide)]; exact levp_8_8 X Y Z p0 p1 p2 p3 p4 p5 p6 p7
  | 8, 9, _, _ => rw [if_neg (by decide)]; exact levp_8_9 X Y Z p0 p1 p2 p3 p4 p5 p6 p7
  | 8, k + 10, _, h => exact absurd h (by omega)
  | 9, 0, _, _ => rw [if_neg (by decide)]; exact levp_9_0 X Y Z p0 p1 p2 p3 p4 p5 p6 p7
  | 9, 1, _, _ => rw [if_neg (by decide)]; exact levp_9_1 X Y Z p0 p1 p2 p3 p4 p5 p6 p7
  | 9, 2, _, _ => rw [if_neg (by decide)]; exact levp_9_2 X Y Z p0 p1 p2 p3 p4 p5 p6 p7
  | 9, 3, _, _ => rw [if_neg (by decide)]; exact levp_9_3 X Y Z p0 p1 p2 p3 p4 p5 p6 p7
  | 9, 4, _, _ => rw [if_neg (by decide)]; exact levp_9_4 X Y Z p0 p1 p2 p3 p4 p5 p6 p7
  | 9, 5, _, _ => rw [if_neg (by decide)]; exact levp_9_5 X Y Z p0 p1 p2 p3 p4 p5 p6 p7
  | 9, 6, _, _ => rw [if_neg (by decide)]; exact levp_9_6 X Y Z p0 p1 p2 p3 p4 p5 p6 p7
  | 9, 7, _, _ => rw [if_neg (by decide)]; exact levp_9_7 X Y Z p0 p1 p2 p3 p4 p5 p6 p7
  | 9, 8, _, _ => rw [if_neg (by decide)]; exact levp_9_8 X Y Z p0 p1 p2 p3 p4 p5 p6 p7
  | 9, 9, _, _ => rw [if_neg (by decide)]; exact levp_9_9 X Y Z p0 p1 p2 p3 p4 p5 p6 p7
  | 9, k + 10, _, h => exact absurd h (by omega)
  | i + 10, _, h, _ => exact absurd h (by omega)
theorem levT_len {X Y Z : Int} (x0 : 0 ≤ X) (x1 : X < 1000000000000000) (y0 : 0 ≤ Y) (y1 : Y < 1000000000000000) (z0 : 0 ≤ Z) (z1 : Z < 1000000000000000) {o1 o2 : Nat} (h1 : o1 < 26) (h2 : o2 < 26) : (levT X Y Z o1 o2).length ≤ 200 := by
  have a := fmtp_16 x0 x1; have b := fmtp_16 y0 y1; have c := fmtp_16 z0 z1; have d := onm_len o1 h1; have e := onm_len o2 h2
  unfold levT; simp; omega
theorem lev_ln {X Y Z : Int} (x0 : 0 ≤ X) (x1 : X < 1000000000000000) (y0 : 0 ≤ Y) (y1 : Y < 1000000000000000) (z0 : 0 ≤ Z) (z1 : Z < 1000000000000000) (i k : Nat) (hi : i < 10) (hk : k < 10) :
    (lvN i = 2 ∧ lvN k = 2 → ∃ m, lnR (levT X Y Z (opN i) (opN k)) = (zb, m, 2)) ∧ (¬ (lvN i = 2 ∧ lvN k = 2) → lnR (levT X Y Z (opN i) (opN k)) = (⟨1, 0, false, [], num 1000000, want i k X Y Z, 0⟩, (levT X Y Z (opN i) (opN k)).length, 0)) := by
  obtain ⟨a1, a2, _⟩ := opN_ok i hi
  obtain ⟨c1, c2, _⟩ := opN_ok k hk
  have hl := levT_len x0 x1 y0 y1 z0 z1 a1 c1
  obtain ⟨ts, e, m⟩ := lxd_lev x0 x1 y0 y1 z0 z1 a1 a2 c1 c2 [] 0 (.inl rfl)
  rw [List.append_nil, lx_nil] at e
  have e' : lx (levT X Y Z (opN i) (opN k)) 0 = .ok ts := by rw [e]; simp [Res.pre]
  obtain ⟨p0, p1, p2, p3, p4, p5, p6, p7, rfl⟩ := levTok_of m
  have hp := levp i k hi hk X Y Z p0 p1 p2 p3 p4 p5 p6 p7
  have hw := want_ok x0 x1 y0 y1 z0 z1 i k hi hk
  have hv : vldb ⟨1, 0, false, [], num 1000000, want i k X Y Z, 0⟩ = true := (dwn1 (lab := 0) (sk := false) (m := 1000000) (by decide) (by decide) (by decide) hw.1 hw.2).v
  refine ⟨fun h => ?_, fun h => ?_⟩
  · rw [if_pos h] at hp
    refine ⟨tp (levTok X Y Z i k p0 p1 p2 p3 p4 p5 p6 p7) (levT X Y Z (opN i) (opN k)).length 6, ?_⟩
    unfold lnR
    rw [if_neg (by omega), e']
    simp only [hp]
  · rw [if_neg h] at hp
    unfold lnR
    rw [if_neg (by omega), e']
    simp only [hp, hv, if_true]
end Sy
end Go.Proofs.YtbcbnkapipimmaaGreatDoor

