/- SyntaxDeep of layer 6: an expression may be sixteen deep and no deeper, and a block has at most twenty-four words.
   Conditions: the five listed tables lie as the program's own text lays them (the card ties them); every input. -/
import Derived.Test.YthfcimfoinidbaaDoorZd4
import Derived.Test.YthfcimfoinidbaaDoorZd7
import Derived.Test.YthfcimfoinidbaaDoorZd25

set_option linter.unusedVariables false
set_option linter.unusedSimpArgs false
namespace Go.Proofs.YthfcimfoinidbaaDoor
open Go.ChangeShapes Go.WideShapes Go.ChangeAt Go.RowKit
theorem BlkB.kx {w : World} {S : Nat → Prop} {b : Sy.Bl} {wa la xa : Option Addr} {wc lc xc : Nat} (h : BlkB w S b (bcs b wa wc la lc xa xc)) : KidsB w S xa xc b.x.ks := by
  obtain ⟨_, _, _, _, xa', xc', e, _, _, hX⟩ := h
  have e9 := congrArg (fun a => a[9]?) e
  simp [bcs] at e9
  obtain ⟨rfl, rfl⟩ := e9
  exact hX
set_option maxRecDepth 100000 in
set_option maxHeartbeats 4000000 in
theorem walk_syntaxDeep (a0 : Int) (x0 : -9223372036854775808 ≤ a0) (y0 : a0 ≤ 9223372036854775807) (a1 : Int) (x1 : -9223372036854775808 ≤ a1) (y1 : a1 ≤ 9223372036854775807) (w : World) (hb : Tb w) (ht : Tn w) (ho : Ow w) :
    Calls Tryd.prog 4 #[.int .i64 a0, .int .i64 a1] w fun e w' => e = .returned (.bool true) ∧ Qw w w' := by
  have aw : ∀ w1, Qw w w1 → _ := fun w1 q => awake6 w1 (ht.kept q) (ho.kept q) (hb.kept q)
  have AW := Lib.hid aw
  have HN := Lib.hid ht
  have HO := Lib.hid ho
  have QQ := Lib.hid (Qw.refl w)
  have m1 := fun w => modW a0 24 x0 y0 (by decide) (by decide) w
  have m2 := fun w => modW a1 30 x1 y1 (by decide) (by decide) w
  obtain ⟨n, hn0⟩ : ∃ n : Nat, a0 % 24 = n := ⟨(a0 % 24).toNat, by omega⟩
  obtain ⟨m, hm0⟩ : ∃ n : Nat, a1 % 30 = n := ⟨(a1 % 30).toNat, by omega⟩
  have hn24 : n < 24 := by omega
  have hm30 : m < 30 := by omega
  rw [hn0] at m1
  rw [hm0] at m2
  have M1 := Lib.hid m1
  have M2 := Lib.hid m2
  clear ht ho hb aw m1 m2 hn0 hm0
  by_cases hn : n ≤ 15
  · by_cases hm : m ≤ 24
    · have e1 : Sy.lnR (Sy.deepT n) = ((Sy.dB n), (Sy.deepT n).length, 0) := by rw [Sy.deep_ln n hn24, Sy.dB_vld]; simp [hn]
      have e2 : Sy.lnR (Sy.wordT m) = ((Sy.wB m), (Sy.wordT m).length, 0) := by rw [Sy.word_ln m hm30, Sy.wB_vld]; simp [hm]
      have c1 : ∀ w1, Qw w w1 → _ := fun w1 q => lineW (s := bs (Sy.deepT n)) (by rw [bs_size, Sy.deepT_len]; omega) e1 w1 (HN.out.kept q) (HO.out.kept q)
      have c2 : ∀ w1, Qw w w1 → _ := fun w1 q => lineW (s := bs (Sy.wordT m)) (by rw [bs_size, Sy.wordT_len]; omega) e2 w1 (HN.out.kept q) (HO.out.kept q)
      have cd : ∀ (w1 : World) (p0 : Option Addr) (p1 : Nat) (p2 : Option Addr) (p3 : Nat) (p4 : Option Addr) (p5 : Nat) (R : Nat → Prop), BlkB w1 R (Sy.dB n) (bcs (Sy.dB n) p0 p1 p2 p3 p4 p5) → Calls Tryd.prog 15 #[.agg #[.int .i64 (Sy.dB n).x.op, .int .i64 (Sy.dB n).x.n, .slice p4 (Sy.dB n).x.ks.length p5]] w1 fun e w' => e = .returned (.int .i64 ((n : Int) + 1)) ∧ Qw w1 w' := fun w1 p0 p1 p2 p3 p4 p5 R h => by
        have hX := BlkB.kx h
        have := sv_depth (Sy.dB n).x.op (Sy.dB n).x.n (Sy.dB n).x.ks _ _ R w1 hX
        rw [show (Sy.Ex.mk (Sy.dB n).x.op (Sy.dB n).x.n (Sy.dB n).x.ks) = Sy.dx n by show _ = (Sy.dB n).x; cases (Sy.dB n).x; rfl, Sy.dx_dpt, show ((min (n + 1) 17 : Nat) : Int) = (n : Int) + 1 by omega] at this
        exact this
      have CD := Lib.hid cd
      clear cd
      have hn1 : (n : Int) + 1 ≤ 16 := by omega
      have hm1 : (m : Int) ≤ 24 := by omega
      have hwl : (((Sy.wB m).words.length : Nat) : Int) = (m : Int) := by simp [Sy.wB]
      have hwb : ((((Sy.wB m).words.length : Nat) : Int) == (m : Int)) = true := by rw [hwl]; simp
      have C1 := Lib.hid c1
      have C2 := Lib.hid c2
      clear c1 c2 e1 e2
      generalize Sy.dB n = b1 at *
      generalize Sy.wB m = b2 at *
      go_enter Tryd.func4, Tryd.ntmps4
      go_wp2_with (first
          | (go_at_call 14; ((with_reducible refine (M1.out _).mono ?_); rintro e w' ⟨rfl, rfl⟩))
          | (go_at_call 14; ((with_reducible refine (M2.out _).mono ?_); rintro e w' ⟨rfl, rfl⟩)))
      go_loopw [5, 6] (fun sv iv wr => ∃ i : Nat, sv = .string (bs (Sy.deepT i)) ∧ iv = .int .i64 (i : Int) ∧ i ≤ n ∧ Hid (Qw w wr)) (fun _ iv _ => n - (intOf iv).toNat)
      case atStart => exact ⟨0, rfl, rfl, Nat.zero_le _, QQ⟩
      case round =>
        clear QQ
        obtain ⟨i, rfl, rfl, hi, QQ⟩ := hrel
        by_cases hlt : i < n
        · have eC : bs (Sy.deepT i) ++ bs [43, 49] = bs (Sy.deepT (i + 1)) := by rw [bs_app, Sy.deepT_succ]
          have hz1 : ¬ 9223372036854775807 < (bs (Sy.deepT i)).size + 2 := by rw [bs_size, Sy.deepT_len]; omega
          have hi2 : (i : Int) < (n : Int) := by omega
          generalize bs (Sy.deepT i) = sv at *
          go_wp2_with fail
          go_roundw
          case rel => exact ⟨i + 1, by rw [← eC]; rfl, by go_num, by omega, QQ⟩
          case measure => simp [intOf]; omega
        · obtain rfl : n = i := by omega
          have hi2 : ¬ ((n : Nat) : Int) < (n : Int) := by omega
          generalize bs (Sy.deepT n) = tn at *
          go_upto_region 10 with (first
              | (go_at_call 10; ((with_reducible refine (C1.out _ (Qw.trans QQ.out (by unfold Qw; repeat (first | exact Below.refl _ _ | refine Below.alloc ?_ (Nat.le_refl _) _ | refine Below.drew ?_)))).mono ?_); rintro e w' ⟨p0, p1, p2, p3, p4, p5, rfl, hb, q⟩; replace QQ := Lib.hid (Qw.trans (Qw.trans QQ.out (by unfold Qw; repeat (first | exact Below.refl _ _ | refine Below.alloc ?_ (Nat.le_refl _) _ | refine Below.drew ?_))) q); have Hp := Lib.hid hb; clear hb; have XX : Bx (w'.alloc (.cells #[.int .i64 b1.kind, .int .i64 b1.label, .bool b1.skip, .slice p0 b1.words.length p1, .int .i64 b1.left.op, .int .i64 b1.left.n, .slice p2 b1.left.ks.length p3, .int .i64 b1.x.op, .int .i64 b1.x.n, .slice p4 b1.x.ks.length p5, .int .i64 b1.n] 34)) w'.heap.size _ _ := Bx.new _ _ _; have Xp := Lib.hid XX; clear XX; clear q)))
          refine code_of (fun w2 => Hid (Bx w2 w'.heap.size #[.int .i64 b1.kind, .int .i64 b1.label, .bool b1.skip, .slice p0 b1.words.length p1, .int .i64 b1.left.op, .int .i64 b1.left.n, .slice p2 b1.left.ks.length p3, .int .i64 b1.x.op, .int .i64 b1.x.n, .slice p4 b1.x.ks.length p5, .int .i64 b1.n] 34) ∧ Hid (BlkB w2 (fun b => True) b1 (bcs b1 p0 p1 p2 p3 p4 p5)) ∧ Hid (Qw w w2)) ⟨Lib.hid (by repeat (first | exact Xp.out | refine Bx.alloc ?_ _ | refine Bx.drew ?_)), Lib.hid ((BlkB.kept Hp.out (by unfold Qw; repeat (first | exact Below.refl _ _ | refine Below.alloc ?_ (Nat.le_refl _) _ | refine Below.drew ?_))).go fun b _ _ => ⟨rfl, trivial⟩), Lib.hid (Qw.trans QQ.out (by unfold Qw; repeat (first | exact Below.refl _ _ | refine Below.alloc ?_ (Nat.le_refl _) _ | refine Below.drew ?_)))⟩ ?_
          clear Xp Hp QQ
          generalize w'.heap.size = P0
          rintro w2 ⟨Xp, Hp, QQ⟩
          go_loopw [10, 11] (fun sv iv wr => ∃ i : Nat, sv = .string (bs (Sy.wordT i)) ∧ iv = .int .i64 (i : Int) ∧ i ≤ m ∧ Hid (Qw w wr) ∧ Hid (Bx wr P0 #[.int .i64 b1.kind, .int .i64 b1.label, .bool b1.skip, .slice p0 b1.words.length p1, .int .i64 b1.left.op, .int .i64 b1.left.n, .slice p2 b1.left.ks.length p3, .int .i64 b1.x.op, .int .i64 b1.x.n, .slice p4 b1.x.ks.length p5, .int .i64 b1.n] 34) ∧ Hid (BlkB wr (fun b => True) b1 (bcs b1 p0 p1 p2 p3 p4 p5))) (fun _ iv _ => m - (intOf iv).toNat)
          case atStart => exact ⟨0, rfl, rfl, Nat.zero_le _, QQ, Xp, Hp⟩
          case round =>
            clear QQ Xp Hp
            obtain ⟨i, rfl, rfl, hi, QQ, Xp, Hp⟩ := hrel
            by_cases hlt : i < m
            · have eC : bs (Sy.wordT i) ++ bs [71, 49] = bs (Sy.wordT (i + 1)) := by rw [bs_app, Sy.wordT_succ]
              have hz1 : ¬ 9223372036854775807 < (bs (Sy.wordT i)).size + 2 := by rw [bs_size, Sy.wordT_len]; omega
              have hi2 : (i : Int) < (m : Int) := by omega
              generalize bs (Sy.wordT i) = sv at *
              go_wp2_with fail
              go_roundw
              case rel => exact ⟨i + 1, by rw [← eC]; rfl, by go_num, by omega, QQ, Xp, Hp⟩
              case measure => simp [intOf]; omega
            · obtain rfl : m = i := by omega
              have hi2 : ¬ ((m : Nat) : Int) < (m : Int) := by omega
              generalize bs (Sy.wordT m) = tm at *
              obtain ⟨p0, p1, p2, p3, p4, p5, p6, p7, p8, p9, p10⟩ := Bx.c11 Xp.out; have pl := Xp.out.lt
              go_wp2_with (first
                  | (go_at_call 10; ((with_reducible refine (C2.out _ (Qw.trans QQ.out (by unfold Qw; repeat (first | exact Below.refl _ _ | refine Below.alloc ?_ (Nat.le_refl _) _ | refine Below.drew ?_)))).mono ?_); rintro e w' ⟨q0, q1, q2, q3, q4, q5, rfl, hb, q⟩; replace Xp := Lib.hid (Bx.kept Xp.out (Qw.trans (by unfold Qw; repeat (first | exact Below.refl _ _ | refine Below.alloc ?_ (Nat.le_refl _) _ | refine Below.drew ?_)) q)); replace Hp := Lib.hid (BlkB.kept Hp.out (Qw.trans (by unfold Qw; repeat (first | exact Below.refl _ _ | refine Below.alloc ?_ (Nat.le_refl _) _ | refine Below.drew ?_)) q)); obtain ⟨p0, p1, p2, p3, p4, p5, p6, p7, p8, p9, p10⟩ := Bx.c11 Xp.out; have pl := Xp.out.lt; replace QQ := Lib.hid (Qw.trans (Qw.trans QQ.out (by unfold Qw; repeat (first | exact Below.refl _ _ | refine Below.alloc ?_ (Nat.le_refl _) _ | refine Below.drew ?_))) q); have Hq := Lib.hid hb; clear hb; have XX : Bx (w'.alloc (.cells #[.int .i64 b2.kind, .int .i64 b2.label, .bool b2.skip, .slice q0 b2.words.length q1, .int .i64 b2.left.op, .int .i64 b2.left.n, .slice q2 b2.left.ks.length q3, .int .i64 b2.x.op, .int .i64 b2.x.n, .slice q4 b2.x.ks.length q5, .int .i64 b2.n] 34)) w'.heap.size _ _ := Bx.new _ _ _; have Xq := Lib.hid XX; clear XX; clear q))
                  | (go_at_call 6; ((with_reducible refine (AW.out _ (Qw.trans QQ.out (by unfold Qw; repeat (first | exact Below.refl _ _ | refine Below.alloc ?_ (Nat.le_refl _) _ | refine Below.drew ?_)))).mono ?_); rintro e w' ⟨rfl, q⟩; replace Xp := Lib.hid (Bx.kept Xp.out (Qw.trans (by unfold Qw; repeat (first | exact Below.refl _ _ | refine Below.alloc ?_ (Nat.le_refl _) _ | refine Below.drew ?_)) q)); replace Hp := Lib.hid (BlkB.kept Hp.out (Qw.trans (by unfold Qw; repeat (first | exact Below.refl _ _ | refine Below.alloc ?_ (Nat.le_refl _) _ | refine Below.drew ?_)) q)); obtain ⟨p0, p1, p2, p3, p4, p5, p6, p7, p8, p9, p10⟩ := Bx.c11 Xp.out; have pl := Xp.out.lt; replace Xq := Lib.hid (Bx.kept Xq.out (Qw.trans (by unfold Qw; repeat (first | exact Below.refl _ _ | refine Below.alloc ?_ (Nat.le_refl _) _ | refine Below.drew ?_)) q)); replace Hq := Lib.hid (BlkB.kept Hq.out (Qw.trans (by unfold Qw; repeat (first | exact Below.refl _ _ | refine Below.alloc ?_ (Nat.le_refl _) _ | refine Below.drew ?_)) q)); obtain ⟨q0, q1, q2, q3, q4, q5, q6, q7, q8, q9, q10⟩ := Bx.c11 Xq.out; have ql := Xq.out.lt; replace QQ := Lib.hid (Qw.trans (Qw.trans QQ.out (by unfold Qw; repeat (first | exact Below.refl _ _ | refine Below.alloc ?_ (Nat.le_refl _) _ | refine Below.drew ?_))) q); clear q))
                  | (go_at_call 15; ((with_reducible refine (CD.out _ _ _ _ _ _ _ _ (BlkB.kept Hp.out (by unfold Qw; repeat (first | exact Below.refl _ _ | refine Below.alloc ?_ (Nat.le_refl _) _ | refine Below.drew ?_)))).mono ?_); rintro e w' ⟨rfl, q⟩; replace Xp := Lib.hid (Bx.kept Xp.out (Qw.trans (by unfold Qw; repeat (first | exact Below.refl _ _ | refine Below.alloc ?_ (Nat.le_refl _) _ | refine Below.drew ?_)) q)); replace Hp := Lib.hid (BlkB.kept Hp.out (Qw.trans (by unfold Qw; repeat (first | exact Below.refl _ _ | refine Below.alloc ?_ (Nat.le_refl _) _ | refine Below.drew ?_)) q)); obtain ⟨p0, p1, p2, p3, p4, p5, p6, p7, p8, p9, p10⟩ := Bx.c11 Xp.out; have pl := Xp.out.lt; replace Xq := Lib.hid (Bx.kept Xq.out (Qw.trans (by unfold Qw; repeat (first | exact Below.refl _ _ | refine Below.alloc ?_ (Nat.le_refl _) _ | refine Below.drew ?_)) q)); replace Hq := Lib.hid (BlkB.kept Hq.out (Qw.trans (by unfold Qw; repeat (first | exact Below.refl _ _ | refine Below.alloc ?_ (Nat.le_refl _) _ | refine Below.drew ?_)) q)); obtain ⟨q0, q1, q2, q3, q4, q5, q6, q7, q8, q9, q10⟩ := Bx.c11 Xq.out; have ql := Xq.out.lt; replace QQ := Lib.hid (Qw.trans (Qw.trans QQ.out (by unfold Qw; repeat (first | exact Below.refl _ _ | refine Below.alloc ?_ (Nat.le_refl _) _ | refine Below.drew ?_))) q); clear q)))
              go_ret
              exact ⟨rfl, QQ.out⟩
    · have e1 : Sy.lnR (Sy.deepT n) = ((Sy.dB n), (Sy.deepT n).length, 0) := by rw [Sy.deep_ln n hn24, Sy.dB_vld]; simp [hn]
      have e2 : Sy.lnR (Sy.wordT m) = (Sy.zb, 0, 10) := by rw [Sy.word_ln m hm30, Sy.wB_vld]; simp [hm]
      have c1 : ∀ w1, Qw w w1 → _ := fun w1 q => lineW (s := bs (Sy.deepT n)) (by rw [bs_size, Sy.deepT_len]; omega) e1 w1 (HN.out.kept q) (HO.out.kept q)
      have c2 : ∀ w1, Qw w w1 → _ := fun w1 q => lineW (s := bs (Sy.wordT m)) (by rw [bs_size, Sy.wordT_len]; omega) e2 w1 (HN.out.kept q) (HO.out.kept q)
      have cd : ∀ (w1 : World) (p0 : Option Addr) (p1 : Nat) (p2 : Option Addr) (p3 : Nat) (p4 : Option Addr) (p5 : Nat) (R : Nat → Prop), BlkB w1 R (Sy.dB n) (bcs (Sy.dB n) p0 p1 p2 p3 p4 p5) → Calls Tryd.prog 15 #[.agg #[.int .i64 (Sy.dB n).x.op, .int .i64 (Sy.dB n).x.n, .slice p4 (Sy.dB n).x.ks.length p5]] w1 fun e w' => e = .returned (.int .i64 ((n : Int) + 1)) ∧ Qw w1 w' := fun w1 p0 p1 p2 p3 p4 p5 R h => by
        have hX := BlkB.kx h
        have := sv_depth (Sy.dB n).x.op (Sy.dB n).x.n (Sy.dB n).x.ks _ _ R w1 hX
        rw [show (Sy.Ex.mk (Sy.dB n).x.op (Sy.dB n).x.n (Sy.dB n).x.ks) = Sy.dx n by show _ = (Sy.dB n).x; cases (Sy.dB n).x; rfl, Sy.dx_dpt, show ((min (n + 1) 17 : Nat) : Int) = (n : Int) + 1 by omega] at this
        exact this
      have CD := Lib.hid cd
      clear cd
      have hn1 : (n : Int) + 1 ≤ 16 := by omega
      have hm1 : ¬ (m : Int) ≤ 24 := by omega
      have C1 := Lib.hid c1
      have C2 := Lib.hid c2
      clear c1 c2 e1 e2
      generalize Sy.dB n = b1 at *
      generalize hz2 : Sy.zb = b2 at C2
      clear hz2
      go_enter Tryd.func4, Tryd.ntmps4
      go_wp2_with (first
          | (go_at_call 14; ((with_reducible refine (M1.out _).mono ?_); rintro e w' ⟨rfl, rfl⟩))
          | (go_at_call 14; ((with_reducible refine (M2.out _).mono ?_); rintro e w' ⟨rfl, rfl⟩)))
      go_loopw [5, 6] (fun sv iv wr => ∃ i : Nat, sv = .string (bs (Sy.deepT i)) ∧ iv = .int .i64 (i : Int) ∧ i ≤ n ∧ Hid (Qw w wr)) (fun _ iv _ => n - (intOf iv).toNat)
      case atStart => exact ⟨0, rfl, rfl, Nat.zero_le _, QQ⟩
      case round =>
        clear QQ
        obtain ⟨i, rfl, rfl, hi, QQ⟩ := hrel
        by_cases hlt : i < n
        · have eC : bs (Sy.deepT i) ++ bs [43, 49] = bs (Sy.deepT (i + 1)) := by rw [bs_app, Sy.deepT_succ]
          have hz1 : ¬ 9223372036854775807 < (bs (Sy.deepT i)).size + 2 := by rw [bs_size, Sy.deepT_len]; omega
          have hi2 : (i : Int) < (n : Int) := by omega
          generalize bs (Sy.deepT i) = sv at *
          go_wp2_with fail
          go_roundw
          case rel => exact ⟨i + 1, by rw [← eC]; rfl, by go_num, by omega, QQ⟩
          case measure => simp [intOf]; omega
        · obtain rfl : n = i := by omega
          have hi2 : ¬ ((n : Nat) : Int) < (n : Int) := by omega
          generalize bs (Sy.deepT n) = tn at *
          go_upto_region 10 with (first
              | (go_at_call 10; ((with_reducible refine (C1.out _ (Qw.trans QQ.out (by unfold Qw; repeat (first | exact Below.refl _ _ | refine Below.alloc ?_ (Nat.le_refl _) _ | refine Below.drew ?_)))).mono ?_); rintro e w' ⟨p0, p1, p2, p3, p4, p5, rfl, hb, q⟩; replace QQ := Lib.hid (Qw.trans (Qw.trans QQ.out (by unfold Qw; repeat (first | exact Below.refl _ _ | refine Below.alloc ?_ (Nat.le_refl _) _ | refine Below.drew ?_))) q); have Hp := Lib.hid hb; clear hb; have XX : Bx (w'.alloc (.cells #[.int .i64 b1.kind, .int .i64 b1.label, .bool b1.skip, .slice p0 b1.words.length p1, .int .i64 b1.left.op, .int .i64 b1.left.n, .slice p2 b1.left.ks.length p3, .int .i64 b1.x.op, .int .i64 b1.x.n, .slice p4 b1.x.ks.length p5, .int .i64 b1.n] 34)) w'.heap.size _ _ := Bx.new _ _ _; have Xp := Lib.hid XX; clear XX; clear q)))
          refine code_of (fun w2 => Hid (Bx w2 w'.heap.size #[.int .i64 b1.kind, .int .i64 b1.label, .bool b1.skip, .slice p0 b1.words.length p1, .int .i64 b1.left.op, .int .i64 b1.left.n, .slice p2 b1.left.ks.length p3, .int .i64 b1.x.op, .int .i64 b1.x.n, .slice p4 b1.x.ks.length p5, .int .i64 b1.n] 34) ∧ Hid (BlkB w2 (fun b => True) b1 (bcs b1 p0 p1 p2 p3 p4 p5)) ∧ Hid (Qw w w2)) ⟨Lib.hid (by repeat (first | exact Xp.out | refine Bx.alloc ?_ _ | refine Bx.drew ?_)), Lib.hid ((BlkB.kept Hp.out (by unfold Qw; repeat (first | exact Below.refl _ _ | refine Below.alloc ?_ (Nat.le_refl _) _ | refine Below.drew ?_))).go fun b _ _ => ⟨rfl, trivial⟩), Lib.hid (Qw.trans QQ.out (by unfold Qw; repeat (first | exact Below.refl _ _ | refine Below.alloc ?_ (Nat.le_refl _) _ | refine Below.drew ?_)))⟩ ?_
          clear Xp Hp QQ
          generalize w'.heap.size = P0
          rintro w2 ⟨Xp, Hp, QQ⟩
          go_loopw [10, 11] (fun sv iv wr => ∃ i : Nat, sv = .string (bs (Sy.wordT i)) ∧ iv = .int .i64 (i : Int) ∧ i ≤ m ∧ Hid (Qw w wr) ∧ Hid (Bx wr P0 #[.int .i64 b1.kind, .int .i64 b1.label, .bool b1.skip, .slice p0 b1.words.length p1, .int .i64 b1.left.op, .int .i64 b1.left.n, .slice p2 b1.left.ks.length p3, .int .i64 b1.x.op, .int .i64 b1.x.n, .slice p4 b1.x.ks.length p5, .int .i64 b1.n] 34) ∧ Hid (BlkB wr (fun b => True) b1 (bcs b1 p0 p1 p2 p3 p4 p5))) (fun _ iv _ => m - (intOf iv).toNat)
          case atStart => exact ⟨0, rfl, rfl, Nat.zero_le _, QQ, Xp, Hp⟩
          case round =>
            clear QQ Xp Hp
            obtain ⟨i, rfl, rfl, hi, QQ, Xp, Hp⟩ := hrel
            by_cases hlt : i < m
            · have eC : bs (Sy.wordT i) ++ bs [71, 49] = bs (Sy.wordT (i + 1)) := by rw [bs_app, Sy.wordT_succ]
              have hz1 : ¬ 9223372036854775807 < (bs (Sy.wordT i)).size + 2 := by rw [bs_size, Sy.wordT_len]; omega
              have hi2 : (i : Int) < (m : Int) := by omega
              generalize bs (Sy.wordT i) = sv at *
              go_wp2_with fail
              go_roundw
              case rel => exact ⟨i + 1, by rw [← eC]; rfl, by go_num, by omega, QQ, Xp, Hp⟩
              case measure => simp [intOf]; omega
            · obtain rfl : m = i := by omega
              have hi2 : ¬ ((m : Nat) : Int) < (m : Int) := by omega
              generalize bs (Sy.wordT m) = tm at *
              obtain ⟨p0, p1, p2, p3, p4, p5, p6, p7, p8, p9, p10⟩ := Bx.c11 Xp.out; have pl := Xp.out.lt
              go_wp2_with (first
                  | (go_at_call 10; ((with_reducible refine (C2.out _ (Qw.trans QQ.out (by unfold Qw; repeat (first | exact Below.refl _ _ | refine Below.alloc ?_ (Nat.le_refl _) _ | refine Below.drew ?_)))).mono ?_); rintro e w' ⟨q0, q1, q2, q3, q4, q5, rfl, hb, q⟩; replace Xp := Lib.hid (Bx.kept Xp.out (Qw.trans (by unfold Qw; repeat (first | exact Below.refl _ _ | refine Below.alloc ?_ (Nat.le_refl _) _ | refine Below.drew ?_)) q)); replace Hp := Lib.hid (BlkB.kept Hp.out (Qw.trans (by unfold Qw; repeat (first | exact Below.refl _ _ | refine Below.alloc ?_ (Nat.le_refl _) _ | refine Below.drew ?_)) q)); obtain ⟨p0, p1, p2, p3, p4, p5, p6, p7, p8, p9, p10⟩ := Bx.c11 Xp.out; have pl := Xp.out.lt; replace QQ := Lib.hid (Qw.trans (Qw.trans QQ.out (by unfold Qw; repeat (first | exact Below.refl _ _ | refine Below.alloc ?_ (Nat.le_refl _) _ | refine Below.drew ?_))) q); have Hq := Lib.hid hb; clear hb; have XX : Bx (w'.alloc (.cells #[.int .i64 b2.kind, .int .i64 b2.label, .bool b2.skip, .slice q0 b2.words.length q1, .int .i64 b2.left.op, .int .i64 b2.left.n, .slice q2 b2.left.ks.length q3, .int .i64 b2.x.op, .int .i64 b2.x.n, .slice q4 b2.x.ks.length q5, .int .i64 b2.n] 34)) w'.heap.size _ _ := Bx.new _ _ _; have Xq := Lib.hid XX; clear XX; clear q))
                  | (go_at_call 6; ((with_reducible refine (AW.out _ (Qw.trans QQ.out (by unfold Qw; repeat (first | exact Below.refl _ _ | refine Below.alloc ?_ (Nat.le_refl _) _ | refine Below.drew ?_)))).mono ?_); rintro e w' ⟨rfl, q⟩; replace Xp := Lib.hid (Bx.kept Xp.out (Qw.trans (by unfold Qw; repeat (first | exact Below.refl _ _ | refine Below.alloc ?_ (Nat.le_refl _) _ | refine Below.drew ?_)) q)); replace Hp := Lib.hid (BlkB.kept Hp.out (Qw.trans (by unfold Qw; repeat (first | exact Below.refl _ _ | refine Below.alloc ?_ (Nat.le_refl _) _ | refine Below.drew ?_)) q)); obtain ⟨p0, p1, p2, p3, p4, p5, p6, p7, p8, p9, p10⟩ := Bx.c11 Xp.out; have pl := Xp.out.lt; replace Xq := Lib.hid (Bx.kept Xq.out (Qw.trans (by unfold Qw; repeat (first | exact Below.refl _ _ | refine Below.alloc ?_ (Nat.le_refl _) _ | refine Below.drew ?_)) q)); replace Hq := Lib.hid (BlkB.kept Hq.out (Qw.trans (by unfold Qw; repeat (first | exact Below.refl _ _ | refine Below.alloc ?_ (Nat.le_refl _) _ | refine Below.drew ?_)) q)); obtain ⟨q0, q1, q2, q3, q4, q5, q6, q7, q8, q9, q10⟩ := Bx.c11 Xq.out; have ql := Xq.out.lt; replace QQ := Lib.hid (Qw.trans (Qw.trans QQ.out (by unfold Qw; repeat (first | exact Below.refl _ _ | refine Below.alloc ?_ (Nat.le_refl _) _ | refine Below.drew ?_))) q); clear q))
                  | (go_at_call 15; ((with_reducible refine (CD.out _ _ _ _ _ _ _ _ (BlkB.kept Hp.out (by unfold Qw; repeat (first | exact Below.refl _ _ | refine Below.alloc ?_ (Nat.le_refl _) _ | refine Below.drew ?_)))).mono ?_); rintro e w' ⟨rfl, q⟩; replace Xp := Lib.hid (Bx.kept Xp.out (Qw.trans (by unfold Qw; repeat (first | exact Below.refl _ _ | refine Below.alloc ?_ (Nat.le_refl _) _ | refine Below.drew ?_)) q)); replace Hp := Lib.hid (BlkB.kept Hp.out (Qw.trans (by unfold Qw; repeat (first | exact Below.refl _ _ | refine Below.alloc ?_ (Nat.le_refl _) _ | refine Below.drew ?_)) q)); obtain ⟨p0, p1, p2, p3, p4, p5, p6, p7, p8, p9, p10⟩ := Bx.c11 Xp.out; have pl := Xp.out.lt; replace Xq := Lib.hid (Bx.kept Xq.out (Qw.trans (by unfold Qw; repeat (first | exact Below.refl _ _ | refine Below.alloc ?_ (Nat.le_refl _) _ | refine Below.drew ?_)) q)); replace Hq := Lib.hid (BlkB.kept Hq.out (Qw.trans (by unfold Qw; repeat (first | exact Below.refl _ _ | refine Below.alloc ?_ (Nat.le_refl _) _ | refine Below.drew ?_)) q)); obtain ⟨q0, q1, q2, q3, q4, q5, q6, q7, q8, q9, q10⟩ := Bx.c11 Xq.out; have ql := Xq.out.lt; replace QQ := Lib.hid (Qw.trans (Qw.trans QQ.out (by unfold Qw; repeat (first | exact Below.refl _ _ | refine Below.alloc ?_ (Nat.le_refl _) _ | refine Below.drew ?_))) q); clear q)))
              go_ret
              exact ⟨rfl, QQ.out⟩
  · by_cases hm : m ≤ 24
    · have e1 : Sy.lnR (Sy.deepT n) = (Sy.zb, 0, 10) := by rw [Sy.deep_ln n hn24, Sy.dB_vld]; simp [hn]
      have e2 : Sy.lnR (Sy.wordT m) = ((Sy.wB m), (Sy.wordT m).length, 0) := by rw [Sy.word_ln m hm30, Sy.wB_vld]; simp [hm]
      have c1 : ∀ w1, Qw w w1 → _ := fun w1 q => lineW (s := bs (Sy.deepT n)) (by rw [bs_size, Sy.deepT_len]; omega) e1 w1 (HN.out.kept q) (HO.out.kept q)
      have c2 : ∀ w1, Qw w w1 → _ := fun w1 q => lineW (s := bs (Sy.wordT m)) (by rw [bs_size, Sy.wordT_len]; omega) e2 w1 (HN.out.kept q) (HO.out.kept q)
      have hn1 : ¬ (n : Int) + 1 ≤ 16 := by omega
      have CD : True := trivial
      have hm1 : (m : Int) ≤ 24 := by omega
      have hwl : (((Sy.wB m).words.length : Nat) : Int) = (m : Int) := by simp [Sy.wB]
      have hwb : ((((Sy.wB m).words.length : Nat) : Int) == (m : Int)) = true := by rw [hwl]; simp
      have C1 := Lib.hid c1
      have C2 := Lib.hid c2
      clear c1 c2 e1 e2
      generalize hz1 : Sy.zb = b1 at C1
      generalize Sy.wB m = b2 at *
      clear hz1
      go_enter Tryd.func4, Tryd.ntmps4
      go_wp2_with (first
          | (go_at_call 14; ((with_reducible refine (M1.out _).mono ?_); rintro e w' ⟨rfl, rfl⟩))
          | (go_at_call 14; ((with_reducible refine (M2.out _).mono ?_); rintro e w' ⟨rfl, rfl⟩)))
      go_loopw [5, 6] (fun sv iv wr => ∃ i : Nat, sv = .string (bs (Sy.deepT i)) ∧ iv = .int .i64 (i : Int) ∧ i ≤ n ∧ Hid (Qw w wr)) (fun _ iv _ => n - (intOf iv).toNat)
      case atStart => exact ⟨0, rfl, rfl, Nat.zero_le _, QQ⟩
      case round =>
        clear QQ
        obtain ⟨i, rfl, rfl, hi, QQ⟩ := hrel
        by_cases hlt : i < n
        · have eC : bs (Sy.deepT i) ++ bs [43, 49] = bs (Sy.deepT (i + 1)) := by rw [bs_app, Sy.deepT_succ]
          have hz1 : ¬ 9223372036854775807 < (bs (Sy.deepT i)).size + 2 := by rw [bs_size, Sy.deepT_len]; omega
          have hi2 : (i : Int) < (n : Int) := by omega
          generalize bs (Sy.deepT i) = sv at *
          go_wp2_with fail
          go_roundw
          case rel => exact ⟨i + 1, by rw [← eC]; rfl, by go_num, by omega, QQ⟩
          case measure => simp [intOf]; omega
        · obtain rfl : n = i := by omega
          have hi2 : ¬ ((n : Nat) : Int) < (n : Int) := by omega
          generalize bs (Sy.deepT n) = tn at *
          go_upto_region 10 with (first
              | (go_at_call 10; ((with_reducible refine (C1.out _ (Qw.trans QQ.out (by unfold Qw; repeat (first | exact Below.refl _ _ | refine Below.alloc ?_ (Nat.le_refl _) _ | refine Below.drew ?_)))).mono ?_); rintro e w' ⟨p0, p1, p2, p3, p4, p5, rfl, hb, q⟩; replace QQ := Lib.hid (Qw.trans (Qw.trans QQ.out (by unfold Qw; repeat (first | exact Below.refl _ _ | refine Below.alloc ?_ (Nat.le_refl _) _ | refine Below.drew ?_))) q); have Hp := Lib.hid hb; clear hb; have XX : Bx (w'.alloc (.cells #[.int .i64 b1.kind, .int .i64 b1.label, .bool b1.skip, .slice p0 b1.words.length p1, .int .i64 b1.left.op, .int .i64 b1.left.n, .slice p2 b1.left.ks.length p3, .int .i64 b1.x.op, .int .i64 b1.x.n, .slice p4 b1.x.ks.length p5, .int .i64 b1.n] 34)) w'.heap.size _ _ := Bx.new _ _ _; have Xp := Lib.hid XX; clear XX; clear q)))
          refine code_of (fun w2 => Hid (Bx w2 w'.heap.size #[.int .i64 b1.kind, .int .i64 b1.label, .bool b1.skip, .slice p0 b1.words.length p1, .int .i64 b1.left.op, .int .i64 b1.left.n, .slice p2 b1.left.ks.length p3, .int .i64 b1.x.op, .int .i64 b1.x.n, .slice p4 b1.x.ks.length p5, .int .i64 b1.n] 34) ∧ Hid (BlkB w2 (fun b => True) b1 (bcs b1 p0 p1 p2 p3 p4 p5)) ∧ Hid (Qw w w2)) ⟨Lib.hid (by repeat (first | exact Xp.out | refine Bx.alloc ?_ _ | refine Bx.drew ?_)), Lib.hid ((BlkB.kept Hp.out (by unfold Qw; repeat (first | exact Below.refl _ _ | refine Below.alloc ?_ (Nat.le_refl _) _ | refine Below.drew ?_))).go fun b _ _ => ⟨rfl, trivial⟩), Lib.hid (Qw.trans QQ.out (by unfold Qw; repeat (first | exact Below.refl _ _ | refine Below.alloc ?_ (Nat.le_refl _) _ | refine Below.drew ?_)))⟩ ?_
          clear Xp Hp QQ
          generalize w'.heap.size = P0
          rintro w2 ⟨Xp, Hp, QQ⟩
          go_loopw [10, 11] (fun sv iv wr => ∃ i : Nat, sv = .string (bs (Sy.wordT i)) ∧ iv = .int .i64 (i : Int) ∧ i ≤ m ∧ Hid (Qw w wr) ∧ Hid (Bx wr P0 #[.int .i64 b1.kind, .int .i64 b1.label, .bool b1.skip, .slice p0 b1.words.length p1, .int .i64 b1.left.op, .int .i64 b1.left.n, .slice p2 b1.left.ks.length p3, .int .i64 b1.x.op, .int .i64 b1.x.n, .slice p4 b1.x.ks.length p5, .int .i64 b1.n] 34) ∧ Hid (BlkB wr (fun b => True) b1 (bcs b1 p0 p1 p2 p3 p4 p5))) (fun _ iv _ => m - (intOf iv).toNat)
          case atStart => exact ⟨0, rfl, rfl, Nat.zero_le _, QQ, Xp, Hp⟩
          case round =>
            clear QQ Xp Hp
            obtain ⟨i, rfl, rfl, hi, QQ, Xp, Hp⟩ := hrel
            by_cases hlt : i < m
            · have eC : bs (Sy.wordT i) ++ bs [71, 49] = bs (Sy.wordT (i + 1)) := by rw [bs_app, Sy.wordT_succ]
              have hz1 : ¬ 9223372036854775807 < (bs (Sy.wordT i)).size + 2 := by rw [bs_size, Sy.wordT_len]; omega
              have hi2 : (i : Int) < (m : Int) := by omega
              generalize bs (Sy.wordT i) = sv at *
              go_wp2_with fail
              go_roundw
              case rel => exact ⟨i + 1, by rw [← eC]; rfl, by go_num, by omega, QQ, Xp, Hp⟩
              case measure => simp [intOf]; omega
            · obtain rfl : m = i := by omega
              have hi2 : ¬ ((m : Nat) : Int) < (m : Int) := by omega
              generalize bs (Sy.wordT m) = tm at *
              obtain ⟨p0, p1, p2, p3, p4, p5, p6, p7, p8, p9, p10⟩ := Bx.c11 Xp.out; have pl := Xp.out.lt
              go_wp2_with (first
                  | (go_at_call 10; ((with_reducible refine (C2.out _ (Qw.trans QQ.out (by unfold Qw; repeat (first | exact Below.refl _ _ | refine Below.alloc ?_ (Nat.le_refl _) _ | refine Below.drew ?_)))).mono ?_); rintro e w' ⟨q0, q1, q2, q3, q4, q5, rfl, hb, q⟩; replace Xp := Lib.hid (Bx.kept Xp.out (Qw.trans (by unfold Qw; repeat (first | exact Below.refl _ _ | refine Below.alloc ?_ (Nat.le_refl _) _ | refine Below.drew ?_)) q)); replace Hp := Lib.hid (BlkB.kept Hp.out (Qw.trans (by unfold Qw; repeat (first | exact Below.refl _ _ | refine Below.alloc ?_ (Nat.le_refl _) _ | refine Below.drew ?_)) q)); obtain ⟨p0, p1, p2, p3, p4, p5, p6, p7, p8, p9, p10⟩ := Bx.c11 Xp.out; have pl := Xp.out.lt; replace QQ := Lib.hid (Qw.trans (Qw.trans QQ.out (by unfold Qw; repeat (first | exact Below.refl _ _ | refine Below.alloc ?_ (Nat.le_refl _) _ | refine Below.drew ?_))) q); have Hq := Lib.hid hb; clear hb; have XX : Bx (w'.alloc (.cells #[.int .i64 b2.kind, .int .i64 b2.label, .bool b2.skip, .slice q0 b2.words.length q1, .int .i64 b2.left.op, .int .i64 b2.left.n, .slice q2 b2.left.ks.length q3, .int .i64 b2.x.op, .int .i64 b2.x.n, .slice q4 b2.x.ks.length q5, .int .i64 b2.n] 34)) w'.heap.size _ _ := Bx.new _ _ _; have Xq := Lib.hid XX; clear XX; clear q))
                  | (go_at_call 6; ((with_reducible refine (AW.out _ (Qw.trans QQ.out (by unfold Qw; repeat (first | exact Below.refl _ _ | refine Below.alloc ?_ (Nat.le_refl _) _ | refine Below.drew ?_)))).mono ?_); rintro e w' ⟨rfl, q⟩; replace Xp := Lib.hid (Bx.kept Xp.out (Qw.trans (by unfold Qw; repeat (first | exact Below.refl _ _ | refine Below.alloc ?_ (Nat.le_refl _) _ | refine Below.drew ?_)) q)); replace Hp := Lib.hid (BlkB.kept Hp.out (Qw.trans (by unfold Qw; repeat (first | exact Below.refl _ _ | refine Below.alloc ?_ (Nat.le_refl _) _ | refine Below.drew ?_)) q)); obtain ⟨p0, p1, p2, p3, p4, p5, p6, p7, p8, p9, p10⟩ := Bx.c11 Xp.out; have pl := Xp.out.lt; replace Xq := Lib.hid (Bx.kept Xq.out (Qw.trans (by unfold Qw; repeat (first | exact Below.refl _ _ | refine Below.alloc ?_ (Nat.le_refl _) _ | refine Below.drew ?_)) q)); replace Hq := Lib.hid (BlkB.kept Hq.out (Qw.trans (by unfold Qw; repeat (first | exact Below.refl _ _ | refine Below.alloc ?_ (Nat.le_refl _) _ | refine Below.drew ?_)) q)); obtain ⟨q0, q1, q2, q3, q4, q5, q6, q7, q8, q9, q10⟩ := Bx.c11 Xq.out; have ql := Xq.out.lt; replace QQ := Lib.hid (Qw.trans (Qw.trans QQ.out (by unfold Qw; repeat (first | exact Below.refl _ _ | refine Below.alloc ?_ (Nat.le_refl _) _ | refine Below.drew ?_))) q); clear q))
                  | (go_at_call 15; ((with_reducible refine (CD.out _ _ _ _ _ _ _ _ (BlkB.kept Hp.out (by unfold Qw; repeat (first | exact Below.refl _ _ | refine Below.alloc ?_ (Nat.le_refl _) _ | refine Below.drew ?_)))).mono ?_); rintro e w' ⟨rfl, q⟩; replace Xp := Lib.hid (Bx.kept Xp.out (Qw.trans (by unfold Qw; repeat (first | exact Below.refl _ _ | refine Below.alloc ?_ (Nat.le_refl _) _ | refine Below.drew ?_)) q)); replace Hp := Lib.hid (BlkB.kept Hp.out (Qw.trans (by unfold Qw; repeat (first | exact Below.refl _ _ | refine Below.alloc ?_ (Nat.le_refl _) _ | refine Below.drew ?_)) q)); obtain ⟨p0, p1, p2, p3, p4, p5, p6, p7, p8, p9, p10⟩ := Bx.c11 Xp.out; have pl := Xp.out.lt; replace Xq := Lib.hid (Bx.kept Xq.out (Qw.trans (by unfold Qw; repeat (first | exact Below.refl _ _ | refine Below.alloc ?_ (Nat.le_refl _) _ | refine Below.drew ?_)) q)); replace Hq := Lib.hid (BlkB.kept Hq.out (Qw.trans (by unfold Qw; repeat (first | exact Below.refl _ _ | refine Below.alloc ?_ (Nat.le_refl _) _ | refine Below.drew ?_)) q)); obtain ⟨q0, q1, q2, q3, q4, q5, q6, q7, q8, q9, q10⟩ := Bx.c11 Xq.out; have ql := Xq.out.lt; replace QQ := Lib.hid (Qw.trans (Qw.trans QQ.out (by unfold Qw; repeat (first | exact Below.refl _ _ | refine Below.alloc ?_ (Nat.le_refl _) _ | refine Below.drew ?_))) q); clear q)))
              go_ret
              exact ⟨rfl, QQ.out⟩
    · have e1 : Sy.lnR (Sy.deepT n) = (Sy.zb, 0, 10) := by rw [Sy.deep_ln n hn24, Sy.dB_vld]; simp [hn]
      have e2 : Sy.lnR (Sy.wordT m) = (Sy.zb, 0, 10) := by rw [Sy.word_ln m hm30, Sy.wB_vld]; simp [hm]
      have c1 : ∀ w1, Qw w w1 → _ := fun w1 q => lineW (s := bs (Sy.deepT n)) (by rw [bs_size, Sy.deepT_len]; omega) e1 w1 (HN.out.kept q) (HO.out.kept q)
      have c2 : ∀ w1, Qw w w1 → _ := fun w1 q => lineW (s := bs (Sy.wordT m)) (by rw [bs_size, Sy.wordT_len]; omega) e2 w1 (HN.out.kept q) (HO.out.kept q)
      have hn1 : ¬ (n : Int) + 1 ≤ 16 := by omega
      have CD : True := trivial
      have hm1 : ¬ (m : Int) ≤ 24 := by omega
      have C1 := Lib.hid c1
      have C2 := Lib.hid c2
      clear c1 c2 e1 e2
      generalize Sy.zb = b1 at C1
      generalize Sy.zb = b2 at C2
      go_enter Tryd.func4, Tryd.ntmps4
      go_wp2_with (first
          | (go_at_call 14; ((with_reducible refine (M1.out _).mono ?_); rintro e w' ⟨rfl, rfl⟩))
          | (go_at_call 14; ((with_reducible refine (M2.out _).mono ?_); rintro e w' ⟨rfl, rfl⟩)))
      go_loopw [5, 6] (fun sv iv wr => ∃ i : Nat, sv = .string (bs (Sy.deepT i)) ∧ iv = .int .i64 (i : Int) ∧ i ≤ n ∧ Hid (Qw w wr)) (fun _ iv _ => n - (intOf iv).toNat)
      case atStart => exact ⟨0, rfl, rfl, Nat.zero_le _, QQ⟩
      case round =>
        clear QQ
        obtain ⟨i, rfl, rfl, hi, QQ⟩ := hrel
        by_cases hlt : i < n
        · have eC : bs (Sy.deepT i) ++ bs [43, 49] = bs (Sy.deepT (i + 1)) := by rw [bs_app, Sy.deepT_succ]
          have hz1 : ¬ 9223372036854775807 < (bs (Sy.deepT i)).size + 2 := by rw [bs_size, Sy.deepT_len]; omega
          have hi2 : (i : Int) < (n : Int) := by omega
          generalize bs (Sy.deepT i) = sv at *
          go_wp2_with fail
          go_roundw
          case rel => exact ⟨i + 1, by rw [← eC]; rfl, by go_num, by omega, QQ⟩
          case measure => simp [intOf]; omega
        · obtain rfl : n = i := by omega
          have hi2 : ¬ ((n : Nat) : Int) < (n : Int) := by omega
          generalize bs (Sy.deepT n) = tn at *
          go_upto_region 10 with (first
              | (go_at_call 10; ((with_reducible refine (C1.out _ (Qw.trans QQ.out (by unfold Qw; repeat (first | exact Below.refl _ _ | refine Below.alloc ?_ (Nat.le_refl _) _ | refine Below.drew ?_)))).mono ?_); rintro e w' ⟨p0, p1, p2, p3, p4, p5, rfl, hb, q⟩; replace QQ := Lib.hid (Qw.trans (Qw.trans QQ.out (by unfold Qw; repeat (first | exact Below.refl _ _ | refine Below.alloc ?_ (Nat.le_refl _) _ | refine Below.drew ?_))) q); have Hp := Lib.hid hb; clear hb; have XX : Bx (w'.alloc (.cells #[.int .i64 b1.kind, .int .i64 b1.label, .bool b1.skip, .slice p0 b1.words.length p1, .int .i64 b1.left.op, .int .i64 b1.left.n, .slice p2 b1.left.ks.length p3, .int .i64 b1.x.op, .int .i64 b1.x.n, .slice p4 b1.x.ks.length p5, .int .i64 b1.n] 34)) w'.heap.size _ _ := Bx.new _ _ _; have Xp := Lib.hid XX; clear XX; clear q)))
          refine code_of (fun w2 => Hid (Bx w2 w'.heap.size #[.int .i64 b1.kind, .int .i64 b1.label, .bool b1.skip, .slice p0 b1.words.length p1, .int .i64 b1.left.op, .int .i64 b1.left.n, .slice p2 b1.left.ks.length p3, .int .i64 b1.x.op, .int .i64 b1.x.n, .slice p4 b1.x.ks.length p5, .int .i64 b1.n] 34) ∧ Hid (BlkB w2 (fun b => True) b1 (bcs b1 p0 p1 p2 p3 p4 p5)) ∧ Hid (Qw w w2)) ⟨Lib.hid (by repeat (first | exact Xp.out | refine Bx.alloc ?_ _ | refine Bx.drew ?_)), Lib.hid ((BlkB.kept Hp.out (by unfold Qw; repeat (first | exact Below.refl _ _ | refine Below.alloc ?_ (Nat.le_refl _) _ | refine Below.drew ?_))).go fun b _ _ => ⟨rfl, trivial⟩), Lib.hid (Qw.trans QQ.out (by unfold Qw; repeat (first | exact Below.refl _ _ | refine Below.alloc ?_ (Nat.le_refl _) _ | refine Below.drew ?_)))⟩ ?_
          clear Xp Hp QQ
          generalize w'.heap.size = P0
          rintro w2 ⟨Xp, Hp, QQ⟩
          go_loopw [10, 11] (fun sv iv wr => ∃ i : Nat, sv = .string (bs (Sy.wordT i)) ∧ iv = .int .i64 (i : Int) ∧ i ≤ m ∧ Hid (Qw w wr) ∧ Hid (Bx wr P0 #[.int .i64 b1.kind, .int .i64 b1.label, .bool b1.skip, .slice p0 b1.words.length p1, .int .i64 b1.left.op, .int .i64 b1.left.n, .slice p2 b1.left.ks.length p3, .int .i64 b1.x.op, .int .i64 b1.x.n, .slice p4 b1.x.ks.length p5, .int .i64 b1.n] 34) ∧ Hid (BlkB wr (fun b => True) b1 (bcs b1 p0 p1 p2 p3 p4 p5))) (fun _ iv _ => m - (intOf iv).toNat)
          case atStart => exact ⟨0, rfl, rfl, Nat.zero_le _, QQ, Xp, Hp⟩
          case round =>
            clear QQ Xp Hp
            obtain ⟨i, rfl, rfl, hi, QQ, Xp, Hp⟩ := hrel
            by_cases hlt : i < m
            · have eC : bs (Sy.wordT i) ++ bs [71, 49] = bs (Sy.wordT (i + 1)) := by rw [bs_app, Sy.wordT_succ]
              have hz1 : ¬ 9223372036854775807 < (bs (Sy.wordT i)).size + 2 := by rw [bs_size, Sy.wordT_len]; omega
              have hi2 : (i : Int) < (m : Int) := by omega
              generalize bs (Sy.wordT i) = sv at *
              go_wp2_with fail
              go_roundw
              case rel => exact ⟨i + 1, by rw [← eC]; rfl, by go_num, by omega, QQ, Xp, Hp⟩
              case measure => simp [intOf]; omega
            · obtain rfl : m = i := by omega
              have hi2 : ¬ ((m : Nat) : Int) < (m : Int) := by omega
              generalize bs (Sy.wordT m) = tm at *
              obtain ⟨p0, p1, p2, p3, p4, p5, p6, p7, p8, p9, p10⟩ := Bx.c11 Xp.out; have pl := Xp.out.lt
              go_wp2_with (first
                  | (go_at_call 10; ((with_reducible refine (C2.out _ (Qw.trans QQ.out (by unfold Qw; repeat (first | exact Below.refl _ _ | refine Below.alloc ?_ (Nat.le_refl _) _ | refine Below.drew ?_)))).mono ?_); rintro e w' ⟨q0, q1, q2, q3, q4, q5, rfl, hb, q⟩; replace Xp := Lib.hid (Bx.kept Xp.out (Qw.trans (by unfold Qw; repeat (first | exact Below.refl _ _ | refine Below.alloc ?_ (Nat.le_refl _) _ | refine Below.drew ?_)) q)); replace Hp := Lib.hid (BlkB.kept Hp.out (Qw.trans (by unfold Qw; repeat (first | exact Below.refl _ _ | refine Below.alloc ?_ (Nat.le_refl _) _ | refine Below.drew ?_)) q)); obtain ⟨p0, p1, p2, p3, p4, p5, p6, p7, p8, p9, p10⟩ := Bx.c11 Xp.out; have pl := Xp.out.lt; replace QQ := Lib.hid (Qw.trans (Qw.trans QQ.out (by unfold Qw; repeat (first | exact Below.refl _ _ | refine Below.alloc ?_ (Nat.le_refl _) _ | refine Below.drew ?_))) q); have Hq := Lib.hid hb; clear hb; have XX : Bx (w'.alloc (.cells #[.int .i64 b2.kind, .int .i64 b2.label, .bool b2.skip, .slice q0 b2.words.length q1, .int .i64 b2.left.op, .int .i64 b2.left.n, .slice q2 b2.left.ks.length q3, .int .i64 b2.x.op, .int .i64 b2.x.n, .slice q4 b2.x.ks.length q5, .int .i64 b2.n] 34)) w'.heap.size _ _ := Bx.new _ _ _; have Xq := Lib.hid XX; clear XX; clear q))
                  | (go_at_call 6; ((with_reducible refine (AW.out _ (Qw.trans QQ.out (by unfold Qw; repeat (first | exact Below.refl _ _ | refine Below.alloc ?_ (Nat.le_refl _) _ | refine Below.drew ?_)))).mono ?_); rintro e w' ⟨rfl, q⟩; replace Xp := Lib.hid (Bx.kept Xp.out (Qw.trans (by unfold Qw; repeat (first | exact Below.refl _ _ | refine Below.alloc ?_ (Nat.le_refl _) _ | refine Below.drew ?_)) q)); replace Hp := Lib.hid (BlkB.kept Hp.out (Qw.trans (by unfold Qw; repeat (first | exact Below.refl _ _ | refine Below.alloc ?_ (Nat.le_refl _) _ | refine Below.drew ?_)) q)); obtain ⟨p0, p1, p2, p3, p4, p5, p6, p7, p8, p9, p10⟩ := Bx.c11 Xp.out; have pl := Xp.out.lt; replace Xq := Lib.hid (Bx.kept Xq.out (Qw.trans (by unfold Qw; repeat (first | exact Below.refl _ _ | refine Below.alloc ?_ (Nat.le_refl _) _ | refine Below.drew ?_)) q)); replace Hq := Lib.hid (BlkB.kept Hq.out (Qw.trans (by unfold Qw; repeat (first | exact Below.refl _ _ | refine Below.alloc ?_ (Nat.le_refl _) _ | refine Below.drew ?_)) q)); obtain ⟨q0, q1, q2, q3, q4, q5, q6, q7, q8, q9, q10⟩ := Bx.c11 Xq.out; have ql := Xq.out.lt; replace QQ := Lib.hid (Qw.trans (Qw.trans QQ.out (by unfold Qw; repeat (first | exact Below.refl _ _ | refine Below.alloc ?_ (Nat.le_refl _) _ | refine Below.drew ?_))) q); clear q))
                  | (go_at_call 15; ((with_reducible refine (CD.out _ _ _ _ _ _ _ _ (BlkB.kept Hp.out (by unfold Qw; repeat (first | exact Below.refl _ _ | refine Below.alloc ?_ (Nat.le_refl _) _ | refine Below.drew ?_)))).mono ?_); rintro e w' ⟨rfl, q⟩; replace Xp := Lib.hid (Bx.kept Xp.out (Qw.trans (by unfold Qw; repeat (first | exact Below.refl _ _ | refine Below.alloc ?_ (Nat.le_refl _) _ | refine Below.drew ?_)) q)); replace Hp := Lib.hid (BlkB.kept Hp.out (Qw.trans (by unfold Qw; repeat (first | exact Below.refl _ _ | refine Below.alloc ?_ (Nat.le_refl _) _ | refine Below.drew ?_)) q)); obtain ⟨p0, p1, p2, p3, p4, p5, p6, p7, p8, p9, p10⟩ := Bx.c11 Xp.out; have pl := Xp.out.lt; replace Xq := Lib.hid (Bx.kept Xq.out (Qw.trans (by unfold Qw; repeat (first | exact Below.refl _ _ | refine Below.alloc ?_ (Nat.le_refl _) _ | refine Below.drew ?_)) q)); replace Hq := Lib.hid (BlkB.kept Hq.out (Qw.trans (by unfold Qw; repeat (first | exact Below.refl _ _ | refine Below.alloc ?_ (Nat.le_refl _) _ | refine Below.drew ?_)) q)); obtain ⟨q0, q1, q2, q3, q4, q5, q6, q7, q8, q9, q10⟩ := Bx.c11 Xq.out; have ql := Xq.out.lt; replace QQ := Lib.hid (Qw.trans (Qw.trans QQ.out (by unfold Qw; repeat (first | exact Below.refl _ _ | refine Below.alloc ?_ (Nat.le_refl _) _ | refine Below.drew ?_))) q); clear q)))
              go_ret
              exact ⟨rfl, QQ.out⟩
/-! ### the row and the card -/
theorem reads_syntaxDeep (os : Os) {H : Type} (enc : TypeId × Value → H) : ∃ places, DataW.whole enc Tryd.prog ((laidWorldS os).forCall (fun _ _ => 0) ⟨#[], #[.int .i64 0, .int .i64 0], []⟩).memory Tryd.f4.params.toList Rows.syntaxDeepSpec.vars false #[(.int .i64 0 : Value), .int .i64 0].toList 8 = some ([.lit (.int .i64 0), .lit (.int .i64 0)], [], places) :=
  ⟨[], by kernel_rfl⟩
set_option maxRecDepth 100000 in
theorem lifted_syntaxDeep (os : Os) (started : os.Started) (H : Type) (enc : TypeId × Value → H) (F : Stop.Interp) :
    ReturnsInHanded {} Tryd.checked os 4 .any ((OpenSpec.ofChange Rows.syntaxDeepSpec).preRow enc Tryd.prog Tryd.f4 Rows.syntaxDeepRow.domain false Rows.syntaxDeepRow.laid) (((OpenSpec.ofChange Rows.syntaxDeepSpec).at F).post enc Tryd.prog Tryd.f4 false true false false) := by
  obtain ⟨places, hx⟩ := reads_syntaxDeep os enc
  refine returnsInHanded_of_row (C := Tryd.checked) (s := OpenSpec.ofChange Rows.syntaxDeepSpec) ownS started (by kernel_rfl) Tryd.func4
    (witness_row_at (enc := enc) (C := Tryd.checked) false (laidWorldS os) #[.int .i64 0, .int .i64 0] rfl (by kernel_rfl) (by kernel_rfl) (by kernel_rfl)
      (OpenSpec.preRow_of_cond 8 hx (by kernel_rfl) (fun k hk => by cases hk) (by kernel_rfl) (laid_metS os _))) ?_
  intro W base args ds gs before hval0 hW _ _ _ hL _ _
  obtain ⟨hb, ht, ho⟩ := tableS hL
  have hval : ∀ (j : Nat) t v, Tryd.f4.params[j]? = some t → args[j]? = some v → Value.okWide Tryd.prog W .any base t v := hval0
  have hW' := hW
  obtain ⟨p, q, hA0, hV, rfl, hfz, hnd⟩ := hW
  have hA : DataW.TrodAll enc Tryd.prog W 0 (fun _ => true) true Tryd.f4.params.toList args.toList ds p := hA0
  rw [Tryd.params4] at hA hval
  obtain ⟨v0, vs0, d0, ds0, p0, q0, hargs, rfl, rfl, h0, r0⟩ := trodAll_cons hA
  obtain ⟨v1, vs1, d1, ds1, p1, q1, rfl, rfl, rfl, h1, r1⟩ := trodAll_cons r0
  obtain ⟨rfl, rfl, rfl⟩ := trodAll_nil r1
  obtain rfl : args = #[v0, v1] := by cases args; simp_all
  obtain ⟨rfl, rfl⟩ := trodVars_none hV
  obtain ⟨a0, rfl, rfl, rfl, w0⟩ := open_int Tryd.underlying3 (hval 0 3 v0 rfl rfl) h0
  obtain ⟨x0, y0⟩ := i64_of_wf w0
  obtain ⟨a1, rfl, rfl, rfl, w1⟩ := open_int Tryd.underlying3 (hval 1 3 v1 rfl rfl) h1
  obtain ⟨x1, y1⟩ := i64_of_wf w1
  clear hA0 hval0 hL
  simp only [List.append_nil] at hW'
  refine (walk_syntaxDeep a0 x0 y0 a1 x1 y1 W hb ht ho).mono fun e W' ⟨he, bel⟩ => ?_
  subst he
  exact ⟨_, rfl, _, _, _, [], _, [], hW', trodAll_mk1 (shut_bool Tryd.underlying4 _), (trodAll_cons_mk (shut_int Tryd.underlying3 w0) (trodAll_cons_mk (shut_int Tryd.underlying3 w1) trodAll_mk0)), rfl, Below.frame bel _, fun h => by cases h⟩
theorem syntaxDeep_said : Rows.SyntaxDeepSaid :=
  OpenClaim.holds_of_cond 4 Tryd.f4 rfl rfl rfl rfl rfl rfl rfl ⟨rfl, rfl, rfl, rfl, rfl⟩ rfl rfl rfl rfl rfl (by kernel_rfl) Tryd.func4 (by kernel_rfl)
    (of_decide_eq_true (by kernel_rfl)) (by unfold Func.isWrapper; first | (rw [if_pos (by decide +kernel)]; kernel_rfl) | (rw [if_neg (by decide +kernel)]; exact ⟨rfl, rfl⟩))
    (fun os started H enc _ F => by rw [OpenClaim.pre_eq_preRow]; exact lifted_syntaxDeep os started H enc F)
theorem plain_syntaxDeep (f : FuncId) (fn : Func) (hf : Tryd.pinned.checked.prog.funcNamed "cnc/cnclaw06.SyntaxDeep" = some f) (hfn : Tryd.pinned.checked.prog.funcs[f]? = some fn) :
    true = Tryd.pinned.checked.prog.looks [] ∧ ∀ (j : Nat) t, fn.params[j]? = some t → Tryd.pinned.checked.prog.wantsStandIn t = false := by
  obtain rfl : f = 4 := Option.some.inj ((show Tryd.prog.funcNamed "cnc/cnclaw06.SyntaxDeep" = some 4 by kernel_rfl).symm.trans hf) |>.symm
  obtain rfl : fn = Tryd.f4 := (Option.some.inj (Tryd.func4.symm.trans hfn)).symm
  refine ⟨by kernel_rfl, fun j t ht => ?_⟩
  rw [Tryd.params4] at ht
  obtain rfl : t = 3 := by simpa using Array.mem_of_getElem? ht
  exact (show Tryd.prog.wantsStandIn 3 = false by kernel_rfl)
/-- The statement. -/
theorem syntaxDeep_card : Rows.SyntaxDeepCardSaid :=
  Claim7.holds_tied_plain_at .later [] _ _ _ _ syntaxDeep_said (fun _ h => by cases h) (by kernel_rfl) (fun _ h => by cases h) syntaxDeep_row_tie rfl ⟨rfl, rfl⟩ (by kernel_rfl) rfl plain_syntaxDeep (by kernel_rfl)
end Go.Proofs.YthfcimfoinidbaaDoor

