import Derived.Test.YtbcbnkapipimmaaGreatDoorZRg18
import Derived.Test.YtbcbnkapipimmaaGreatDoorRows
import Derived.Shelf.Strings.Builder1
import Derived.Shelf.Strings.Builder2
import Derived.Shelf.Small.Strs
import Derived.Shelf.Strconv.Itoa0
import Derived.Shelf.Strconv.Itoa1
import Derived.Shelf.LaysM
import Derived.Shelf.Strconv.Itoa2
import Derived.Shelf.Strconv.Itoa3
import Derived.Shelf.Strings.Search1
import Derived.Shelf.Strings.Search2
import Derived.Shelf.Strings.Search3
import Derived.Shelf.Strings.Count
import Derived.Shelf.Strings.Shaped
import Derived.Shelf.Strconv.AppendUint10
import Derived.Shelf.Strconv.AppendInt10
import Derived.Shelf.Strconv.AppendIntPublic10
set_option linter.unusedVariables false
set_option linter.unusedSimpArgs false
namespace Go.Proofs.YtbcbnkapipimmaaGreatDoor
open Go.RowKit
structure WrA (op n : Int) (ks : List Sy.Ex) : Prop where
  p : WrC 84 (Sy.bpr (.mk op n ks)) op n ks
  c : WrC 88 (Sy.bcl (.mk op n ks)) op n ks
  b : WrC 89 (Sy.binb (.mk op n ks)) op n ks
  v : WrC 90 (35 :: Sy.bce (.mk op n ks)) op n ks
theorem binb_len (x : Sy.Ex) : (Sy.binb x).length = (Sy.bpr x).length + 2 := by simp [Sy.binb]
theorem sx_mk {op n : Int} {ks : List Sy.Ex} (l : (Sy.bpr (.mk op n ks)).length ≤ 2000000 ∧ (Sy.bcl (.mk op n ks)).length ≤ 2000000) (hp : WrC 84 (Sy.bpr (.mk op n ks)) op n ks) (hc : WrC 88 (Sy.bcl (.mk op n ks)) op n ks) : WrA op n ks := by
  have hb := sw_inBrackets (by omega) hp
  exact ⟨hp, hc, hb, sw_variable (by omega) (by omega) hc hb⟩
theorem dpt_kid1 {op n : Int} {x : Sy.Ex} {d : Nat} (h : Sy.dpt (.mk op n [x]) ≤ d) : Sy.dpt x ≤ d := by
  rw [Sy.dpt_mk] at h
  simp [Sy.dmx] at h
  omega
theorem dpt_kid2 {op n : Int} {x y : Sy.Ex} {d : Nat} (h : Sy.dpt (.mk op n [x, y]) ≤ d) : Sy.dpt x ≤ d ∧ Sy.dpt y ≤ d := by
  rw [Sy.dpt_mk] at h
  simp [Sy.dmx] at h
  omega
theorem sx_all (x : Sy.Ex) : Sy.okx x = true → Sy.dpt x ≤ 16 → WrA x.op x.n x.ks := by
  induction x using Sy.Ex.ind with
  | h op n ks ih =>
    intro hok hd
    show WrA op n ks
    have hl := Sy.blen_16 hok hd
    have hF := Sy.form hok
    cases hF with
    | num n h0 h1 =>
      have hc := sw_closed_num h0 h1
      have e1 : Sy.bpr (.mk 0 n []) = Sy.bcl (.mk 0 n []) := by simp [Sy.bpr, Sy.bcl, Sy.bpc]
      refine sx_mk hl ?_ hc
      rw [e1]
      exact sw_printed_cl (o := 0) (.inl rfl) hc
    | un o x hx ho =>
      obtain ⟨op1, n1, ks1⟩ := x
      have hT : ((o : Int)).toNat = o := by omega
      have hd1 := dpt_kid1 hd
      have A := ih (.mk op1 n1 ks1) (by simp) hx hd1
      have hl1 := Sy.blen_16 hx hd1
      by_cases o1 : o = 1
      · subst o1
        have e1 : Sy.bpr (.mk ((1 : Nat) : Int) 0 [.mk op1 n1 ks1]) = 35 :: Sy.bce (.mk op1 n1 ks1) := by
          simp only [Sy.bpr, Sy.bpc, Sy.bce, Sy.smp, Sy.binb, Sy.bcl]; simp [Sy.bpr]
        have e2 : Sy.bcl (.mk ((1 : Nat) : Int) 0 [.mk op1 n1 ks1]) = 35 :: Sy.bce (.mk op1 n1 ks1) := by
          simp only [Sy.bcl, Sy.bpc, Sy.bce, Sy.smp, Sy.binb]; simp [Sy.bpr]
        have hc : WrC 88 (35 :: Sy.bce (.mk op1 n1 ks1)) ((1 : Nat) : Int) 0 [.mk op1 n1 ks1] := sw_closed_var A.v
        refine sx_mk hl ?_ ?_
        · rw [e1]; exact sw_printed_cl (.inr (.inl rfl)) hc
        · rw [e2]; exact hc
      · by_cases o2 : o = 2
        · subst o2
          have e1 : Sy.bpr (.mk ((2 : Nat) : Int) 0 [.mk op1 n1 ks1]) = 45 :: Sy.bcl (.mk op1 n1 ks1) := by simp [Sy.bpr, Sy.bcl, Sy.bpc]
          have e2 : Sy.bcl (.mk ((2 : Nat) : Int) 0 [.mk op1 n1 ks1]) = Sy.binb (.mk ((2 : Nat) : Int) 0 [.mk op1 n1 ks1]) := by unfold Sy.binb; rw [e1]; simp [Sy.bcl, Sy.bpc]
          have hp : WrC 84 (Sy.bpr (.mk ((2 : Nat) : Int) 0 [.mk op1 n1 ks1])) ((2 : Nat) : Int) 0 [.mk op1 n1 ks1] := by
            rw [e1]; exact sw_printed_neg (by omega) A.c
          refine sx_mk hl hp ?_
          rw [e2]
          exact sw_closed_in (.inl rfl) (sw_inBrackets (by omega) hp)
        · have e1 : Sy.bpr (.mk (o : Int) 0 [.mk op1 n1 ks1]) = Sy.onm o ++ Sy.binb (.mk op1 n1 ks1) := by
            unfold Sy.bpr; rw [Sy.bpc, if_neg (by omega), if_neg (by omega), hT]; simp [Sy.binb, Sy.bpr]
          have e2 : Sy.bcl (.mk (o : Int) 0 [.mk op1 n1 ks1]) = Sy.onm o ++ Sy.binb (.mk op1 n1 ks1) := by
            unfold Sy.bcl; rw [Sy.bpc, if_neg (by omega), if_neg (by omega), hT]; simp [Sy.binb, Sy.bpr]
          have b1 := binb_len (.mk op1 n1 ks1)
          have hc : WrC 88 (Sy.onm o ++ Sy.binb (.mk op1 n1 ks1)) (o : Int) 0 [.mk op1 n1 ks1] := sx_closed_fun (by omega) (by omega) (by omega) (by omega) A.b
          refine sx_mk hl ?_ ?_
          · rw [e1]; exact sw_printed_cl (.inr (.inr (.inr ⟨rfl, by omega, by omega⟩))) hc
          · rw [e2]; exact hc
    | bin o x y hx hy ho =>
      obtain ⟨op1, n1, ks1⟩ := x
      obtain ⟨op2, n2, ks2⟩ := y
      have hT : ((o : Int)).toNat = o := by omega
      obtain ⟨hd1, hd2⟩ := dpt_kid2 hd
      have A := ih (.mk op1 n1 ks1) (by simp) hx hd1
      have B := ih (.mk op2 n2 ks2) (by simp) hy hd2
      have hl1 := Sy.blen_16 hx hd1
      have hl2 := Sy.blen_16 hy hd2
      have b1 := binb_len (.mk op1 n1 ks1)
      have b2 := binb_len (.mk op2 n2 ks2)
      by_cases o11 : o = 11
      · subst o11
        have e1 : Sy.bpr (.mk ((11 : Nat) : Int) 0 [.mk op1 n1 ks1, .mk op2 n2 ks2]) = Sy.onm 11 ++ (Sy.binb (.mk op1 n1 ks1) ++ ([47] ++ Sy.binb (.mk op2 n2 ks2))) := by
          unfold Sy.bpr; rw [Sy.bpc, if_pos (show ((11 : Nat) : Int) = 11 from rfl)]; simp [Sy.binb, Sy.bpr]
        have e2 : Sy.bcl (.mk ((11 : Nat) : Int) 0 [.mk op1 n1 ks1, .mk op2 n2 ks2]) = Sy.onm 11 ++ (Sy.binb (.mk op1 n1 ks1) ++ ([47] ++ Sy.binb (.mk op2 n2 ks2))) := by
          unfold Sy.bcl; rw [Sy.bpc, if_pos (show ((11 : Nat) : Int) = 11 from rfl)]; simp [Sy.binb, Sy.bpr]
        have hc : WrC 88 (Sy.onm 11 ++ (Sy.binb (.mk op1 n1 ks1) ++ ([47] ++ Sy.binb (.mk op2 n2 ks2)))) ((11 : Nat) : Int) 0 [.mk op1 n1 ks1, .mk op2 n2 ks2] := sx_closed_atan (by omega) (by omega) A.b B.b
        refine sx_mk hl ?_ ?_
        · rw [e1]; exact sw_printed_cl (.inr (.inr (.inl rfl))) hc
        · rw [e2]; exact hc
      · have e1 : Sy.bpr (.mk (o : Int) 0 [.mk op1 n1 ks1, .mk op2 n2 ks2]) = Sy.bcl (.mk op1 n1 ks1) ++ ((32 :: Sy.onm o ++ [32]) ++ Sy.bcl (.mk op2 n2 ks2)) := by
          unfold Sy.bpr; rw [Sy.bpc, if_neg (by omega), hT]; simp [Sy.bcl]
        have e2 : Sy.bcl (.mk (o : Int) 0 [.mk op1 n1 ks1, .mk op2 n2 ks2]) = Sy.binb (.mk (o : Int) 0 [.mk op1 n1 ks1, .mk op2 n2 ks2]) := by
          unfold Sy.binb; rw [e1]; unfold Sy.bcl; rw [Sy.bpc, if_neg (by omega), hT]; simp [Sy.bcl]
        have hp : WrC 84 (Sy.bpr (.mk (o : Int) 0 [.mk op1 n1 ks1, .mk op2 n2 ks2])) (o : Int) 0 [.mk op1 n1 ks1, .mk op2 n2 ks2] := by
          rw [e1]; exact sx_printed_op (by omega) (by omega) (by omega) (by omega) (by omega) A.c B.c
        refine sx_mk hl hp ?_
        rw [e2]
        exact sw_closed_in (.inr ⟨rfl, by omega, by omega⟩) (sw_inBrackets (by omega) hp)
end Go.Proofs.YtbcbnkapipimmaaGreatDoor
set_option linter.unusedVariables false
set_option linter.unusedSimpArgs false
namespace Go.Proofs.YtbcbnkapipimmaaGreatDoor
open Go.RowKit
theorem sx_valued_simple {op n : Int} {ks : List Sy.Ex} (hs : (decide (op = 0) || decide (op = 1)) = true) (h : WrC 88 (Sy.bcl (.mk op n ks)) op n ks) : WrC 54 (Sy.bcl (.mk op n ks)) op n ks := by
  intro a cap S w hO hT hk
  obtain ⟨m1, m2⟩ := hk.cap
  have cs := fun w1 => sw_simple op n ks.length a cap m1 m2 w1
  have c1 := fun w1 (h1 : Ow w1) (h2 : Tb w1) (h3 : KidsB w1 S a cap ks) => h a cap S w1 h1 h2 h3
  rw [hs] at cs
  generalize Sy.bcl (.mk op n ks) = r at c1
  have CS := Lib.hid cs
  have C1 := Lib.hid c1
  have HO := Lib.hid hO
  have HT := Lib.hid hT
  have HK := Lib.hid hk
  clear cs c1 hO hT hk h hs
  have q0 : Hid (Qw w w) := Lib.hid (Qw.refl w)
  go_enter Tryz.func54, Tryz.ntmps54
  go_wp2_with (first
    | (go_at_call 87; ((with_reducible refine (CS.out _).mono ?_); rintro e w' ⟨rfl, q⟩; have HB : Hid (Bx w' w.heap.size #[.int .i64 op, .int .i64 n, .slice a ks.length cap] 27) := Lib.hid (Bx.kept (by repeat (first | exact Bx.new _ _ _ | exact HB.out | refine Bx.alloc ?_ _ | refine Bx.drew ?_)) q); have x0 := HB.out.cell' 0 _ rfl; have x1 := HB.out.cell' 1 _ rfl; have x2 := HB.out.cell' 2 _ rfl; replace q0 : Hid (Qw w w') := Lib.hid (Qw.trans Qz q); clear q))
    | (go_at_call 88; ((with_reducible refine (C1.out _ (Ow.kept HO.out Qz) (Tb.kept HT.out Qz) (KidsB.kept HK.out Qz)).mono ?_); rintro e w' ⟨rfl, q⟩; replace q0 : Hid (Qw w w') := Lib.hid (Qw.trans Qz q); clear q)))
  go_ret
  exact ⟨rfl, q0.out⟩
theorem sx_valued_other {op n : Int} {ks : List Sy.Ex} (h0 : op ≠ 0) (h1 : op ≠ 1) (h2 : op ≠ 2) (h : WrC 89 (Sy.binb (.mk op n ks)) op n ks) : WrC 54 (Sy.binb (.mk op n ks)) op n ks := by
  intro a cap S w hO hT hk
  obtain ⟨m1, m2⟩ := hk.cap
  have cs := fun w1 => sw_simple op n ks.length a cap m1 m2 w1
  have c1 := fun w1 (h1 : Ow w1) (h2 : Tb w1) (h3 : KidsB w1 S a cap ks) => h a cap S w1 h1 h2 h3
  rw [show (decide (op = 0) || decide (op = 1)) = false by simp [h0, h1]] at cs
  have d2 : (op == 2) = false := beq_eq_false_iff_ne.2 h2
  generalize Sy.binb (.mk op n ks) = r at c1
  have CS := Lib.hid cs
  have C1 := Lib.hid c1
  have HO := Lib.hid hO
  have HT := Lib.hid hT
  have HK := Lib.hid hk
  clear cs c1 hO hT hk h h0 h1 h2
  have q0 : Hid (Qw w w) := Lib.hid (Qw.refl w)
  go_enter Tryz.func54, Tryz.ntmps54
  go_wp2_with (first
    | (go_at_call 87; ((with_reducible refine (CS.out _).mono ?_); rintro e w' ⟨rfl, q⟩; have HB : Hid (Bx w' w.heap.size #[.int .i64 op, .int .i64 n, .slice a ks.length cap] 27) := Lib.hid (Bx.kept (by repeat (first | exact Bx.new _ _ _ | exact HB.out | refine Bx.alloc ?_ _ | refine Bx.drew ?_)) q); have x0 := HB.out.cell' 0 _ rfl; have x1 := HB.out.cell' 1 _ rfl; have x2 := HB.out.cell' 2 _ rfl; replace q0 : Hid (Qw w w') := Lib.hid (Qw.trans Qz q); clear q))
    | (go_at_call 89; ((with_reducible refine (C1.out _ (Ow.kept HO.out Qz) (Tb.kept HT.out Qz) (KidsB.kept HK.out Qz)).mono ?_); rintro e w' ⟨rfl, q⟩; replace q0 : Hid (Qw w w') := Lib.hid (Qw.trans Qz q); clear q)))
  go_ret
  exact ⟨rfl, q0.out⟩
theorem sx_valued_neg {op n : Int} {ks : List Sy.Ex} (hs : (decide (op = 0) || decide (op = 1)) = true) (l1 : (Sy.bcl (.mk op n ks)).length ≤ 1000000000000) (h : WrC 88 (Sy.bcl (.mk op n ks)) op n ks) : WrC 54 (45 :: Sy.bcl (.mk op n ks)) 2 0 [.mk op n ks] := by
  intro a cap S w hO hT hk
  have hk0 := hk
  cases hk with
  | mk b off cap ks' ad cc hS h1 h2 hc hkk =>
    obtain ⟨z0, z1, z2⟩ := hc 0 (by simp)
    have KK := hkk 0 (by simp)
    have KL : KidsB w S (ad 0) (cc 0) ks := KK
    obtain ⟨m1, m2⟩ := KL.cap
    have cs := fun w1 => sw_simple 2 0 1 (some ⟨b, off, none⟩) cap h1 h2 w1
    have ct := fun w1 => sw_simple op n ks.length (ad 0) (cc 0) m1 m2 w1
    rw [show (decide ((2 : Int) = 0) || decide ((2 : Int) = 1)) = false by decide] at cs
    rw [hs] at ct
    have c1 := fun w1 (h1 : Ow w1) (h2 : Tb w1) (h3 : KidsB w1 S (ad 0) (cc 0) ks) => h (ad 0) (cc 0) S w1 h1 h2 h3
    have eB : bs [45] ++ bs (Sy.bcl (.mk op n ks)) = bs (45 :: Sy.bcl (.mk op n ks)) := by rw [bs_app]; rfl
    have hz1 : ¬ 9223372036854775807 < 1 + (bs (Sy.bcl (.mk op n ks))).size := by rw [bs_size]; omega
    generalize 45 :: Sy.bcl (.mk op n ks) = r2 at eB ⊢
    clear l1 h
    generalize Sy.bcl (.mk op n ks) = r at c1 eB hz1
    have EB := Lib.hid eB
    clear eB
    have y0 : w.cell? ⟨b, off, none⟩ = some (.int .i64 op) := by simpa [Sy.Ex.op] using z0
    have y1 : w.cell? ⟨b, off + 1, none⟩ = some (.int .i64 n) := by simpa [Sy.Ex.n] using z1
    have y2 : w.cell? ⟨b, off + 2, none⟩ = some (.slice (ad 0) ks.length (cc 0)) := by simpa [Sy.Ex.ks] using z2
    have bl := cell_lt z0
    have Y0 := Lib.hid y0
    have Y1 := Lib.hid y1
    have Y2 := Lib.hid y2
    have hne : b ≠ w.heap.size := by omega
    have CS := Lib.hid cs
    have CT := Lib.hid ct
    have C1 := Lib.hid c1
    have HO := Lib.hid hO
    have HT := Lib.hid hT
    have HK : Hid (KidsB w S (ad 0) (cc 0) ks) := Lib.hid KK
    clear cs ct c1 hO hT hc hkk KK KL z0 z1 z2 hk0 y0 y1 y2 hs m1 m2
    have q0 : Hid (Qw w w) := Lib.hid (Qw.refl w)
    show Calls Tryz.prog 54 #[.agg #[.int .i64 2, .int .i64 0, .slice (some ⟨b, off, none⟩) 1 cap]] w _
    go_enter Tryz.func54, Tryz.ntmps54
    go_wp2_with (first
      | (go_at_call 87; ((with_reducible refine (CS.out _).mono ?_); rintro e w' ⟨rfl, q⟩; have HB : Hid (Bx w' w.heap.size #[.int .i64 2, .int .i64 0, .slice (some ⟨b, off, none⟩) 1 cap] 27) := Lib.hid (Bx.kept (by repeat (first | exact Bx.new _ _ _ | exact HB.out | refine Bx.alloc ?_ _ | refine Bx.drew ?_)) q); have x0 := HB.out.cell' 0 _ rfl; have x1 := HB.out.cell' 1 _ rfl; have x2 := HB.out.cell' 2 _ rfl; have y0 := (World.cell?_of_block (w := w) ((Qw.trans Qz q).block b bl)).trans Y0.out; have y1 := (World.cell?_of_block (w := w) ((Qw.trans Qz q).block b bl)).trans Y1.out; have y2 := (World.cell?_of_block (w := w) ((Qw.trans Qz q).block b bl)).trans Y2.out; replace q0 : Hid (Qw w w') := Lib.hid (Qw.trans Qz q); clear q))
      | (go_at_call 87; ((with_reducible refine (CT.out _).mono ?_); rintro e w' ⟨rfl, q⟩; have HB : Hid (Bx w' w.heap.size #[.int .i64 2, .int .i64 0, .slice (some ⟨b, off, none⟩) 1 cap] 27) := Lib.hid (Bx.kept (by repeat (first | exact Bx.new _ _ _ | exact HB.out | refine Bx.alloc ?_ _ | refine Bx.drew ?_)) q); have x0 := HB.out.cell' 0 _ rfl; have x1 := HB.out.cell' 1 _ rfl; have x2 := HB.out.cell' 2 _ rfl; have y0 := (World.cell?_of_block (w := w) ((Qw.trans Qz q).block b bl)).trans Y0.out; have y1 := (World.cell?_of_block (w := w) ((Qw.trans Qz q).block b bl)).trans Y1.out; have y2 := (World.cell?_of_block (w := w) ((Qw.trans Qz q).block b bl)).trans Y2.out; replace q0 : Hid (Qw w w') := Lib.hid (Qw.trans Qz q); clear q))
      | (go_at_call 88; ((with_reducible refine (C1.out _ (Ow.kept HO.out Qz) (Tb.kept HT.out Qz) (KidsB.kept HK.out Qz)).mono ?_); rintro e w' ⟨rfl, q⟩; replace q0 : Hid (Qw w w') := Lib.hid (Qw.trans Qz q); clear q)))
    go_ret
    exact ⟨by rw [← EB.out]; rfl, q0.out⟩
theorem sx_valued_neg2 {op n : Int} {ks : List Sy.Ex} (hs : (decide (op = 0) || decide (op = 1)) = false) (h : WrC 89 (Sy.binb (.mk 2 0 [.mk op n ks])) 2 0 [.mk op n ks]) : WrC 54 (Sy.binb (.mk 2 0 [.mk op n ks])) 2 0 [.mk op n ks] := by
  intro a cap S w hO hT hk
  have hk0 := hk
  cases hk with
  | mk b off cap ks' ad cc hS h1 h2 hc hkk =>
    obtain ⟨z0, z1, z2⟩ := hc 0 (by simp)
    have KK := hkk 0 (by simp)
    have KL : KidsB w S (ad 0) (cc 0) ks := KK
    obtain ⟨m1, m2⟩ := KL.cap
    have cs := fun w1 => sw_simple 2 0 1 (some ⟨b, off, none⟩) cap h1 h2 w1
    have ct := fun w1 => sw_simple op n ks.length (ad 0) (cc 0) m1 m2 w1
    rw [show (decide ((2 : Int) = 0) || decide ((2 : Int) = 1)) = false by decide] at cs
    rw [hs] at ct
    have c1 : ∀ w1, Ow w1 → Tb w1 → KidsB w1 S (some ⟨b, off, none⟩) cap [.mk op n ks] → Calls Tryz.prog 89 #[.agg #[.int .i64 2, .int .i64 0, .slice (some ⟨b, off, none⟩) 1 cap]] w1 fun e w' => e = .returned (.string (bs (Sy.binb (.mk 2 0 [.mk op n ks])))) ∧ Qw w1 w' := fun w1 h1 h2 h3 => h (some ⟨b, off, none⟩) cap S w1 h1 h2 h3
    generalize Sy.binb (.mk 2 0 [.mk op n ks]) = r at c1
    clear h
    have y0 : w.cell? ⟨b, off, none⟩ = some (.int .i64 op) := by simpa [Sy.Ex.op] using z0
    have y1 : w.cell? ⟨b, off + 1, none⟩ = some (.int .i64 n) := by simpa [Sy.Ex.n] using z1
    have y2 : w.cell? ⟨b, off + 2, none⟩ = some (.slice (ad 0) ks.length (cc 0)) := by simpa [Sy.Ex.ks] using z2
    have bl := cell_lt z0
    have Y0 := Lib.hid y0
    have Y1 := Lib.hid y1
    have Y2 := Lib.hid y2
    have hne : b ≠ w.heap.size := by omega
    have CS := Lib.hid cs
    have CT := Lib.hid ct
    have C1 := Lib.hid c1
    have HO := Lib.hid hO
    have HT := Lib.hid hT
    have HK := Lib.hid hk0
    clear cs ct c1 hO hT hc hkk KK KL z0 z1 z2 hk0 y0 y1 y2 hs m1 m2
    have q0 : Hid (Qw w w) := Lib.hid (Qw.refl w)
    show Calls Tryz.prog 54 #[.agg #[.int .i64 2, .int .i64 0, .slice (some ⟨b, off, none⟩) 1 cap]] w _
    go_enter Tryz.func54, Tryz.ntmps54
    go_wp2_with (first
      | (go_at_call 87; ((with_reducible refine (CS.out _).mono ?_); rintro e w' ⟨rfl, q⟩; have HB : Hid (Bx w' w.heap.size #[.int .i64 2, .int .i64 0, .slice (some ⟨b, off, none⟩) 1 cap] 27) := Lib.hid (Bx.kept (by repeat (first | exact Bx.new _ _ _ | exact HB.out | refine Bx.alloc ?_ _ | refine Bx.drew ?_)) q); have x0 := HB.out.cell' 0 _ rfl; have x1 := HB.out.cell' 1 _ rfl; have x2 := HB.out.cell' 2 _ rfl; have y0 := (World.cell?_of_block (w := w) ((Qw.trans Qz q).block b bl)).trans Y0.out; have y1 := (World.cell?_of_block (w := w) ((Qw.trans Qz q).block b bl)).trans Y1.out; have y2 := (World.cell?_of_block (w := w) ((Qw.trans Qz q).block b bl)).trans Y2.out; replace q0 : Hid (Qw w w') := Lib.hid (Qw.trans Qz q); clear q))
      | (go_at_call 87; ((with_reducible refine (CT.out _).mono ?_); rintro e w' ⟨rfl, q⟩; have HB : Hid (Bx w' w.heap.size #[.int .i64 2, .int .i64 0, .slice (some ⟨b, off, none⟩) 1 cap] 27) := Lib.hid (Bx.kept (by repeat (first | exact Bx.new _ _ _ | exact HB.out | refine Bx.alloc ?_ _ | refine Bx.drew ?_)) q); have x0 := HB.out.cell' 0 _ rfl; have x1 := HB.out.cell' 1 _ rfl; have x2 := HB.out.cell' 2 _ rfl; have y0 := (World.cell?_of_block (w := w) ((Qw.trans Qz q).block b bl)).trans Y0.out; have y1 := (World.cell?_of_block (w := w) ((Qw.trans Qz q).block b bl)).trans Y1.out; have y2 := (World.cell?_of_block (w := w) ((Qw.trans Qz q).block b bl)).trans Y2.out; replace q0 : Hid (Qw w w') := Lib.hid (Qw.trans Qz q); clear q))
      | (go_at_call 89; ((with_reducible refine (C1.out _ (Ow.kept HO.out Qz) (Tb.kept HT.out Qz) (KidsB.kept HK.out Qz)).mono ?_); rintro e w' ⟨rfl, q⟩; replace q0 : Hid (Qw w w') := Lib.hid (Qw.trans Qz q); clear q)))
    go_ret
    exact ⟨rfl, q0.out⟩
theorem sx_valued (x : Sy.Ex) (hok : Sy.okx x = true) (hd : Sy.dpt x ≤ 16) : WrC 54 (Sy.bva x) x.op x.n x.ks := by
  obtain ⟨op, n, ks⟩ := x
  have A := sx_all (.mk op n ks) hok hd
  show WrC 54 (Sy.bva (.mk op n ks)) op n ks
  have eS : Sy.smp (.mk op n ks) = (decide (op = 0) || decide (op = 1)) := rfl
  cases hs : (decide (op = 0) || decide (op = 1)) with
  | true =>
    unfold Sy.bva; rw [eS, hs, if_pos rfl]
    exact sx_valued_simple hs A.c
  | false =>
    simp at hs
    by_cases h2 : op = 2
    · have hF := Sy.form hok
      obtain ⟨k, hk1, hk2⟩ : ∃ k, Sy.Ex.mk op n ks = .mk 2 0 [k] ∧ Sy.okx k = true := by
        generalize hx : Sy.Ex.mk op n ks = x at hF
        cases hF with
        | num n h0 h1 => cases hx; exact absurd rfl hs.1
        | un o x hx1 ho => cases hx; exact ⟨x, by rw [show ((o : Int)) = 2 from h2]; rfl, hx1⟩
        | bin o x y hx1 hy1 ho => cases hx; omega
      obtain ⟨op1, n1, ks1⟩ := k
      cases hk1
      have hd1 := dpt_kid1 hd
      have B := sx_all (.mk op1 n1 ks1) hk2 hd1
      have hl := Sy.blen_16 hk2 hd1
      have eT : Sy.smp (.mk 2 0 [.mk op1 n1 ks1]) = false := rfl
      unfold Sy.bva
      rw [eT, if_neg (by decide)]
      cases h3 : (decide (op1 = 0) || decide (op1 = 1)) with
      | true =>
        have eS : Sy.smp (.mk op1 n1 ks1) = true := h3
        simp only [eS]
        exact sx_valued_neg h3 (by omega) B.c
      | false =>
        have eS : Sy.smp (.mk op1 n1 ks1) = false := h3
        simp only [eS]
        exact sx_valued_neg2 h3 A.b
    · have e : Sy.bva (.mk op n ks) = Sy.binb (.mk op n ks) := by
        unfold Sy.bva
        rw [eS, if_neg (by simp [hs])]
        split
        · rename_i o k he; cases he; exact absurd rfl h2
        · rfl
      rw [e]
      exact sx_valued_other hs.1 hs.2 h2 A.b
end Go.Proofs.YtbcbnkapipimmaaGreatDoor
set_option linter.unusedVariables false
set_option linter.unusedSimpArgs false
namespace Go.Proofs
open Go.Shelf
def Tryz.laysM171_ren : Go.Shelf.Ren := ⟨fun | 171 => 53 | 243 => 86 | 246 => 118 | 283 => 150 | 284 => 151 | 285 => 152 | 286 => 153 | 129 => 171 | 317 => 170 | 318 => 172 | 319 => 173 | 320 => 174 | 337 => 182 | 338 => 183 | n => n, fun | 3 => 3 | 9 => 9 | 2 => 2 | 4 => 4 | 171 => 135 | 0 => 0 | 53 => 136 | 37 => 59 | 5 => 5 | 173 => 139 | 212 => 152 | 51 => 153 | 20 => 20 | 213 => 154 | 46 => 155 | 232 => 162 | 233 => 163 | n => n, fun | 17 => 3 | 18 => 4 | 19 => 5 | n => n⟩
theorem Tryz.laysM171 : Go.Proofs.LaysM.n171 Tryz.prog Tryz.laysM171_ren := {
  mixed := by kernel_rfl
  f129 := Tryz.func171.trans (congrArg some (by kernel_rfl))
  f171 := Tryz.func53.trans (congrArg some (by kernel_rfl))
  f243 := Tryz.func86.trans (congrArg some (by kernel_rfl))
  f246 := Tryz.func118.trans (congrArg some (by kernel_rfl))
  f283 := Tryz.func150.trans (congrArg some (by kernel_rfl))
  f284 := Tryz.func151.trans (congrArg some (by kernel_rfl))
  f285 := Tryz.func152.trans (congrArg some (by kernel_rfl))
  f286 := Tryz.func153.trans (congrArg some (by kernel_rfl))
  f317 := Tryz.func170.trans (congrArg some (by kernel_rfl))
  f318 := Tryz.func172.trans (congrArg some (by kernel_rfl))
  f319 := Tryz.func173.trans (congrArg some (by kernel_rfl))
  f320 := Tryz.func174.trans (congrArg some (by kernel_rfl))
  f337 := Tryz.func182.trans (congrArg some (by kernel_rfl))
  f338 := Tryz.func183.trans (congrArg some (by kernel_rfl))
  t0 := Tryz.underlying0
  a0 := Tryz.isAgg0
  z0 := Tryz.sizeOf0
  v0 := Tryz.zeroValue0
  t2 := Tryz.underlying2
  a2 := Tryz.isAgg2
  z2 := Tryz.sizeOf2
  v2 := Tryz.zeroValue2
  t3 := Tryz.underlying3
  a3 := Tryz.isAgg3
  z3 := Tryz.sizeOf3
  v3 := Tryz.zeroValue3
  t4 := Tryz.underlying4
  a4 := Tryz.isAgg4
  z4 := Tryz.sizeOf4
  v4 := Tryz.zeroValue4
  t5 := Tryz.underlying5
  a5 := Tryz.isAgg5
  z5 := Tryz.sizeOf5
  v5 := Tryz.zeroValue5
  t9 := Tryz.underlying9
  a9 := Tryz.isAgg9
  z9 := Tryz.sizeOf9
  v9 := Tryz.zeroValue9
  t20 := Tryz.underlying20
  a20 := Tryz.isAgg20
  z20 := Tryz.sizeOf20
  v20 := Tryz.zeroValue20
  t37 := Tryz.underlying59
  a37 := Tryz.isAgg59
  z37 := Tryz.sizeOf59
  v37 := Tryz.zeroValue59
  t46 := Tryz.underlying155
  a46 := Tryz.isAgg155
  z46 := Tryz.sizeOf155
  v46 := Tryz.zeroValue155
  t51 := Tryz.underlying153
  a51 := Tryz.isAgg153
  z51 := Tryz.sizeOf153
  v51 := Tryz.zeroValue153
  t53 := Tryz.underlying136
  a53 := Tryz.isAgg136
  z53 := Tryz.sizeOf136
  v53 := Tryz.zeroValue136
  t171 := Tryz.underlying135
  a171 := Tryz.isAgg135
  z171 := Tryz.sizeOf135
  v171 := Tryz.zeroValue135
  t173 := Tryz.underlying139
  a173 := Tryz.isAgg139
  z173 := Tryz.sizeOf139
  v173 := Tryz.zeroValue139
  t212 := Tryz.underlying152
  a212 := Tryz.isAgg152
  z212 := Tryz.sizeOf152
  v212 := Tryz.zeroValue152
  t213 := Tryz.underlying154
  a213 := Tryz.isAgg154
  z213 := Tryz.sizeOf154
  t232 := Tryz.underlying162
  a232 := Tryz.isAgg162
  z232 := Tryz.sizeOf162
  v232 := Tryz.zeroValue162
  t233 := Tryz.underlying163
  a233 := Tryz.isAgg163
  z233 := Tryz.sizeOf163
  v233 := Tryz.zeroValue163
  g17 := by kernel_rfl
  g18 := by kernel_rfl
  g19 := by kernel_rfl
  i0 := by kernel_rfl
  i2 := by kernel_rfl
  i3 := by kernel_rfl
  i4 := by kernel_rfl
  i5 := by kernel_rfl
  i9 := by kernel_rfl
  i20 := by kernel_rfl
  i37 := by kernel_rfl
  i46 := by kernel_rfl
  i51 := by kernel_rfl
  i53 := by kernel_rfl
  i171 := by kernel_rfl
  i173 := by kernel_rfl
  i212 := by kernel_rfl
  i232 := by kernel_rfl
  i233 := by kernel_rfl
  m17 := by kernel_rfl
  m18 := by kernel_rfl
  m19 := by kernel_rfl }
open Go.RowKit Go.Sort Go.Lib in
theorem Tryz.strconv_Itoa (n : Int) (h0 : -9223372036854775808 ≤ n) (h1 : n ≤ 9223372036854775807) (w : World) (htab : Lib.TabIs Tryz.prog w "internal/strconv.uint64pow10" .u64 Lib.pow10Tab) :
    Calls Tryz.prog 53 #[.int .i64 n] w fun e w' => e = .returned (.string ⟨(Lib.itoa n).toArray⟩) ∧ ∃ k os, w' = grow (w.drewN k) os := Any.strconv_Itoa Tryz.laysM171 n h0 h1 w htab
end Go.Proofs
set_option linter.unusedVariables false
set_option linter.unusedSimpArgs false
namespace Go.Proofs.YtbcbnkapipimmaaGreatDoor
namespace Sy
open Lx
def sz : Ex → Nat
  | .mk op n ks => 1 + (ks.attach.map (fun ⟨k, h⟩ => sz k)).sum
theorem joinb_len : ∀ ps : List (List UInt8), (joinb ps).length ≤ (ps.map (fun p => p.length + 1)).sum
  | [] => Nat.zero_le _
  | p :: ps => by
    have := joinb_len ps
    rw [joinb]
    split
    · simp only [List.map_cons, List.sum_cons]; omega
    · simp only [List.length_append, List.length_cons, List.length_nil, List.map_cons, List.sum_cons]; omega
theorem decs_len {n : Int} {m : Nat} (h : cnt n m = true) (hm : m ≤ 99999) : (decs n).length ≤ 5 := by
  simp [cnt] at h
  exact dec_len 4 n.toNat (by omega)
end Sy
end Go.Proofs.YtbcbnkapipimmaaGreatDoor
set_option linter.unusedVariables false
set_option linter.unusedSimpArgs false
namespace Go.Proofs.YtbcbnkapipimmaaGreatDoor
open Go.RowKit
theorem qw_grow {w : World} {k : Nat} {os : Array Obj} : Qw w (Go.Sort.grow (w.drewN k) os) := by
  have h : Below w.heap.size w (w.drewN k) := bel_drewN (Below.refl _ _) _
  exact h.trans ⟨rfl, rfl, rfl, by simp [Go.Sort.grow, World.drewN], fun j hj => by
    have : j < (w.drewN k).heap.size := hj
    simp only [Go.Sort.grow, Array.getElem?_append, this, if_true]⟩
theorem Sy.bva_len2 {x : Sy.Ex} (h : Sy.okx x = true) (d : Sy.dpt x ≤ 16) : (Sy.bva x).length ≤ 2000002 := by
  obtain ⟨l1, l2⟩ := Sy.blen_16 h d
  obtain ⟨op, n, ks⟩ := x
  have lb := binb_len (.mk op n ks)
  unfold Sy.bva
  split
  · omega
  · split
    · rename_i o k heq
      cases heq
      split
      · have hk : Sy.okx k = true := by rw [Sy.okx_mk] at h; simp at h; exact h.2
        have := Sy.blen_16 hk (dpt_kid1 d)
        rw [List.length_cons]; omega
      · omega
    · omega
theorem itW (n : Int) (h0 : 0 ≤ n) (h1 : n ≤ 99999) (w : World) (hT : Tb w) : Calls Tryz.prog 53 #[.int .i64 n] w fun e w' => e = .returned (.string (bs (Sy.decs n))) ∧ Qw w w' := by
  refine (Tryz.strconv_Itoa n (by omega) (by omega) w (hT w (Below.refl _ _))).mono ?_
  rintro e w' ⟨rfl, k, os, rfl⟩
  refine ⟨?_, qw_grow⟩
  have : Lib.itoa n = Sy.decs n := by
    unfold Lib.itoa Sy.decs
    rw [if_neg (by omega)]
  rw [this]; rfl
set_option maxRecDepth 100000 in
set_option maxHeartbeats 4000000 in
theorem sx_control1 {kind label n : Int} {skip : Bool} {wl wc ll lc xl xc : Nat} {wa la xa : Option Addr} {lop ln xop xn : Int} (w : World) (r s : List UInt8) (lr : r.length ≤ 1000000000000) (ls : s.length ≤ 1000000000000) (cr : ∀ w1, Qw w w1 → Calls Tryz.prog 90 #[.agg #[.int .i64 lop, .int .i64 ln, .slice la ll lc]] w1 fun e w' => e = .returned (.string (bs r)) ∧ Qw w1 w') (cs : ∀ w1, Qw w w1 → Calls Tryz.prog 84 #[.agg #[.int .i64 xop, .int .i64 xn, .slice xa xl xc]] w1 fun e w' => e = .returned (.string (bs s)) ∧ Qw w1 w') :
    Calls Tryz.prog 55 #[.agg #[.int .i64 1, .int .i64 label, .bool skip, .slice wa wl wc, .int .i64 lop, .int .i64 ln, .slice la ll lc, .int .i64 xop, .int .i64 xn, .slice xa xl xc, .int .i64 n]] w fun e w' => e = .returned (.string (bs (r ++ ([32] ++ ([61] ++ ([32] ++ s)))))) ∧ Qw w w' := by
  have eB : bs r ++ bs [32, 61, 32] ++ bs s = bs (r ++ ([32] ++ ([61] ++ ([32] ++ s)))) := by first | (simp only [bs_app, List.append_assoc]; done) | (simp only [bs_app, List.append_assoc]; rfl)
  have hz1 : ¬ 9223372036854775807 < (bs r).size + 3 := by simp only [bs_size]; omega
  have hz2 : ¬ 9223372036854775807 < (bs r).size + 3 + (bs s).size := by simp only [bs_size]; omega
  generalize r ++ ([32] ++ ([61] ++ ([32] ++ s))) = out at eB ⊢
  have EB := Lib.hid eB
  have Cr := Lib.hid cr
  have Cs := Lib.hid cs
  clear eB cr lr cs ls
  have q0 : Hid (Qw w w) := Lib.hid (Qw.refl w)
  go_enter Tryz.func55, Tryz.ntmps55
  go_upto_region 3 with fail
  refine code_of (fun w' => Qw w w' ∧ Bx w' w.heap.size #[.int .i64 1, .int .i64 label, .bool skip, .slice wa wl wc, .int .i64 lop, .int .i64 ln, .slice la ll lc, .int .i64 xop, .int .i64 xn, .slice xa xl xc, .int .i64 n] 32) ⟨Qz, by repeat (first | exact Bx.new _ _ _ | refine Bx.alloc ?_ _ | refine Bx.drew ?_)⟩ ?_
  rintro w1 ⟨q1, B⟩
  have x4 := B.kcell 4 _ rfl
  have x5 := B.kcell 5 _ rfl
  have x6 := B.kcell 6 _ rfl
  have x7 := B.kcell 7 _ rfl
  have x8 := B.kcell 8 _ rfl
  have x9 := B.kcell 9 _ rfl
  have x10 := B.kcell 10 _ rfl
  have Dr : Hid (∀ p : Kept w1, Calls Tryz.prog 90 #[.agg #[.int .i64 lop, .int .i64 ln, .slice la ll lc]] p.v fun e w' => e = .returned (.string (bs r)) ∧ Qw p.v w') := Lib.hid fun p => Cr.out _ (q1.trans p.h)
  have Ds : Hid (∀ p : Kept w1, Calls Tryz.prog 84 #[.agg #[.int .i64 xop, .int .i64 xn, .slice xa xl xc]] p.v fun e w' => e = .returned (.string (bs s)) ∧ Qw p.v w') := Lib.hid fun p => Cs.out _ (q1.trans p.h)
  clear Cr Cs q0
  refine region_kept (by kernel_rfl) (by kernel_rfl) ?_
  repeat (go_big_quiet_step (first | (go_at_call 90; with_reducible exact Kept.call (Dr.out _)) | (go_at_call 84; with_reducible exact Kept.call (Ds.out _))))
  refine wpQuiet_nil ?_
  intro w2 q
  go_wp2_with fail
  go_ret
  exact ⟨by rw [← EB.out]; rfl, q1.trans q⟩
set_option maxRecDepth 100000 in
set_option maxHeartbeats 4000000 in
theorem sx_control3 {kind label n : Int} {skip : Bool} {wl wc ll lc xl xc : Nat} {wa la xa : Option Addr} {lop ln xop xn : Int} (w : World) (r s : List UInt8) (lr : r.length ≤ 1000000000000) (ls : s.length ≤ 1000000000000) (cr : ∀ w1, Qw w w1 → Calls Tryz.prog 89 #[.agg #[.int .i64 xop, .int .i64 xn, .slice xa xl xc]] w1 fun e w' => e = .returned (.string (bs r)) ∧ Qw w1 w') (cs : ∀ w1, Qw w w1 → Calls Tryz.prog 54 #[.agg #[.int .i64 lop, .int .i64 ln, .slice la ll lc]] w1 fun e w' => e = .returned (.string (bs s)) ∧ Qw w1 w') :
    Calls Tryz.prog 55 #[.agg #[.int .i64 3, .int .i64 label, .bool skip, .slice wa wl wc, .int .i64 lop, .int .i64 ln, .slice la ll lc, .int .i64 xop, .int .i64 xn, .slice xa xl xc, .int .i64 n]] w fun e w' => e = .returned (.string (bs (Sy.cIF ++ ([32] ++ (r ++ ([32] ++ (Sy.cGOTO ++ ([32] ++ s)))))))) ∧ Qw w w' := by
  have eB : bs [73, 70, 32] ++ bs r ++ bs [32, 71, 79, 84, 79, 32] ++ bs s = bs (Sy.cIF ++ ([32] ++ (r ++ ([32] ++ (Sy.cGOTO ++ ([32] ++ s)))))) := by first | (simp only [bs_app, List.append_assoc]; done) | (simp only [bs_app, List.append_assoc]; rfl)
  have hz1 : ¬ 9223372036854775807 < 3 + (bs r).size := by simp only [bs_size]; omega
  have hz2 : ¬ 9223372036854775807 < 3 + (bs r).size + 6 := by simp only [bs_size]; omega
  have hz3 : ¬ 9223372036854775807 < 3 + (bs r).size + 6 + (bs s).size := by simp only [bs_size]; omega
  generalize Sy.cIF ++ ([32] ++ (r ++ ([32] ++ (Sy.cGOTO ++ ([32] ++ s))))) = out at eB ⊢
  have EB := Lib.hid eB
  have Cr := Lib.hid cr
  have Cs := Lib.hid cs
  clear eB cr lr cs ls
  have q0 : Hid (Qw w w) := Lib.hid (Qw.refl w)
  go_enter Tryz.func55, Tryz.ntmps55
  go_upto_region 5 with fail
  refine code_of (fun w' => Qw w w' ∧ Bx w' w.heap.size #[.int .i64 3, .int .i64 label, .bool skip, .slice wa wl wc, .int .i64 lop, .int .i64 ln, .slice la ll lc, .int .i64 xop, .int .i64 xn, .slice xa xl xc, .int .i64 n] 32) ⟨Qz, by repeat (first | exact Bx.new _ _ _ | refine Bx.alloc ?_ _ | refine Bx.drew ?_)⟩ ?_
  rintro w1 ⟨q1, B⟩
  have x4 := B.kcell 4 _ rfl
  have x5 := B.kcell 5 _ rfl
  have x6 := B.kcell 6 _ rfl
  have x7 := B.kcell 7 _ rfl
  have x8 := B.kcell 8 _ rfl
  have x9 := B.kcell 9 _ rfl
  have x10 := B.kcell 10 _ rfl
  have Dr : Hid (∀ p : Kept w1, Calls Tryz.prog 89 #[.agg #[.int .i64 xop, .int .i64 xn, .slice xa xl xc]] p.v fun e w' => e = .returned (.string (bs r)) ∧ Qw p.v w') := Lib.hid fun p => Cr.out _ (q1.trans p.h)
  have Ds : Hid (∀ p : Kept w1, Calls Tryz.prog 54 #[.agg #[.int .i64 lop, .int .i64 ln, .slice la ll lc]] p.v fun e w' => e = .returned (.string (bs s)) ∧ Qw p.v w') := Lib.hid fun p => Cs.out _ (q1.trans p.h)
  clear Cr Cs q0
  refine region_kept (by kernel_rfl) (by kernel_rfl) ?_
  repeat (go_big_quiet_step (first | (go_at_call 89; with_reducible exact Kept.call (Dr.out _)) | (go_at_call 54; with_reducible exact Kept.call (Ds.out _))))
  refine wpQuiet_nil ?_
  intro w2 q
  go_wp2_with fail
  go_ret
  exact ⟨by rw [← EB.out]; rfl, q1.trans q⟩
set_option maxRecDepth 100000 in
set_option maxHeartbeats 4000000 in
theorem sx_control2 {kind label n : Int} {skip : Bool} {wl wc ll lc xl xc : Nat} {wa la xa : Option Addr} {lop ln xop xn : Int} (w : World) (r : List UInt8) (lr : r.length ≤ 1000000000000) (cr : ∀ w1, Qw w w1 → Calls Tryz.prog 54 #[.agg #[.int .i64 xop, .int .i64 xn, .slice xa xl xc]] w1 fun e w' => e = .returned (.string (bs r)) ∧ Qw w1 w') :
    Calls Tryz.prog 55 #[.agg #[.int .i64 2, .int .i64 label, .bool skip, .slice wa wl wc, .int .i64 lop, .int .i64 ln, .slice la ll lc, .int .i64 xop, .int .i64 xn, .slice xa xl xc, .int .i64 n]] w fun e w' => e = .returned (.string (bs (Sy.cGOTO ++ ([32] ++ r)))) ∧ Qw w w' := by
  have eB : bs [71, 79, 84, 79, 32] ++ bs r = bs (Sy.cGOTO ++ ([32] ++ r)) := by first | (simp only [bs_app, List.append_assoc]; done) | (simp only [bs_app, List.append_assoc]; rfl)
  have hz1 : ¬ 9223372036854775807 < 5 + (bs r).size := by simp only [bs_size]; omega
  generalize Sy.cGOTO ++ ([32] ++ r) = out at eB ⊢
  have EB := Lib.hid eB
  have Cr := Lib.hid cr
  clear eB cr lr
  have q0 : Hid (Qw w w) := Lib.hid (Qw.refl w)
  go_enter Tryz.func55, Tryz.ntmps55
  go_wp2_with (go_at_call 54; ((with_reducible refine (Cr.out _ Qz).mono ?_); rintro e w' ⟨rfl, q⟩; replace q0 : Hid (Qw w w') := Lib.hid (Qw.trans Qz q); clear q))
  go_ret
  exact ⟨by rw [← EB.out]; rfl, q0.out⟩
set_option maxRecDepth 100000 in
set_option maxHeartbeats 4000000 in
theorem sx_control4 {kind label n : Int} {skip : Bool} {wl wc ll lc xl xc : Nat} {wa la xa : Option Addr} {lop ln xop xn : Int} (w : World) (r s : List UInt8) (lr : r.length ≤ 1000000000000) (ls : s.length ≤ 1000000000000) (cr : ∀ w1, Qw w w1 → Calls Tryz.prog 89 #[.agg #[.int .i64 xop, .int .i64 xn, .slice xa xl xc]] w1 fun e w' => e = .returned (.string (bs r)) ∧ Qw w1 w') (cs : ∀ w1, Qw w w1 → Calls Tryz.prog 53 #[.int .i64 n] w1 fun e w' => e = .returned (.string (bs s)) ∧ Qw w1 w') :
    Calls Tryz.prog 55 #[.agg #[.int .i64 4, .int .i64 label, .bool skip, .slice wa wl wc, .int .i64 lop, .int .i64 ln, .slice la ll lc, .int .i64 xop, .int .i64 xn, .slice xa xl xc, .int .i64 n]] w fun e w' => e = .returned (.string (bs (Sy.cWHILE ++ ([32] ++ (r ++ ([32] ++ (Sy.cDO ++ ([32] ++ s)))))))) ∧ Qw w w' := by
  have eB : bs [87, 72, 73, 76, 69, 32] ++ bs r ++ bs [32, 68, 79, 32] ++ bs s = bs (Sy.cWHILE ++ ([32] ++ (r ++ ([32] ++ (Sy.cDO ++ ([32] ++ s)))))) := by first | (simp only [bs_app, List.append_assoc]; done) | (simp only [bs_app, List.append_assoc]; rfl)
  have hz1 : ¬ 9223372036854775807 < 6 + (bs r).size := by simp only [bs_size]; omega
  have hz2 : ¬ 9223372036854775807 < 6 + (bs r).size + 4 := by simp only [bs_size]; omega
  have hz3 : ¬ 9223372036854775807 < 6 + (bs r).size + 4 + (bs s).size := by simp only [bs_size]; omega
  generalize Sy.cWHILE ++ ([32] ++ (r ++ ([32] ++ (Sy.cDO ++ ([32] ++ s))))) = out at eB ⊢
  have EB := Lib.hid eB
  have Cr := Lib.hid cr
  have Cs := Lib.hid cs
  clear eB cr lr cs ls
  have q0 : Hid (Qw w w) := Lib.hid (Qw.refl w)
  go_enter Tryz.func55, Tryz.ntmps55
  go_upto_region 9 with fail
  refine code_of (fun w' => Qw w w' ∧ Bx w' w.heap.size #[.int .i64 4, .int .i64 label, .bool skip, .slice wa wl wc, .int .i64 lop, .int .i64 ln, .slice la ll lc, .int .i64 xop, .int .i64 xn, .slice xa xl xc, .int .i64 n] 32) ⟨Qz, by repeat (first | exact Bx.new _ _ _ | refine Bx.alloc ?_ _ | refine Bx.drew ?_)⟩ ?_
  rintro w1 ⟨q1, B⟩
  have x4 := B.kcell 4 _ rfl
  have x5 := B.kcell 5 _ rfl
  have x6 := B.kcell 6 _ rfl
  have x7 := B.kcell 7 _ rfl
  have x8 := B.kcell 8 _ rfl
  have x9 := B.kcell 9 _ rfl
  have x10 := B.kcell 10 _ rfl
  have Dr : Hid (∀ p : Kept w1, Calls Tryz.prog 89 #[.agg #[.int .i64 xop, .int .i64 xn, .slice xa xl xc]] p.v fun e w' => e = .returned (.string (bs r)) ∧ Qw p.v w') := Lib.hid fun p => Cr.out _ (q1.trans p.h)
  have Ds : Hid (∀ p : Kept w1, Calls Tryz.prog 53 #[.int .i64 n] p.v fun e w' => e = .returned (.string (bs s)) ∧ Qw p.v w') := Lib.hid fun p => Cs.out _ (q1.trans p.h)
  clear Cr Cs q0
  refine region_kept (by kernel_rfl) (by kernel_rfl) ?_
  repeat (go_big_quiet_step (first | (go_at_call 89; with_reducible exact Kept.call (Dr.out _)) | (go_at_call 53; with_reducible exact Kept.call (Ds.out _))))
  refine wpQuiet_nil ?_
  intro w2 q
  go_wp2_with fail
  go_ret
  exact ⟨by rw [← EB.out]; rfl, q1.trans q⟩
set_option maxRecDepth 100000 in
set_option maxHeartbeats 4000000 in
theorem sx_control5 {kind label n : Int} {skip : Bool} {wl wc ll lc xl xc : Nat} {wa la xa : Option Addr} {lop ln xop xn : Int} (w : World) (r : List UInt8) (lr : r.length ≤ 1000000000000) (cr : ∀ w1, Qw w w1 → Calls Tryz.prog 53 #[.int .i64 n] w1 fun e w' => e = .returned (.string (bs r)) ∧ Qw w1 w') :
    Calls Tryz.prog 55 #[.agg #[.int .i64 5, .int .i64 label, .bool skip, .slice wa wl wc, .int .i64 lop, .int .i64 ln, .slice la ll lc, .int .i64 xop, .int .i64 xn, .slice xa xl xc, .int .i64 n]] w fun e w' => e = .returned (.string (bs (Sy.cEND ++ ([32] ++ r)))) ∧ Qw w w' := by
  have eB : bs [69, 78, 68, 32] ++ bs r = bs (Sy.cEND ++ ([32] ++ r)) := by first | (simp only [bs_app, List.append_assoc]; done) | (simp only [bs_app, List.append_assoc]; rfl)
  have hz1 : ¬ 9223372036854775807 < 4 + (bs r).size := by simp only [bs_size]; omega
  generalize Sy.cEND ++ ([32] ++ r) = out at eB ⊢
  have EB := Lib.hid eB
  have Cr := Lib.hid cr
  clear eB cr lr
  have q0 : Hid (Qw w w) := Lib.hid (Qw.refl w)
  go_enter Tryz.func55, Tryz.ntmps55
  go_wp2_with (go_at_call 53; ((with_reducible refine (Cr.out _ Qz).mono ?_); rintro e w' ⟨rfl, q⟩; replace q0 : Hid (Qw w w') := Lib.hid (Qw.trans Qz q); clear q))
  go_ret
  exact ⟨by rw [← EB.out]; rfl, q0.out⟩
set_option maxRecDepth 100000 in
set_option maxHeartbeats 4000000 in
theorem sx_control6 {kind label n : Int} {skip : Bool} {wl wc ll lc xl xc : Nat} {wa la xa : Option Addr} {lop ln xop xn : Int} (w : World) (r : List UInt8) (k1 : (kind == 1) = false) (k2 : (kind == 2) = false) (k3 : (kind == 3) = false) (k4 : (kind == 4) = false) (k5 : (kind == 5) = false) (lr : r.length ≤ 1000000000000) (cr : ∀ w1, Qw w w1 → Calls Tryz.prog 53 #[.int .i64 n] w1 fun e w' => e = .returned (.string (bs r)) ∧ Qw w1 w') :
    Calls Tryz.prog 55 #[.agg #[.int .i64 kind, .int .i64 label, .bool skip, .slice wa wl wc, .int .i64 lop, .int .i64 ln, .slice la ll lc, .int .i64 xop, .int .i64 xn, .slice xa xl xc, .int .i64 n]] w fun e w' => e = .returned (.string (bs (79 :: r))) ∧ Qw w w' := by
  have eB : bs [79] ++ bs r = bs (79 :: r) := by first | (simp only [bs_app, List.append_assoc]; done) | (simp only [bs_app, List.append_assoc]; rfl)
  have hz1 : ¬ 9223372036854775807 < 1 + (bs r).size := by simp only [bs_size]; omega
  generalize 79 :: r = out at eB ⊢
  have EB := Lib.hid eB
  have Cr := Lib.hid cr
  clear eB cr lr
  have q0 : Hid (Qw w w) := Lib.hid (Qw.refl w)
  go_enter Tryz.func55, Tryz.ntmps55
  go_wp2_with (go_at_call 53; ((with_reducible refine (Cr.out _ Qz).mono ?_); rintro e w' ⟨rfl, q⟩; replace q0 : Hid (Qw w w') := Lib.hid (Qw.trans Qz q); clear q))
  go_ret
  exact ⟨by rw [← EB.out]; rfl, q0.out⟩
theorem sx_control (b : Sy.Bl) (h : Sy.vldb b = true) (h0 : b.kind ≠ 0) (cs : Array Value) (S : Nat → Prop) (w : World) (hO : Ow w) (hT : Tb w) (hB : BlkB w S b cs) : Calls Tryz.prog 55 #[.agg cs] w fun e w' => e = .returned (.string (bs (Sy.ctl b))) ∧ Qw w w' := by
  obtain ⟨kind, label, skip, words, left, x, n⟩ := b
  obtain ⟨wa, wc, la, lc, xa, xc, rfl, hW, hL, hX⟩ := hB
  obtain ⟨lop, ln, lks⟩ := left
  obtain ⟨xop, xn, xks⟩ := x
  simp only [Sy.vldb, Sy.okb, Sy.limb, Bool.and_eq_true] at h
  obtain ⟨⟨_, h⟩, ⟨⟨_, hl⟩, hx⟩⟩ := h
  rw [if_neg h0] at h
  simp only [Bool.and_eq_true] at h
  replace h := h.2
  have hl : Sy.dpt (.mk lop ln lks) ≤ 16 := of_decide_eq_true hl
  have hx : Sy.dpt (.mk xop xn xks) ≤ 16 := of_decide_eq_true hx
  have dl : ∀ n : Int, Sy.cnt n 99999 = true → (Sy.decs n).length ≤ 5 := fun n h => Sy.decs_len h (by decide)
  have c3 : ∀ n : Int, Sy.cnt n 3 = true → Sy.cnt n 99999 = true := fun n h => by simp [Sy.cnt] at h ⊢; omega
  have cb : ∀ n : Int, Sy.cnt n 99999 = true → 0 ≤ n ∧ n ≤ 99999 := fun n h => by simp [Sy.cnt] at h; omega
  show Calls Tryz.prog 55 #[.agg #[.int .i64 kind, .int .i64 label, .bool skip, .slice wa words.length wc, .int .i64 lop, .int .i64 ln, .slice la lks.length lc, .int .i64 xop, .int .i64 xn, .slice xa xks.length xc, .int .i64 n]] w _
  have hL' : KidsB w S la lc lks := hL
  have hX' : KidsB w S xa xc xks := hX
  simp only at h0 h
  by_cases k1 : kind = 1
  · subst k1
    simp [Sy.ctl] at h ⊢
    have A := sx_all _ h.1.1 hl
    have B := sx_all _ h.1.2 hx
    have l1 := Sy.blen_16 h.1.1 hl
    have l2 := Sy.blen_16 h.1.2 hx
    have b1 := binb_len (.mk lop ln lks)
    exact sx_control1 (kind := 0) w (35 :: Sy.bce (.mk lop ln lks)) (Sy.bpr (.mk xop xn xks)) (by unfold Sy.bce; split <;> simp <;> omega) (by omega) (fun w1 q => A.v la lc S w1 (hO.kept q) (hT.kept q) (hL'.kept q)) (fun w1 q => B.p xa xc S w1 (hO.kept q) (hT.kept q) (hX'.kept q))
  · have k1' : (kind == 1) = false := beq_eq_false_iff_ne.2 k1
    by_cases k2 : kind = 2
    · subst k2
      simp [Sy.ctl] at h ⊢
      have l2 := Sy.bva_len2 h.1.2 hx
      exact sx_control2 (kind := 0) w (Sy.bva (.mk xop xn xks)) (by omega) (fun w1 q => sx_valued _ h.1.2 hx xa xc S w1 (hO.kept q) (hT.kept q) (hX'.kept q))
    · have k2' : (kind == 2) = false := beq_eq_false_iff_ne.2 k2
      by_cases k3 : kind = 3
      · subst k3
        simp [Sy.ctl] at h ⊢
        have B := sx_all _ h.1.2 hx
        have l2 := Sy.blen_16 h.1.2 hx
        have b2 := binb_len (.mk xop xn xks)
        have l1 := Sy.bva_len2 h.1.1 hl
        exact sx_control3 (kind := 0) w (Sy.binb (.mk xop xn xks)) (Sy.bva (.mk lop ln lks)) (by omega) (by omega) (fun w1 q => B.b xa xc S w1 (hO.kept q) (hT.kept q) (hX'.kept q)) (fun w1 q => sx_valued _ h.1.1 hl la lc S w1 (hO.kept q) (hT.kept q) (hL'.kept q))
      · by_cases k4 : kind = 4
        · subst k4
          simp [Sy.ctl] at h ⊢
          have B := sx_all _ h.1.2 hx
          have l2 := Sy.blen_16 h.1.2 hx
          have b2 := binb_len (.mk xop xn xks)
          have hn := c3 _ h.2
          have dn := dl _ hn
          obtain ⟨n0, n1⟩ := cb _ hn
          exact sx_control4 (kind := 0) w (Sy.binb (.mk xop xn xks)) (Sy.decs n) (by omega) (by omega) (fun w1 q => B.b xa xc S w1 (hO.kept q) (hT.kept q) (hX'.kept q)) (fun w1 q => itW n n0 n1 w1 (hT.kept q))
        · by_cases k5 : kind = 5
          · subst k5
            simp [Sy.ctl] at h ⊢
            have hn := c3 _ h.2
            have dn := dl _ hn
            obtain ⟨n0, n1⟩ := cb _ hn
            exact sx_control5 (kind := 0) w (Sy.decs n) (by omega) (fun w1 q => itW n n0 n1 w1 (hT.kept q))
          · have k3' : (kind == 3) = false := beq_eq_false_iff_ne.2 k3
            have k4' : (kind == 4) = false := beq_eq_false_iff_ne.2 k4
            have k5' : (kind == 5) = false := beq_eq_false_iff_ne.2 k5
            by_cases k6 : kind = 6
            · simp [k1, k2, k3, k4, k5, k6] at h
              have hn := h.2
              have dn := dl _ hn
              obtain ⟨n0, n1⟩ := cb _ hn
              have e : Sy.ctl ⟨kind, label, skip, words, .mk lop ln lks, .mk xop xn xks, n⟩ = 79 :: Sy.decs n := by simp [Sy.ctl, k1, k2, k3, k4, k5]
              rw [e]
              exact sx_control6 w (Sy.decs n) k1' k2' k3' k4' k5' (by omega) (fun w1 q => itW n n0 n1 w1 (hT.kept q))
            · simp [k1, k2, k3, k4, k5, k6] at h
end Go.Proofs.YtbcbnkapipimmaaGreatDoor

