import Derived.Test.YthfcimfoinidbaaGreatDoorZb24
import Derived.Test.YthfcimfoinidbaaGreatDoorRows
import Derived.Shelf.Strings.Builder1
import Derived.Shelf.Strings.Builder2
import Derived.Shelf.Small.Strs
import Derived.Shelf.Strconv.Itoa0
import Derived.Shelf.Strconv.Itoa1
import Derived.Shelf.LaysM
import Derived.Shelf.Strconv.Itoa2
import Derived.Shelf.Strconv.Itoa3
import Derived.Shelf.Strings.Search1
import Derived.Shelf.Strings.Search2
import Derived.Shelf.Strings.Search3
import Derived.Shelf.Strings.Count
import Derived.Shelf.Strings.Shaped
import Derived.Shelf.Strconv.AppendUint10
import Derived.Shelf.Strconv.AppendInt10
import Derived.Shelf.Strconv.AppendIntPublic10
set_option linter.unusedVariables false
set_option linter.unusedSimpArgs false
namespace Go.Proofs.YthfcimfoinidbaaGreatDoor
open Go.RowKit
structure WrA (op n : Int) (ks : List Sy.Ex) : Prop where
  p : WrC 72 (Sy.bpr (.mk op n ks)) op n ks
  c : WrC 94 (Sy.bcl (.mk op n ks)) op n ks
  b : WrC 95 (Sy.binb (.mk op n ks)) op n ks
  v : WrC 96 (35 :: Sy.bce (.mk op n ks)) op n ks
theorem binb_len (x : Sy.Ex) : (Sy.binb x).length = (Sy.bpr x).length + 2 := by simp [Sy.binb]
theorem sx_mk {op n : Int} {ks : List Sy.Ex} (l : (Sy.bpr (.mk op n ks)).length ≤ 2000000 ∧ (Sy.bcl (.mk op n ks)).length ≤ 2000000) (hp : WrC 72 (Sy.bpr (.mk op n ks)) op n ks) (hc : WrC 94 (Sy.bcl (.mk op n ks)) op n ks) : WrA op n ks := by
  have hb := sw_inBrackets (by omega) hp
  exact ⟨hp, hc, hb, sw_variable (by omega) (by omega) hc hb⟩
theorem dpt_kid1 {op n : Int} {x : Sy.Ex} {d : Nat} (h : Sy.dpt (.mk op n [x]) ≤ d) : Sy.dpt x ≤ d := by
  rw [Sy.dpt_mk] at h
  simp [Sy.dmx] at h
  omega
theorem dpt_kid2 {op n : Int} {x y : Sy.Ex} {d : Nat} (h : Sy.dpt (.mk op n [x, y]) ≤ d) : Sy.dpt x ≤ d ∧ Sy.dpt y ≤ d := by
  rw [Sy.dpt_mk] at h
  simp [Sy.dmx] at h
  omega
theorem sx_all (x : Sy.Ex) : Sy.okx x = true → Sy.dpt x ≤ 16 → WrA x.op x.n x.ks := by
  induction x using Sy.Ex.ind with
  | h op n ks ih =>
    intro hok hd
    show WrA op n ks
    have hl := Sy.blen_16 hok hd
    have hF := Sy.form hok
    cases hF with
    | num n h0 h1 =>
      have hc := sw_closed_num h0 h1
      have e1 : Sy.bpr (.mk 0 n []) = Sy.bcl (.mk 0 n []) := by simp [Sy.bpr, Sy.bcl, Sy.bpc]
      refine sx_mk hl ?_ hc
      rw [e1]
      exact sw_printed_cl (o := 0) (.inl rfl) hc
    | un o x hx ho =>
      obtain ⟨op1, n1, ks1⟩ := x
      have hT : ((o : Int)).toNat = o := by omega
      have hd1 := dpt_kid1 hd
      have A := ih (.mk op1 n1 ks1) (by simp) hx hd1
      have hl1 := Sy.blen_16 hx hd1
      by_cases o1 : o = 1
      · subst o1
        have e1 : Sy.bpr (.mk ((1 : Nat) : Int) 0 [.mk op1 n1 ks1]) = 35 :: Sy.bce (.mk op1 n1 ks1) := by
          simp only [Sy.bpr, Sy.bpc, Sy.bce, Sy.smp, Sy.binb, Sy.bcl]; simp [Sy.bpr]
        have e2 : Sy.bcl (.mk ((1 : Nat) : Int) 0 [.mk op1 n1 ks1]) = 35 :: Sy.bce (.mk op1 n1 ks1) := by
          simp only [Sy.bcl, Sy.bpc, Sy.bce, Sy.smp, Sy.binb]; simp [Sy.bpr]
        have hc : WrC 94 (35 :: Sy.bce (.mk op1 n1 ks1)) ((1 : Nat) : Int) 0 [.mk op1 n1 ks1] := sw_closed_var A.v
        refine sx_mk hl ?_ ?_
        · rw [e1]; exact sw_printed_cl (.inr (.inl rfl)) hc
        · rw [e2]; exact hc
      · by_cases o2 : o = 2
        · subst o2
          have e1 : Sy.bpr (.mk ((2 : Nat) : Int) 0 [.mk op1 n1 ks1]) = 45 :: Sy.bcl (.mk op1 n1 ks1) := by simp [Sy.bpr, Sy.bcl, Sy.bpc]
          have e2 : Sy.bcl (.mk ((2 : Nat) : Int) 0 [.mk op1 n1 ks1]) = Sy.binb (.mk ((2 : Nat) : Int) 0 [.mk op1 n1 ks1]) := by unfold Sy.binb; rw [e1]; simp [Sy.bcl, Sy.bpc]
          have hp : WrC 72 (Sy.bpr (.mk ((2 : Nat) : Int) 0 [.mk op1 n1 ks1])) ((2 : Nat) : Int) 0 [.mk op1 n1 ks1] := by
            rw [e1]; exact sw_printed_neg (by omega) A.c
          refine sx_mk hl hp ?_
          rw [e2]
          exact sw_closed_in (.inl rfl) (sw_inBrackets (by omega) hp)
        · have e1 : Sy.bpr (.mk (o : Int) 0 [.mk op1 n1 ks1]) = Sy.onm o ++ Sy.binb (.mk op1 n1 ks1) := by
            unfold Sy.bpr; rw [Sy.bpc, if_neg (by omega), if_neg (by omega), hT]; simp [Sy.binb, Sy.bpr]
          have e2 : Sy.bcl (.mk (o : Int) 0 [.mk op1 n1 ks1]) = Sy.onm o ++ Sy.binb (.mk op1 n1 ks1) := by
            unfold Sy.bcl; rw [Sy.bpc, if_neg (by omega), if_neg (by omega), hT]; simp [Sy.binb, Sy.bpr]
          have b1 := binb_len (.mk op1 n1 ks1)
          have hc : WrC 94 (Sy.onm o ++ Sy.binb (.mk op1 n1 ks1)) (o : Int) 0 [.mk op1 n1 ks1] := sx_closed_fun (by omega) (by omega) (by omega) (by omega) A.b
          refine sx_mk hl ?_ ?_
          · rw [e1]; exact sw_printed_cl (.inr (.inr (.inr ⟨rfl, by omega, by omega⟩))) hc
          · rw [e2]; exact hc
    | bin o x y hx hy ho =>
      obtain ⟨op1, n1, ks1⟩ := x
      obtain ⟨op2, n2, ks2⟩ := y
      have hT : ((o : Int)).toNat = o := by omega
      obtain ⟨hd1, hd2⟩ := dpt_kid2 hd
      have A := ih (.mk op1 n1 ks1) (by simp) hx hd1
      have B := ih (.mk op2 n2 ks2) (by simp) hy hd2
      have hl1 := Sy.blen_16 hx hd1
      have hl2 := Sy.blen_16 hy hd2
      have b1 := binb_len (.mk op1 n1 ks1)
      have b2 := binb_len (.mk op2 n2 ks2)
      by_cases o11 : o = 11
      · subst o11
        have e1 : Sy.bpr (.mk ((11 : Nat) : Int) 0 [.mk op1 n1 ks1, .mk op2 n2 ks2]) = Sy.onm 11 ++ (Sy.binb (.mk op1 n1 ks1) ++ ([47] ++ Sy.binb (.mk op2 n2 ks2))) := by
          unfold Sy.bpr; rw [Sy.bpc, if_pos (show ((11 : Nat) : Int) = 11 from rfl)]; simp [Sy.binb, Sy.bpr]
        have e2 : Sy.bcl (.mk ((11 : Nat) : Int) 0 [.mk op1 n1 ks1, .mk op2 n2 ks2]) = Sy.onm 11 ++ (Sy.binb (.mk op1 n1 ks1) ++ ([47] ++ Sy.binb (.mk op2 n2 ks2))) := by
          unfold Sy.bcl; rw [Sy.bpc, if_pos (show ((11 : Nat) : Int) = 11 from rfl)]; simp [Sy.binb, Sy.bpr]
        have hc : WrC 94 (Sy.onm 11 ++ (Sy.binb (.mk op1 n1 ks1) ++ ([47] ++ Sy.binb (.mk op2 n2 ks2)))) ((11 : Nat) : Int) 0 [.mk op1 n1 ks1, .mk op2 n2 ks2] := sx_closed_atan (by omega) (by omega) A.b B.b
        refine sx_mk hl ?_ ?_
        · rw [e1]; exact sw_printed_cl (.inr (.inr (.inl rfl))) hc
        · rw [e2]; exact hc
      · have e1 : Sy.bpr (.mk (o : Int) 0 [.mk op1 n1 ks1, .mk op2 n2 ks2]) = Sy.bcl (.mk op1 n1 ks1) ++ ((32 :: Sy.onm o ++ [32]) ++ Sy.bcl (.mk op2 n2 ks2)) := by
          unfold Sy.bpr; rw [Sy.bpc, if_neg (by omega), hT]; simp [Sy.bcl]
        have e2 : Sy.bcl (.mk (o : Int) 0 [.mk op1 n1 ks1, .mk op2 n2 ks2]) = Sy.binb (.mk (o : Int) 0 [.mk op1 n1 ks1, .mk op2 n2 ks2]) := by
          unfold Sy.binb; rw [e1]; unfold Sy.bcl; rw [Sy.bpc, if_neg (by omega), hT]; simp [Sy.bcl]
        have hp : WrC 72 (Sy.bpr (.mk (o : Int) 0 [.mk op1 n1 ks1, .mk op2 n2 ks2])) (o : Int) 0 [.mk op1 n1 ks1, .mk op2 n2 ks2] := by
          rw [e1]; exact sx_printed_op (by omega) (by omega) (by omega) (by omega) (by omega) A.c B.c
        refine sx_mk hl hp ?_
        rw [e2]
        exact sw_closed_in (.inr ⟨rfl, by omega, by omega⟩) (sw_inBrackets (by omega) hp)
end Go.Proofs.YthfcimfoinidbaaGreatDoor
set_option linter.unusedVariables false
set_option linter.unusedSimpArgs false
namespace Go.Proofs.YthfcimfoinidbaaGreatDoor
open Go.RowKit
theorem sx_valued_simple {op n : Int} {ks : List Sy.Ex} (hs : (decide (op = 0) || decide (op = 1)) = true) (h : WrC 94 (Sy.bcl (.mk op n ks)) op n ks) : WrC 62 (Sy.bcl (.mk op n ks)) op n ks := by
  intro a cap S w hO hT hk
  obtain ⟨m1, m2⟩ := hk.cap
  have cs := fun w1 => sw_simple op n ks.length a cap m1 m2 w1
  have c1 := fun w1 (h1 : Ow w1) (h2 : Tb w1) (h3 : KidsB w1 S a cap ks) => h a cap S w1 h1 h2 h3
  rw [hs] at cs
  generalize Sy.bcl (.mk op n ks) = r at c1
  have CS := Lib.hid cs
  have C1 := Lib.hid c1
  have HO := Lib.hid hO
  have HT := Lib.hid hT
  have HK := Lib.hid hk
  clear cs c1 hO hT hk h hs
  have q0 : Hid (Qw w w) := Lib.hid (Qw.refl w)
  go_enter Tryz.func62, Tryz.ntmps62
  go_wp2_with (first
    | (go_at_call 93; ((with_reducible refine (CS.out _).mono ?_); rintro e w' ⟨rfl, q⟩; have HB : Hid (Bx w' w.heap.size #[.int .i64 op, .int .i64 n, .slice a ks.length cap] 34) := Lib.hid (Bx.kept (by repeat (first | exact Bx.new _ _ _ | exact HB.out | refine Bx.alloc ?_ _ | refine Bx.drew ?_)) q); have x0 := HB.out.cell' 0 _ rfl; have x1 := HB.out.cell' 1 _ rfl; have x2 := HB.out.cell' 2 _ rfl; replace q0 : Hid (Qw w w') := Lib.hid (Qw.trans (by repeat (first | exact q0.out | exact Qw.refl _ | refine Qw.al ?_ _ | refine Qw.dr ?_ | refine Qw.dn ?_ _ | refine Qw.sc ?_ (by first | (simp; done) | omega | (have := q0.out.size; first | omega | (simp; omega))) _)) q); clear q))
    | (go_at_call 94; ((with_reducible refine (C1.out _ (Ow.kept HO.out (by repeat (first | exact q0.out | exact Qw.refl _ | refine Qw.al ?_ _ | refine Qw.dr ?_ | refine Qw.dn ?_ _ | refine Qw.sc ?_ (by first | (simp; done) | omega | (have := q0.out.size; first | omega | (simp; omega))) _))) (Tb.kept HT.out (by repeat (first | exact q0.out | exact Qw.refl _ | refine Qw.al ?_ _ | refine Qw.dr ?_ | refine Qw.dn ?_ _ | refine Qw.sc ?_ (by first | (simp; done) | omega | (have := q0.out.size; first | omega | (simp; omega))) _))) (KidsB.kept HK.out (by repeat (first | exact q0.out | exact Qw.refl _ | refine Qw.al ?_ _ | refine Qw.dr ?_ | refine Qw.dn ?_ _ | refine Qw.sc ?_ (by first | (simp; done) | omega | (have := q0.out.size; first | omega | (simp; omega))) _)))).mono ?_); rintro e w' ⟨rfl, q⟩; replace q0 : Hid (Qw w w') := Lib.hid (Qw.trans (by repeat (first | exact q0.out | exact Qw.refl _ | refine Qw.al ?_ _ | refine Qw.dr ?_ | refine Qw.dn ?_ _ | refine Qw.sc ?_ (by first | (simp; done) | omega | (have := q0.out.size; first | omega | (simp; omega))) _)) q); clear q)))
  go_ret
  exact ⟨rfl, q0.out⟩
theorem sx_valued_other {op n : Int} {ks : List Sy.Ex} (h0 : op ≠ 0) (h1 : op ≠ 1) (h2 : op ≠ 2) (h : WrC 95 (Sy.binb (.mk op n ks)) op n ks) : WrC 62 (Sy.binb (.mk op n ks)) op n ks := by
  intro a cap S w hO hT hk
  obtain ⟨m1, m2⟩ := hk.cap
  have cs := fun w1 => sw_simple op n ks.length a cap m1 m2 w1
  have c1 := fun w1 (h1 : Ow w1) (h2 : Tb w1) (h3 : KidsB w1 S a cap ks) => h a cap S w1 h1 h2 h3
  rw [show (decide (op = 0) || decide (op = 1)) = false by simp [h0, h1]] at cs
  have d2 : (op == 2) = false := beq_eq_false_iff_ne.2 h2
  generalize Sy.binb (.mk op n ks) = r at c1
  have CS := Lib.hid cs
  have C1 := Lib.hid c1
  have HO := Lib.hid hO
  have HT := Lib.hid hT
  have HK := Lib.hid hk
  clear cs c1 hO hT hk h h0 h1 h2
  have q0 : Hid (Qw w w) := Lib.hid (Qw.refl w)
  go_enter Tryz.func62, Tryz.ntmps62
  go_wp2_with (first
    | (go_at_call 93; ((with_reducible refine (CS.out _).mono ?_); rintro e w' ⟨rfl, q⟩; have HB : Hid (Bx w' w.heap.size #[.int .i64 op, .int .i64 n, .slice a ks.length cap] 34) := Lib.hid (Bx.kept (by repeat (first | exact Bx.new _ _ _ | exact HB.out | refine Bx.alloc ?_ _ | refine Bx.drew ?_)) q); have x0 := HB.out.cell' 0 _ rfl; have x1 := HB.out.cell' 1 _ rfl; have x2 := HB.out.cell' 2 _ rfl; replace q0 : Hid (Qw w w') := Lib.hid (Qw.trans (by repeat (first | exact q0.out | exact Qw.refl _ | refine Qw.al ?_ _ | refine Qw.dr ?_ | refine Qw.dn ?_ _ | refine Qw.sc ?_ (by first | (simp; done) | omega | (have := q0.out.size; first | omega | (simp; omega))) _)) q); clear q))
    | (go_at_call 95; ((with_reducible refine (C1.out _ (Ow.kept HO.out (by repeat (first | exact q0.out | exact Qw.refl _ | refine Qw.al ?_ _ | refine Qw.dr ?_ | refine Qw.dn ?_ _ | refine Qw.sc ?_ (by first | (simp; done) | omega | (have := q0.out.size; first | omega | (simp; omega))) _))) (Tb.kept HT.out (by repeat (first | exact q0.out | exact Qw.refl _ | refine Qw.al ?_ _ | refine Qw.dr ?_ | refine Qw.dn ?_ _ | refine Qw.sc ?_ (by first | (simp; done) | omega | (have := q0.out.size; first | omega | (simp; omega))) _))) (KidsB.kept HK.out (by repeat (first | exact q0.out | exact Qw.refl _ | refine Qw.al ?_ _ | refine Qw.dr ?_ | refine Qw.dn ?_ _ | refine Qw.sc ?_ (by first | (simp; done) | omega | (have := q0.out.size; first | omega | (simp; omega))) _)))).mono ?_); rintro e w' ⟨rfl, q⟩; replace q0 : Hid (Qw w w') := Lib.hid (Qw.trans (by repeat (first | exact q0.out | exact Qw.refl _ | refine Qw.al ?_ _ | refine Qw.dr ?_ | refine Qw.dn ?_ _ | refine Qw.sc ?_ (by first | (simp; done) | omega | (have := q0.out.size; first | omega | (simp; omega))) _)) q); clear q)))
  go_ret
  exact ⟨rfl, q0.out⟩
theorem sx_valued_neg {op n : Int} {ks : List Sy.Ex} (hs : (decide (op = 0) || decide (op = 1)) = true) (l1 : (Sy.bcl (.mk op n ks)).length ≤ 1000000000000) (h : WrC 94 (Sy.bcl (.mk op n ks)) op n ks) : WrC 62 (45 :: Sy.bcl (.mk op n ks)) 2 0 [.mk op n ks] := by
  intro a cap S w hO hT hk
  have hk0 := hk
  cases hk with
  | mk b off cap ks' ad cc hS h1 h2 hc hkk =>
    obtain ⟨z0, z1, z2⟩ := hc 0 (by simp)
    have KK := hkk 0 (by simp)
    have KL : KidsB w S (ad 0) (cc 0) ks := KK
    obtain ⟨m1, m2⟩ := KL.cap
    have cs := fun w1 => sw_simple 2 0 1 (some ⟨b, off, none⟩) cap h1 h2 w1
    have ct := fun w1 => sw_simple op n ks.length (ad 0) (cc 0) m1 m2 w1
    rw [show (decide ((2 : Int) = 0) || decide ((2 : Int) = 1)) = false by decide] at cs
    rw [hs] at ct
    have c1 := fun w1 (h1 : Ow w1) (h2 : Tb w1) (h3 : KidsB w1 S (ad 0) (cc 0) ks) => h (ad 0) (cc 0) S w1 h1 h2 h3
    have eB : bs [45] ++ bs (Sy.bcl (.mk op n ks)) = bs (45 :: Sy.bcl (.mk op n ks)) := by rw [bs_app]; rfl
    have hz1 : ¬ 9223372036854775807 < 1 + (bs (Sy.bcl (.mk op n ks))).size := by rw [bs_size]; omega
    generalize 45 :: Sy.bcl (.mk op n ks) = r2 at eB ⊢
    clear l1 h
    generalize Sy.bcl (.mk op n ks) = r at c1 eB hz1
    have EB := Lib.hid eB
    clear eB
    have y0 : w.cell? ⟨b, off, none⟩ = some (.int .i64 op) := by simpa [Sy.Ex.op] using z0
    have y1 : w.cell? ⟨b, off + 1, none⟩ = some (.int .i64 n) := by simpa [Sy.Ex.n] using z1
    have y2 : w.cell? ⟨b, off + 2, none⟩ = some (.slice (ad 0) ks.length (cc 0)) := by simpa [Sy.Ex.ks] using z2
    have bl := cell_lt z0
    have Y0 := Lib.hid y0
    have Y1 := Lib.hid y1
    have Y2 := Lib.hid y2
    have hne : b ≠ w.heap.size := by omega
    have CS := Lib.hid cs
    have CT := Lib.hid ct
    have C1 := Lib.hid c1
    have HO := Lib.hid hO
    have HT := Lib.hid hT
    have HK : Hid (KidsB w S (ad 0) (cc 0) ks) := Lib.hid KK
    clear cs ct c1 hO hT hc hkk KK KL z0 z1 z2 hk0 y0 y1 y2 hs m1 m2
    have q0 : Hid (Qw w w) := Lib.hid (Qw.refl w)
    show Calls Tryz.prog 62 #[.agg #[.int .i64 2, .int .i64 0, .slice (some ⟨b, off, none⟩) 1 cap]] w _
    go_enter Tryz.func62, Tryz.ntmps62
    go_wp2_with (first
      | (go_at_call 93; ((with_reducible refine (CS.out _).mono ?_); rintro e w' ⟨rfl, q⟩; have HB : Hid (Bx w' w.heap.size #[.int .i64 2, .int .i64 0, .slice (some ⟨b, off, none⟩) 1 cap] 34) := Lib.hid (Bx.kept (by repeat (first | exact Bx.new _ _ _ | exact HB.out | refine Bx.alloc ?_ _ | refine Bx.drew ?_)) q); have x0 := HB.out.cell' 0 _ rfl; have x1 := HB.out.cell' 1 _ rfl; have x2 := HB.out.cell' 2 _ rfl; have y0 := (World.cell?_of_block (w := w) ((Qw.trans (by repeat (first | exact q0.out | exact Qw.refl _ | refine Qw.al ?_ _ | refine Qw.dr ?_ | refine Qw.dn ?_ _ | refine Qw.sc ?_ (by first | (simp; done) | omega | (have := q0.out.size; first | omega | (simp; omega))) _)) q).block b bl)).trans Y0.out; have y1 := (World.cell?_of_block (w := w) ((Qw.trans (by repeat (first | exact q0.out | exact Qw.refl _ | refine Qw.al ?_ _ | refine Qw.dr ?_ | refine Qw.dn ?_ _ | refine Qw.sc ?_ (by first | (simp; done) | omega | (have := q0.out.size; first | omega | (simp; omega))) _)) q).block b bl)).trans Y1.out; have y2 := (World.cell?_of_block (w := w) ((Qw.trans (by repeat (first | exact q0.out | exact Qw.refl _ | refine Qw.al ?_ _ | refine Qw.dr ?_ | refine Qw.dn ?_ _ | refine Qw.sc ?_ (by first | (simp; done) | omega | (have := q0.out.size; first | omega | (simp; omega))) _)) q).block b bl)).trans Y2.out; replace q0 : Hid (Qw w w') := Lib.hid (Qw.trans (by repeat (first | exact q0.out | exact Qw.refl _ | refine Qw.al ?_ _ | refine Qw.dr ?_ | refine Qw.dn ?_ _ | refine Qw.sc ?_ (by first | (simp; done) | omega | (have := q0.out.size; first | omega | (simp; omega))) _)) q); clear q))
      | (go_at_call 93; ((with_reducible refine (CT.out _).mono ?_); rintro e w' ⟨rfl, q⟩; have HB : Hid (Bx w' w.heap.size #[.int .i64 2, .int .i64 0, .slice (some ⟨b, off, none⟩) 1 cap] 34) := Lib.hid (Bx.kept (by repeat (first | exact Bx.new _ _ _ | exact HB.out | refine Bx.alloc ?_ _ | refine Bx.drew ?_)) q); have x0 := HB.out.cell' 0 _ rfl; have x1 := HB.out.cell' 1 _ rfl; have x2 := HB.out.cell' 2 _ rfl; have y0 := (World.cell?_of_block (w := w) ((Qw.trans (by repeat (first | exact q0.out | exact Qw.refl _ | refine Qw.al ?_ _ | refine Qw.dr ?_ | refine Qw.dn ?_ _ | refine Qw.sc ?_ (by first | (simp; done) | omega | (have := q0.out.size; first | omega | (simp; omega))) _)) q).block b bl)).trans Y0.out; have y1 := (World.cell?_of_block (w := w) ((Qw.trans (by repeat (first | exact q0.out | exact Qw.refl _ | refine Qw.al ?_ _ | refine Qw.dr ?_ | refine Qw.dn ?_ _ | refine Qw.sc ?_ (by first | (simp; done) | omega | (have := q0.out.size; first | omega | (simp; omega))) _)) q).block b bl)).trans Y1.out; have y2 := (World.cell?_of_block (w := w) ((Qw.trans (by repeat (first | exact q0.out | exact Qw.refl _ | refine Qw.al ?_ _ | refine Qw.dr ?_ | refine Qw.dn ?_ _ | refine Qw.sc ?_ (by first | (simp; done) | omega | (have := q0.out.size; first | omega | (simp; omega))) _)) q).block b bl)).trans Y2.out; replace q0 : Hid (Qw w w') := Lib.hid (Qw.trans (by repeat (first | exact q0.out | exact Qw.refl _ | refine Qw.al ?_ _ | refine Qw.dr ?_ | refine Qw.dn ?_ _ | refine Qw.sc ?_ (by first | (simp; done) | omega | (have := q0.out.size; first | omega | (simp; omega))) _)) q); clear q))
      | (go_at_call 94; ((with_reducible refine (C1.out _ (Ow.kept HO.out (by repeat (first | exact q0.out | exact Qw.refl _ | refine Qw.al ?_ _ | refine Qw.dr ?_ | refine Qw.dn ?_ _ | refine Qw.sc ?_ (by first | (simp; done) | omega | (have := q0.out.size; first | omega | (simp; omega))) _))) (Tb.kept HT.out (by repeat (first | exact q0.out | exact Qw.refl _ | refine Qw.al ?_ _ | refine Qw.dr ?_ | refine Qw.dn ?_ _ | refine Qw.sc ?_ (by first | (simp; done) | omega | (have := q0.out.size; first | omega | (simp; omega))) _))) (KidsB.kept HK.out (by repeat (first | exact q0.out | exact Qw.refl _ | refine Qw.al ?_ _ | refine Qw.dr ?_ | refine Qw.dn ?_ _ | refine Qw.sc ?_ (by first | (simp; done) | omega | (have := q0.out.size; first | omega | (simp; omega))) _)))).mono ?_); rintro e w' ⟨rfl, q⟩; replace q0 : Hid (Qw w w') := Lib.hid (Qw.trans (by repeat (first | exact q0.out | exact Qw.refl _ | refine Qw.al ?_ _ | refine Qw.dr ?_ | refine Qw.dn ?_ _ | refine Qw.sc ?_ (by first | (simp; done) | omega | (have := q0.out.size; first | omega | (simp; omega))) _)) q); clear q)))
    go_ret
    exact ⟨by rw [← EB.out]; rfl, q0.out⟩
theorem sx_valued_neg2 {op n : Int} {ks : List Sy.Ex} (hs : (decide (op = 0) || decide (op = 1)) = false) (h : WrC 95 (Sy.binb (.mk 2 0 [.mk op n ks])) 2 0 [.mk op n ks]) : WrC 62 (Sy.binb (.mk 2 0 [.mk op n ks])) 2 0 [.mk op n ks] := by
  intro a cap S w hO hT hk
  have hk0 := hk
  cases hk with
  | mk b off cap ks' ad cc hS h1 h2 hc hkk =>
    obtain ⟨z0, z1, z2⟩ := hc 0 (by simp)
    have KK := hkk 0 (by simp)
    have KL : KidsB w S (ad 0) (cc 0) ks := KK
    obtain ⟨m1, m2⟩ := KL.cap
    have cs := fun w1 => sw_simple 2 0 1 (some ⟨b, off, none⟩) cap h1 h2 w1
    have ct := fun w1 => sw_simple op n ks.length (ad 0) (cc 0) m1 m2 w1
    rw [show (decide ((2 : Int) = 0) || decide ((2 : Int) = 1)) = false by decide] at cs
    rw [hs] at ct
    have c1 : ∀ w1, Ow w1 → Tb w1 → KidsB w1 S (some ⟨b, off, none⟩) cap [.mk op n ks] → Calls Tryz.prog 95 #[.agg #[.int .i64 2, .int .i64 0, .slice (some ⟨b, off, none⟩) 1 cap]] w1 fun e w' => e = .returned (.string (bs (Sy.binb (.mk 2 0 [.mk op n ks])))) ∧ Qw w1 w' := fun w1 h1 h2 h3 => h (some ⟨b, off, none⟩) cap S w1 h1 h2 h3
    generalize Sy.binb (.mk 2 0 [.mk op n ks]) = r at c1
    clear h
    have y0 : w.cell? ⟨b, off, none⟩ = some (.int .i64 op) := by simpa [Sy.Ex.op] using z0
    have y1 : w.cell? ⟨b, off + 1, none⟩ = some (.int .i64 n) := by simpa [Sy.Ex.n] using z1
    have y2 : w.cell? ⟨b, off + 2, none⟩ = some (.slice (ad 0) ks.length (cc 0)) := by simpa [Sy.Ex.ks] using z2
    have bl := cell_lt z0
    have Y0 := Lib.hid y0
    have Y1 := Lib.hid y1
    have Y2 := Lib.hid y2
    have hne : b ≠ w.heap.size := by omega
    have CS := Lib.hid cs
    have CT := Lib.hid ct
    have C1 := Lib.hid c1
    have HO := Lib.hid hO
    have HT := Lib.hid hT
    have HK := Lib.hid hk0
    clear cs ct c1 hO hT hc hkk KK KL z0 z1 z2 hk0 y0 y1 y2 hs m1 m2
    have q0 : Hid (Qw w w) := Lib.hid (Qw.refl w)
    show Calls Tryz.prog 62 #[.agg #[.int .i64 2, .int .i64 0, .slice (some ⟨b, off, none⟩) 1 cap]] w _
    go_enter Tryz.func62, Tryz.ntmps62
    go_wp2_with (first
      | (go_at_call 93; ((with_reducible refine (CS.out _).mono ?_); rintro e w' ⟨rfl, q⟩; have HB : Hid (Bx w' w.heap.size #[.int .i64 2, .int .i64 0, .slice (some ⟨b, off, none⟩) 1 cap] 34) := Lib.hid (Bx.kept (by repeat (first | exact Bx.new _ _ _ | exact HB.out | refine Bx.alloc ?_ _ | refine Bx.drew ?_)) q); have x0 := HB.out.cell' 0 _ rfl; have x1 := HB.out.cell' 1 _ rfl; have x2 := HB.out.cell' 2 _ rfl; have y0 := (World.cell?_of_block (w := w) ((Qw.trans (by repeat (first | exact q0.out | exact Qw.refl _ | refine Qw.al ?_ _ | refine Qw.dr ?_ | refine Qw.dn ?_ _ | refine Qw.sc ?_ (by first | (simp; done) | omega | (have := q0.out.size; first | omega | (simp; omega))) _)) q).block b bl)).trans Y0.out; have y1 := (World.cell?_of_block (w := w) ((Qw.trans (by repeat (first | exact q0.out | exact Qw.refl _ | refine Qw.al ?_ _ | refine Qw.dr ?_ | refine Qw.dn ?_ _ | refine Qw.sc ?_ (by first | (simp; done) | omega | (have := q0.out.size; first | omega | (simp; omega))) _)) q).block b bl)).trans Y1.out; have y2 := (World.cell?_of_block (w := w) ((Qw.trans (by repeat (first | exact q0.out | exact Qw.refl _ | refine Qw.al ?_ _ | refine Qw.dr ?_ | refine Qw.dn ?_ _ | refine Qw.sc ?_ (by first | (simp; done) | omega | (have := q0.out.size; first | omega | (simp; omega))) _)) q).block b bl)).trans Y2.out; replace q0 : Hid (Qw w w') := Lib.hid (Qw.trans (by repeat (first | exact q0.out | exact Qw.refl _ | refine Qw.al ?_ _ | refine Qw.dr ?_ | refine Qw.dn ?_ _ | refine Qw.sc ?_ (by first | (simp; done) | omega | (have := q0.out.size; first | omega | (simp; omega))) _)) q); clear q))
      | (go_at_call 93; ((with_reducible refine (CT.out _).mono ?_); rintro e w' ⟨rfl, q⟩; have HB : Hid (Bx w' w.heap.size #[.int .i64 2, .int .i64 0, .slice (some ⟨b, off, none⟩) 1 cap] 34) := Lib.hid (Bx.kept (by repeat (first | exact Bx.new _ _ _ | exact HB.out | refine Bx.alloc ?_ _ | refine Bx.drew ?_)) q); have x0 := HB.out.cell' 0 _ rfl; have x1 := HB.out.cell' 1 _ rfl; have x2 := HB.out.cell' 2 _ rfl; have y0 := (World.cell?_of_block (w := w) ((Qw.trans (by repeat (first | exact q0.out | exact Qw.refl _ | refine Qw.al ?_ _ | refine Qw.dr ?_ | refine Qw.dn ?_ _ | refine Qw.sc ?_ (by first | (simp; done) | omega | (have := q0.out.size; first | omega | (simp; omega))) _)) q).block b bl)).trans Y0.out; have y1 := (World.cell?_of_block (w := w) ((Qw.trans (by repeat (first | exact q0.out | exact Qw.refl _ | refine Qw.al ?_ _ | refine Qw.dr ?_ | refine Qw.dn ?_ _ | refine Qw.sc ?_ (by first | (simp; done) | omega | (have := q0.out.size; first | omega | (simp; omega))) _)) q).block b bl)).trans Y1.out; have y2 := (World.cell?_of_block (w := w) ((Qw.trans (by repeat (first | exact q0.out | exact Qw.refl _ | refine Qw.al ?_ _ | refine Qw.dr ?_ | refine Qw.dn ?_ _ | refine Qw.sc ?_ (by first | (simp; done) | omega | (have := q0.out.size; first | omega | (simp; omega))) _)) q).block b bl)).trans Y2.out; replace q0 : Hid (Qw w w') := Lib.hid (Qw.trans (by repeat (first | exact q0.out | exact Qw.refl _ | refine Qw.al ?_ _ | refine Qw.dr ?_ | refine Qw.dn ?_ _ | refine Qw.sc ?_ (by first | (simp; done) | omega | (have := q0.out.size; first | omega | (simp; omega))) _)) q); clear q))
      | (go_at_call 95; ((with_reducible refine (C1.out _ (Ow.kept HO.out (by repeat (first | exact q0.out | exact Qw.refl _ | refine Qw.al ?_ _ | refine Qw.dr ?_ | refine Qw.dn ?_ _ | refine Qw.sc ?_ (by first | (simp; done) | omega | (have := q0.out.size; first | omega | (simp; omega))) _))) (Tb.kept HT.out (by repeat (first | exact q0.out | exact Qw.refl _ | refine Qw.al ?_ _ | refine Qw.dr ?_ | refine Qw.dn ?_ _ | refine Qw.sc ?_ (by first | (simp; done) | omega | (have := q0.out.size; first | omega | (simp; omega))) _))) (KidsB.kept HK.out (by repeat (first | exact q0.out | exact Qw.refl _ | refine Qw.al ?_ _ | refine Qw.dr ?_ | refine Qw.dn ?_ _ | refine Qw.sc ?_ (by first | (simp; done) | omega | (have := q0.out.size; first | omega | (simp; omega))) _)))).mono ?_); rintro e w' ⟨rfl, q⟩; replace q0 : Hid (Qw w w') := Lib.hid (Qw.trans (by repeat (first | exact q0.out | exact Qw.refl _ | refine Qw.al ?_ _ | refine Qw.dr ?_ | refine Qw.dn ?_ _ | refine Qw.sc ?_ (by first | (simp; done) | omega | (have := q0.out.size; first | omega | (simp; omega))) _)) q); clear q)))
    go_ret
    exact ⟨rfl, q0.out⟩
theorem sx_valued (x : Sy.Ex) (hok : Sy.okx x = true) (hd : Sy.dpt x ≤ 16) : WrC 62 (Sy.bva x) x.op x.n x.ks := by
  obtain ⟨op, n, ks⟩ := x
  have A := sx_all (.mk op n ks) hok hd
  show WrC 62 (Sy.bva (.mk op n ks)) op n ks
  have eS : Sy.smp (.mk op n ks) = (decide (op = 0) || decide (op = 1)) := rfl
  cases hs : (decide (op = 0) || decide (op = 1)) with
  | true =>
    unfold Sy.bva; rw [eS, hs, if_pos rfl]
    exact sx_valued_simple hs A.c
  | false =>
    simp at hs
    by_cases h2 : op = 2
    · have hF := Sy.form hok
      obtain ⟨k, hk1, hk2⟩ : ∃ k, Sy.Ex.mk op n ks = .mk 2 0 [k] ∧ Sy.okx k = true := by
        generalize hx : Sy.Ex.mk op n ks = x at hF
        cases hF with
        | num n h0 h1 => cases hx; exact absurd rfl hs.1
        | un o x hx1 ho => cases hx; exact ⟨x, by rw [show ((o : Int)) = 2 from h2]; rfl, hx1⟩
        | bin o x y hx1 hy1 ho => cases hx; omega
      obtain ⟨op1, n1, ks1⟩ := k
      cases hk1
      have hd1 := dpt_kid1 hd
      have B := sx_all (.mk op1 n1 ks1) hk2 hd1
      have hl := Sy.blen_16 hk2 hd1
      have eT : Sy.smp (.mk 2 0 [.mk op1 n1 ks1]) = false := rfl
      unfold Sy.bva
      rw [eT, if_neg (by decide)]
      cases h3 : (decide (op1 = 0) || decide (op1 = 1)) with
      | true =>
        have eS : Sy.smp (.mk op1 n1 ks1) = true := h3
        simp only [eS]
        exact sx_valued_neg h3 (by omega) B.c
      | false =>
        have eS : Sy.smp (.mk op1 n1 ks1) = false := h3
        simp only [eS]
        exact sx_valued_neg2 h3 A.b
    · have e : Sy.bva (.mk op n ks) = Sy.binb (.mk op n ks) := by
        unfold Sy.bva
        rw [eS, if_neg (by simp [hs])]
        split
        · rename_i o k he; cases he; exact absurd rfl h2
        · rfl
      rw [e]
      exact sx_valued_other hs.1 hs.2 h2 A.b
end Go.Proofs.YthfcimfoinidbaaGreatDoor
set_option linter.unusedVariables false
set_option linter.unusedSimpArgs false
namespace Go.Proofs
open Go.Shelf
def Tryz.laysM171_ren : Go.Shelf.Ren := ⟨fun | 171 => 61 | 243 => 92 | 246 => 125 | 283 => 150 | 284 => 151 | 285 => 152 | 286 => 153 | 129 => 172 | 317 => 171 | 318 => 173 | 319 => 174 | 320 => 175 | 337 => 184 | 338 => 185 | n => n, fun | 3 => 3 | 9 => 9 | 2 => 2 | 4 => 4 | 171 => 138 | 0 => 0 | 53 => 139 | 37 => 39 | 5 => 5 | 173 => 142 | 212 => 150 | 51 => 151 | 20 => 20 | 213 => 152 | 46 => 148 | 232 => 163 | 233 => 164 | n => n, fun | 17 => 3 | 18 => 4 | 19 => 5 | n => n⟩
theorem Tryz.laysM171 : Go.Proofs.LaysM.n171 Tryz.prog Tryz.laysM171_ren := {
  mixed := by kernel_rfl
  f129 := Tryz.func172.trans (congrArg some (by kernel_rfl))
  f171 := Tryz.func61.trans (congrArg some (by kernel_rfl))
  f243 := Tryz.func92.trans (congrArg some (by kernel_rfl))
  f246 := Tryz.func125.trans (congrArg some (by kernel_rfl))
  f283 := Tryz.func150.trans (congrArg some (by kernel_rfl))
  f284 := Tryz.func151.trans (congrArg some (by kernel_rfl))
  f285 := Tryz.func152.trans (congrArg some (by kernel_rfl))
  f286 := Tryz.func153.trans (congrArg some (by kernel_rfl))
  f317 := Tryz.func171.trans (congrArg some (by kernel_rfl))
  f318 := Tryz.func173.trans (congrArg some (by kernel_rfl))
  f319 := Tryz.func174.trans (congrArg some (by kernel_rfl))
  f320 := Tryz.func175.trans (congrArg some (by kernel_rfl))
  f337 := Tryz.func184.trans (congrArg some (by kernel_rfl))
  f338 := Tryz.func185.trans (congrArg some (by kernel_rfl))
  t0 := Tryz.underlying0
  a0 := Tryz.isAgg0
  z0 := Tryz.sizeOf0
  v0 := Tryz.zeroValue0
  t2 := Tryz.underlying2
  a2 := Tryz.isAgg2
  z2 := Tryz.sizeOf2
  v2 := Tryz.zeroValue2
  t3 := Tryz.underlying3
  a3 := Tryz.isAgg3
  z3 := Tryz.sizeOf3
  v3 := Tryz.zeroValue3
  t4 := Tryz.underlying4
  a4 := Tryz.isAgg4
  z4 := Tryz.sizeOf4
  v4 := Tryz.zeroValue4
  t5 := Tryz.underlying5
  a5 := Tryz.isAgg5
  z5 := Tryz.sizeOf5
  v5 := Tryz.zeroValue5
  t9 := Tryz.underlying9
  a9 := Tryz.isAgg9
  z9 := Tryz.sizeOf9
  v9 := Tryz.zeroValue9
  t20 := Tryz.underlying20
  a20 := Tryz.isAgg20
  z20 := Tryz.sizeOf20
  v20 := Tryz.zeroValue20
  t37 := Tryz.underlying39
  a37 := Tryz.isAgg39
  z37 := Tryz.sizeOf39
  v37 := Tryz.zeroValue39
  t46 := Tryz.underlying148
  a46 := Tryz.isAgg148
  z46 := Tryz.sizeOf148
  v46 := Tryz.zeroValue148
  t51 := Tryz.underlying151
  a51 := Tryz.isAgg151
  z51 := Tryz.sizeOf151
  v51 := Tryz.zeroValue151
  t53 := Tryz.underlying139
  a53 := Tryz.isAgg139
  z53 := Tryz.sizeOf139
  v53 := Tryz.zeroValue139
  t171 := Tryz.underlying138
  a171 := Tryz.isAgg138
  z171 := Tryz.sizeOf138
  v171 := Tryz.zeroValue138
  t173 := Tryz.underlying142
  a173 := Tryz.isAgg142
  z173 := Tryz.sizeOf142
  v173 := Tryz.zeroValue142
  t212 := Tryz.underlying150
  a212 := Tryz.isAgg150
  z212 := Tryz.sizeOf150
  v212 := Tryz.zeroValue150
  t213 := Tryz.underlying152
  a213 := Tryz.isAgg152
  z213 := Tryz.sizeOf152
  t232 := Tryz.underlying163
  a232 := Tryz.isAgg163
  z232 := Tryz.sizeOf163
  v232 := Tryz.zeroValue163
  t233 := Tryz.underlying164
  a233 := Tryz.isAgg164
  z233 := Tryz.sizeOf164
  v233 := Tryz.zeroValue164
  g17 := by kernel_rfl
  g18 := by kernel_rfl
  g19 := by kernel_rfl
  i0 := by kernel_rfl
  i2 := by kernel_rfl
  i3 := by kernel_rfl
  i4 := by kernel_rfl
  i5 := by kernel_rfl
  i9 := by kernel_rfl
  i20 := by kernel_rfl
  i37 := by kernel_rfl
  i46 := by kernel_rfl
  i51 := by kernel_rfl
  i53 := by kernel_rfl
  i171 := by kernel_rfl
  i173 := by kernel_rfl
  i212 := by kernel_rfl
  i232 := by kernel_rfl
  i233 := by kernel_rfl
  m17 := by kernel_rfl
  m18 := by kernel_rfl
  m19 := by kernel_rfl }
open Go.RowKit Go.Sort Go.Lib in
theorem Tryz.strconv_Itoa (n : Int) (h0 : -9223372036854775808 ≤ n) (h1 : n ≤ 9223372036854775807) (w : World) (htab : Lib.TabIs Tryz.prog w "internal/strconv.uint64pow10" .u64 Lib.pow10Tab) :
    Calls Tryz.prog 61 #[.int .i64 n] w fun e w' => e = .returned (.string ⟨(Lib.itoa n).toArray⟩) ∧ ∃ k os, w' = grow (w.drewN k) os := Any.strconv_Itoa Tryz.laysM171 n h0 h1 w htab
end Go.Proofs

