import Derived.Test.YtciglhecjkeogaaGreatDoorZTX13
import Derived.Test.YtciglhecjkeogaaGreatDoorZTX14
import Derived.Test.YtciglhecjkeogaaGreatDoorZTX20
import Derived.Test.YtciglhecjkeogaaGreatDoorZTX25
import Derived.Test.YtciglhecjkeogaaGreatDoorZTX26
import Derived.Test.YtciglhecjkeogaaGreatDoorZTX27
import Derived.Test.YtciglhecjkeogaaGreatDoorRows
import Derived.Lib.Join
import Derived.Deep.Cut
import Derived.IntWalk
import Derived.Deep.RegionLaw
set_option linter.unusedVariables false
set_option linter.unusedSimpArgs false
namespace Go.Proofs.YtciglhecjkeogaaGreatDoor
open Go.RowKit
structure WrA (op n : Int) (ks : List Sy.Ex) : Prop where
  p : WrC 27 (Sy.bpr (.mk op n ks)) op n ks
  c : WrC 49 (Sy.bcl (.mk op n ks)) op n ks
  b : WrC 76 (Sy.binb (.mk op n ks)) op n ks
  v : WrC 75 (35 :: Sy.bce (.mk op n ks)) op n ks
theorem binb_len (x : Sy.Ex) : (Sy.binb x).length = (Sy.bpr x).length + 2 := by simp [Sy.binb]
theorem sx_mk {op n : Int} {ks : List Sy.Ex} (l : (Sy.bpr (.mk op n ks)).length ≤ 2000000 ∧ (Sy.bcl (.mk op n ks)).length ≤ 2000000) (hp : WrC 27 (Sy.bpr (.mk op n ks)) op n ks) (hc : WrC 49 (Sy.bcl (.mk op n ks)) op n ks) : WrA op n ks := by
  have hb := sw_inBrackets (by omega) hp
  exact ⟨hp, hc, hb, sw_variable (by omega) (by omega) hc hb⟩
theorem dpt_kid1 {op n : Int} {x : Sy.Ex} {d : Nat} (h : Sy.dpt (.mk op n [x]) ≤ d) : Sy.dpt x ≤ d := by
  rw [Sy.dpt_mk] at h
  simp [Sy.dmx] at h
  omega
theorem dpt_kid2 {op n : Int} {x y : Sy.Ex} {d : Nat} (h : Sy.dpt (.mk op n [x, y]) ≤ d) : Sy.dpt x ≤ d ∧ Sy.dpt y ≤ d := by
  rw [Sy.dpt_mk] at h
  simp [Sy.dmx] at h
  omega
theorem sx_all (x : Sy.Ex) : Sy.okx x = true → Sy.dpt x ≤ 16 → WrA x.op x.n x.ks := by
  induction x using Sy.Ex.ind with
  | h op n ks ih =>
    intro hok hd
    show WrA op n ks
    have hl := Sy.blen_16 hok hd
    have hF := Sy.form hok
    cases hF with
    | num n h0 h1 =>
      have hc := sw_closed_num h0 h1
      have e1 : Sy.bpr (.mk 0 n []) = Sy.bcl (.mk 0 n []) := by simp [Sy.bpr, Sy.bcl, Sy.bpc]
      refine sx_mk hl ?_ hc
      rw [e1]
      exact sw_printed_cl (o := 0) (.inl rfl) hc
    | un o x hx ho =>
      obtain ⟨op1, n1, ks1⟩ := x
      have hT : ((o : Int)).toNat = o := by omega
      have hd1 := dpt_kid1 hd
      have A := ih (.mk op1 n1 ks1) (by simp) hx hd1
      have hl1 := Sy.blen_16 hx hd1
      by_cases o1 : o = 1
      · subst o1
        have e1 : Sy.bpr (.mk ((1 : Nat) : Int) 0 [.mk op1 n1 ks1]) = 35 :: Sy.bce (.mk op1 n1 ks1) := by
          simp only [Sy.bpr, Sy.bpc, Sy.bce, Sy.smp, Sy.binb, Sy.bcl]; simp [Sy.bpr]
        have e2 : Sy.bcl (.mk ((1 : Nat) : Int) 0 [.mk op1 n1 ks1]) = 35 :: Sy.bce (.mk op1 n1 ks1) := by
          simp only [Sy.bcl, Sy.bpc, Sy.bce, Sy.smp, Sy.binb]; simp [Sy.bpr]
        have hc : WrC 49 (35 :: Sy.bce (.mk op1 n1 ks1)) ((1 : Nat) : Int) 0 [.mk op1 n1 ks1] := sw_closed_var A.v
        refine sx_mk hl ?_ ?_
        · rw [e1]; exact sw_printed_cl (.inr (.inl rfl)) hc
        · rw [e2]; exact hc
      · by_cases o2 : o = 2
        · subst o2
          have e1 : Sy.bpr (.mk ((2 : Nat) : Int) 0 [.mk op1 n1 ks1]) = 45 :: Sy.bcl (.mk op1 n1 ks1) := by simp [Sy.bpr, Sy.bcl, Sy.bpc]
          have e2 : Sy.bcl (.mk ((2 : Nat) : Int) 0 [.mk op1 n1 ks1]) = Sy.binb (.mk ((2 : Nat) : Int) 0 [.mk op1 n1 ks1]) := by unfold Sy.binb; rw [e1]; simp [Sy.bcl, Sy.bpc]
          have hp : WrC 27 (Sy.bpr (.mk ((2 : Nat) : Int) 0 [.mk op1 n1 ks1])) ((2 : Nat) : Int) 0 [.mk op1 n1 ks1] := by
            rw [e1]; exact sw_printed_neg (by omega) A.c
          refine sx_mk hl hp ?_
          rw [e2]
          exact sw_closed_in (.inl rfl) (sw_inBrackets (by omega) hp)
        · have e1 : Sy.bpr (.mk (o : Int) 0 [.mk op1 n1 ks1]) = Sy.onm o ++ Sy.binb (.mk op1 n1 ks1) := by
            unfold Sy.bpr; rw [Sy.bpc, if_neg (by omega), if_neg (by omega), hT]; simp [Sy.binb, Sy.bpr]
          have e2 : Sy.bcl (.mk (o : Int) 0 [.mk op1 n1 ks1]) = Sy.onm o ++ Sy.binb (.mk op1 n1 ks1) := by
            unfold Sy.bcl; rw [Sy.bpc, if_neg (by omega), if_neg (by omega), hT]; simp [Sy.binb, Sy.bpr]
          have b1 := binb_len (.mk op1 n1 ks1)
          have hc : WrC 49 (Sy.onm o ++ Sy.binb (.mk op1 n1 ks1)) (o : Int) 0 [.mk op1 n1 ks1] := sx_closed_fun (by omega) (by omega) (by omega) (by omega) A.b
          refine sx_mk hl ?_ ?_
          · rw [e1]; exact sw_printed_cl (.inr (.inr (.inr ⟨rfl, by omega, by omega⟩))) hc
          · rw [e2]; exact hc
    | bin o x y hx hy ho =>
      obtain ⟨op1, n1, ks1⟩ := x
      obtain ⟨op2, n2, ks2⟩ := y
      have hT : ((o : Int)).toNat = o := by omega
      obtain ⟨hd1, hd2⟩ := dpt_kid2 hd
      have A := ih (.mk op1 n1 ks1) (by simp) hx hd1
      have B := ih (.mk op2 n2 ks2) (by simp) hy hd2
      have hl1 := Sy.blen_16 hx hd1
      have hl2 := Sy.blen_16 hy hd2
      have b1 := binb_len (.mk op1 n1 ks1)
      have b2 := binb_len (.mk op2 n2 ks2)
      by_cases o11 : o = 11
      · subst o11
        have e1 : Sy.bpr (.mk ((11 : Nat) : Int) 0 [.mk op1 n1 ks1, .mk op2 n2 ks2]) = Sy.onm 11 ++ (Sy.binb (.mk op1 n1 ks1) ++ ([47] ++ Sy.binb (.mk op2 n2 ks2))) := by
          unfold Sy.bpr; rw [Sy.bpc, if_pos (show ((11 : Nat) : Int) = 11 from rfl)]; simp [Sy.binb, Sy.bpr]
        have e2 : Sy.bcl (.mk ((11 : Nat) : Int) 0 [.mk op1 n1 ks1, .mk op2 n2 ks2]) = Sy.onm 11 ++ (Sy.binb (.mk op1 n1 ks1) ++ ([47] ++ Sy.binb (.mk op2 n2 ks2))) := by
          unfold Sy.bcl; rw [Sy.bpc, if_pos (show ((11 : Nat) : Int) = 11 from rfl)]; simp [Sy.binb, Sy.bpr]
        have hc : WrC 49 (Sy.onm 11 ++ (Sy.binb (.mk op1 n1 ks1) ++ ([47] ++ Sy.binb (.mk op2 n2 ks2)))) ((11 : Nat) : Int) 0 [.mk op1 n1 ks1, .mk op2 n2 ks2] := sx_closed_atan (by omega) (by omega) A.b B.b
        refine sx_mk hl ?_ ?_
        · rw [e1]; exact sw_printed_cl (.inr (.inr (.inl rfl))) hc
        · rw [e2]; exact hc
      · have e1 : Sy.bpr (.mk (o : Int) 0 [.mk op1 n1 ks1, .mk op2 n2 ks2]) = Sy.bcl (.mk op1 n1 ks1) ++ ((32 :: Sy.onm o ++ [32]) ++ Sy.bcl (.mk op2 n2 ks2)) := by
          unfold Sy.bpr; rw [Sy.bpc, if_neg (by omega), hT]; simp [Sy.bcl]
        have e2 : Sy.bcl (.mk (o : Int) 0 [.mk op1 n1 ks1, .mk op2 n2 ks2]) = Sy.binb (.mk (o : Int) 0 [.mk op1 n1 ks1, .mk op2 n2 ks2]) := by
          unfold Sy.binb; rw [e1]; unfold Sy.bcl; rw [Sy.bpc, if_neg (by omega), hT]; simp [Sy.bcl]
        have hp : WrC 27 (Sy.bpr (.mk (o : Int) 0 [.mk op1 n1 ks1, .mk op2 n2 ks2])) (o : Int) 0 [.mk op1 n1 ks1, .mk op2 n2 ks2] := by
          rw [e1]; exact sx_printed_op (by omega) (by omega) (by omega) (by omega) (by omega) A.c B.c
        refine sx_mk hl hp ?_
        rw [e2]
        exact sw_closed_in (.inr ⟨rfl, by omega, by omega⟩) (sw_inBrackets (by omega) hp)
end Go.Proofs.YtciglhecjkeogaaGreatDoor
set_option linter.unusedVariables false
set_option linter.unusedSimpArgs false
namespace Go.Proofs.YtciglhecjkeogaaGreatDoor
namespace Sy
open Lx
def sz : Ex → Nat
  | .mk op n ks => 1 + (ks.attach.map (fun ⟨k, h⟩ => sz k)).sum
theorem sz_mk (op n : Int) (ks : List Ex) : sz (.mk op n ks) = 1 + (ks.map sz).sum := by
  rw [sz]; simp
theorem sz_num (n : Int) : sz (num n) = 1 := by rw [num, sz_mk]; rfl
theorem sz_un (o : Int) (x : Ex) : sz (un o x) = 1 + sz x := by rw [un, sz_mk]; simp
theorem sz_bin (o : Int) (x y : Ex) : sz (bin o x y) = 1 + sz x + sz y := by rw [bin, sz_mk]; simp; omega
def Lz (x : Ex) : Prop := (bpr x).length + 2 ≤ 20 * sz x ∧ (bcl x).length + 2 ≤ 20 * sz x
theorem blz (x : Ex) : okx x = true → Lz x := by
  induction x using Ex.ind with
  | h op n ks ih =>
    intro hok
    have hF := form hok
    cases hF with
    | num n h0 h1 =>
      have e1 : bpr (.mk 0 n []) = fmtp n := by simp [bpr, bpc]
      have e2 : bcl (.mk 0 n []) = fmtp n := by simp [bcl, bpc]
      have l := fmtp_16 h0 h1
      have d : sz (.mk 0 n []) = 1 := sz_num n
      unfold Lz; rw [e1, e2]; omega
    | un o x hx ho =>
      have ihx := ih x (by simp) hx
      have hT : ((o : Int)).toNat = o := by omega
      have d : sz (.mk (o : Int) 0 [x]) = 1 + sz x := sz_un _ x
      unfold Lz at ihx ⊢
      rw [d]
      by_cases o1 : o = 1
      · subst o1
        have e1 : bpr (.mk ((1 : Nat) : Int) 0 [x]) = 35 :: bce x := by
          simp only [bpr, bpc, bce, smp, binb, bcl]; simp [bpr]
        have e2 : bcl (.mk ((1 : Nat) : Int) 0 [x]) = 35 :: bce x := by
          simp only [bcl, bpc, bce, smp, binb]; simp [bpr]
        have l : (bce x).length ≤ max (bcl x).length ((bpr x).length + 2) := by
          unfold bce binb; split
          · omega
          · simp; omega
        rw [e1, e2, List.length_cons]; omega
      · by_cases o2 : o = 2
        · subst o2
          have e1 : bpr (.mk ((2 : Nat) : Int) 0 [x]) = 45 :: bcl x := by simp [bpr, bcl, bpc]
          have e2 : bcl (.mk ((2 : Nat) : Int) 0 [x]) = 91 :: (45 :: bcl x) ++ [93] := by simp [bcl, bpc]
          rw [e1, e2]; simp only [List.length_cons, List.length_append, List.length_nil]; omega
        · have e1 : bpr (.mk (o : Int) 0 [x]) = onm o ++ binb x := by
            unfold bpr; rw [bpc, if_neg (by omega), if_neg (by omega), hT]; simp [binb, bpr]
          have e2 : bcl (.mk (o : Int) 0 [x]) = onm o ++ binb x := by
            unfold bcl; rw [bpc, if_neg (by omega), if_neg (by omega), hT]; simp [binb, bpr]
          have lo := onm_len o (by omega)
          rw [e1, e2]; unfold binb; simp only [List.length_cons, List.length_append, List.length_nil]; omega
    | bin o x y hx hy ho =>
      have ihx := ih x (by simp) hx
      have ihy := ih y (by simp) hy
      have hT : ((o : Int)).toNat = o := by omega
      have lo := onm_len o (by omega)
      have d : sz (.mk (o : Int) 0 [x, y]) = 1 + sz x + sz y := sz_bin _ x y
      unfold Lz at ihx ihy ⊢
      rw [d]
      by_cases o11 : o = 11
      · subst o11
        have e1 : bpr (.mk ((11 : Nat) : Int) 0 [x, y]) = onm 11 ++ (binb x ++ ([47] ++ binb y)) := by
          unfold bpr; rw [bpc, if_pos (show ((11 : Nat) : Int) = 11 from rfl)]; simp [binb, bpr]
        have e2 : bcl (.mk ((11 : Nat) : Int) 0 [x, y]) = onm 11 ++ (binb x ++ ([47] ++ binb y)) := by
          unfold bcl; rw [bpc, if_pos (show ((11 : Nat) : Int) = 11 from rfl)]; simp [binb, bpr]
        have l4 : (onm 11).length = 4 := by decide
        rw [e1, e2]; unfold binb; simp only [List.length_cons, List.length_append, List.length_nil]; omega
      · have e1 : bpr (.mk (o : Int) 0 [x, y]) = bcl x ++ ((32 :: onm o ++ [32]) ++ bcl y) := by
          unfold bpr; rw [bpc, if_neg (by omega), hT]; simp [bcl]
        have e2 : bcl (.mk (o : Int) 0 [x, y]) = 91 :: (bcl x ++ ((32 :: onm o ++ [32]) ++ bcl y)) ++ [93] := by
          unfold bcl; rw [bpc, if_neg (by omega), hT]; simp [bcl]
        rw [e1, e2]; simp only [List.length_cons, List.length_append, List.length_nil]; omega
def SzR (i : Nat) (r : Rs Ex) : Prop := match r with
  | .ok x j => i + sz x ≤ j
  | .bad _ => True
theorem SzR.shut {ts : List Lx.Tok} {i : Nat} {r : Rs Ex} (h : SzR i r) : SzR i (shut ts r) := by
  cases r with
  | bad j => trivial
  | ok x j =>
    unfold Sy.shut; simp only
    by_cases e : tx ts j = [93]
    · rw [if_pos e]; unfold SzR at *; simp only at *; omega
    · rw [if_neg e]; trivial
theorem SzR.wrapU {i : Nat} {o : Int} {r : Rs Ex} (h : SzR (i + 1) r) : SzR i (wrapU o r) := by
  cases r with
  | bad j => trivial
  | ok x j => unfold SzR at *; simp only [Sy.wrapU, sz_un] at *; omega
theorem SzR.wrapB {i k : Nat} {o : Int} {x : Ex} {r : Rs Ex} (hx : i + 1 + sz x ≤ k) (h : SzR k r) : SzR i (wrapB o x r) := by
  cases r with
  | bad j => trivial
  | ok y j => unfold SzR at *; simp only [Sy.wrapB, sz_bin] at *; omega
theorem SzR.later {i k : Nat} {r : Rs Ex} (h : SzR k r) (g : i ≤ k) : SzR i r := by
  cases r with
  | bad j => trivial
  | ok y j => unfold SzR at *; simp only at *; omega
structure SzAll (ts : List Lx.Tok) (f : Nat) : Prop where
  e : ∀ l i, SzR i (pE ts f l i)
  l : ∀ l x i y j, pL ts f l x i = .ok y j → sz y + i ≤ sz x + j
  p : ∀ i, SzR i (pP ts f i)
  c : ∀ i, SzR i (pC ts f i)
  b : ∀ i, SzR i (pB ts f i)
theorem szr (ts : List Lx.Tok) : ∀ f, SzAll ts f
  | 0 => ⟨fun l i => by unfold pE; trivial, fun l x i y j e => by unfold pL at e; (cases e), fun i => by unfold pP; trivial, fun i => by unfold pC; trivial, fun i => by unfold pB; trivial⟩
  | f + 1 => by
    have ih := szr ts f
    refine ⟨fun l i => ?_, fun l x i y j e => ?_, fun i => ?_, fun i => ?_, fun i => ?_⟩
    · unfold pE
      split
      · split
        · exact SzR.wrapU (ih.e 5 (i + 1))
        · split
          · exact (ih.e 5 (i + 1)).later (by omega)
          · exact ih.p i
      · have g := ih.e (l + 1) i
        cases e : pE ts f (l + 1) i with
        | bad j => trivial
        | ok x j =>
          rw [e] at g
          unfold SzR at g
          simp only at g ⊢
          cases e2 : pL ts f l x j with
          | bad k => trivial
          | ok y k =>
            have k2 := ih.l l x j y k e2
            unfold SzR; simp only; omega
    · unfold pL at e
      cases e0 : lop l (tx ts i) with
      | none => rw [e0] at e; cases e; exact Nat.le_refl _
      | some o =>
        rw [e0] at e
        simp only at e
        have g := ih.e (l + 1) (i + 1)
        cases e1 : pE ts f (l + 1) (i + 1) with
        | bad k => rw [e1] at e; cases e
        | ok z k =>
          rw [e1] at e g
          unfold SzR at g
          simp only at e g
          by_cases h2 : l = 2
          · rw [if_pos h2] at e; cases e; rw [sz_bin]; omega
          · rw [if_neg h2] at e
            have k2 := ih.l l _ _ _ _ e
            rw [sz_bin] at k2; omega
    · unfold pP
      split
      · have g := ih.b (i + 1)
        cases e1 : pB ts f (i + 1) with
        | bad j => trivial
        | ok x j =>
          rw [e1] at g
          unfold SzR at g
          simp only at g ⊢
          by_cases e2 : tx ts j = [47]
          · rw [if_pos e2]
            exact SzR.wrapB (k := j) (by omega) ((ih.b (j + 1)).later (by omega))
          · rw [if_neg e2]; trivial
      · cases e1 : fun1 (tx ts i) with
        | none => exact ih.c i
        | some o => exact SzR.wrapU (ih.b (i + 1))
    · unfold pC
      split
      · unfold SzR; simp only [sz_num]; omega
      · split
        · exact SzR.wrapU (ih.c (i + 1))
        · exact ih.b i
    · unfold pB
      split
      · exact SzR.shut ((ih.e 0 (i + 1)).later (by omega))
      · trivial
end Sy
end Go.Proofs.YtciglhecjkeogaaGreatDoor
set_option linter.unusedVariables false
set_option linter.unusedSimpArgs false
namespace Go.Proofs.YtciglhecjkeogaaGreatDoor
open Go.RowKit
def Sy.prt (x : Sy.Ex) : List UInt8 := if Sy.rgt x = true then Sy.bpr x else []
theorem sx_print (op n : Int) (ks : List Sy.Ex) (a : Option Addr) (cap : Nat) (S : Nat → Prop) (w : World) (hO : Ow w) (hT : Tb w) (hk : KidsB w S a cap ks) :
    Calls Tryz.prog 10 #[.agg #[.int .i64 op, .int .i64 n, .slice a ks.length cap]] w fun e w' => e = .returned (.string (bs (Sy.prt (.mk op n ks)))) ∧ Qw w w' := by
  have cr : ∀ w1, Qw w w1 → Calls Tryz.prog 26 #[.agg #[.int .i64 op, .int .i64 n, .slice a ks.length cap]] w1 fun e w' => e = .returned (.bool (Sy.rgt (.mk op n ks))) ∧ Qw w1 w' := fun w1 q => sv_right op n ks a cap S w1 (hO.kept q) (hk.kept q)
  unfold Sy.prt
  cases hv : Sy.rgt (.mk op n ks) with
  | false =>
    rw [hv] at cr
    rw [if_neg (by decide)]
    have CR := Lib.hid cr
    clear cr hO hT hk
    have q0 : Hid (Qw w w) := Lib.hid (Qw.refl w)
    go_enter Tryz.func10, Tryz.ntmps10
    go_wp2_with (go_at_call 26; ((with_reducible refine (CR.out _ Qz).mono ?_); rintro e w' ⟨rfl, q⟩; replace q0 : Hid (Qw w w') := Lib.hid (Qw.trans Qz q); clear q))
    go_ret
    exact ⟨rfl, q0.out⟩
  | true =>
    rw [hv] at cr
    rw [if_pos rfl]
    have hv2 := hv
    simp only [Sy.rgt, Sy.depB, Bool.and_eq_true, decide_eq_true_eq] at hv2
    have A := sx_all (.mk op n ks) hv2.1 hv2.2
    have cp : ∀ w1, Qw w w1 → Calls Tryz.prog 27 #[.agg #[.int .i64 op, .int .i64 n, .slice a ks.length cap]] w1 fun e w' => e = .returned (.string (bs (Sy.bpr (.mk op n ks)))) ∧ Qw w1 w' := fun w1 q => A.p a cap S w1 (hO.kept q) (hT.kept q) (hk.kept q)
    generalize Sy.bpr (.mk op n ks) = r at cp ⊢
    have CR := Lib.hid cr
    have CP := Lib.hid cp
    clear cr cp hO hT hk A hv hv2
    have q0 : Hid (Qw w w) := Lib.hid (Qw.refl w)
    go_enter Tryz.func10, Tryz.ntmps10
    go_wp2_with (first
      | (go_at_call 26; ((with_reducible refine (CR.out _ Qz).mono ?_); rintro e w' ⟨rfl, q⟩; have B : Bx w' w.heap.size #[.int .i64 op, .int .i64 n, .slice a ks.length cap] 31 := Bx.kept (by repeat (first | exact Bx.new _ _ _ | refine Bx.alloc ?_ _ | refine Bx.drew ?_)) q; have x0 := B.cell' 0 _ rfl; have x1 := B.cell' 1 _ rfl; have x2 := B.cell' 2 _ rfl; clear B; replace q0 : Hid (Qw w w') := Lib.hid (Qw.trans Qz q); clear q))
      | (go_at_call 27; ((with_reducible refine (CP.out _ Qz).mono ?_); rintro e w' ⟨rfl, q⟩; replace q0 : Hid (Qw w w') := Lib.hid (Qw.trans Qz q); clear q)))
    go_ret
    exact ⟨rfl, q0.out⟩
end Go.Proofs.YtciglhecjkeogaaGreatDoor
set_option linter.unusedVariables false
set_option linter.unusedSimpArgs false
namespace Go.Proofs.YtciglhecjkeogaaGreatDoor
open Go.RowKit
namespace Lx
end Lx
namespace Sy
open Lx
theorem decs_1 {n : Int} (h0 : 0 ≤ n) (h : n < 10) : decs n = [UInt8.ofNat (48 + n.toNat)] := by
  unfold decs; rw [Lib.decDigits, dif_pos (by omega)]
theorem fmtp_1 (n m : Int) (e : n = m * 1000000) (h0 : 0 ≤ m) (h : m < 10) : fmtp n = [UInt8.ofNat (48 + m.toNat)] := by rw [e, fmtp_whole, decs_1 h0 h]
end Sy
end Go.Proofs.YtciglhecjkeogaaGreatDoor
set_option linter.unusedVariables false
set_option linter.unusedSimpArgs false
namespace Go.Proofs.YtciglhecjkeogaaGreatDoor
open Go.RowKit
def bcs (b : Sy.Bl) (wa : Option Addr) (wc : Nat) (la : Option Addr) (lc : Nat) (xa : Option Addr) (xc : Nat) : Array Value := #[.int .i64 b.kind, .int .i64 b.label, .bool b.skip, .slice wa b.words.length wc, .int .i64 b.left.op, .int .i64 b.left.n, .slice la b.left.ks.length lc, .int .i64 b.x.op, .int .i64 b.x.n, .slice xa b.x.ks.length xc, .int .i64 b.n]
theorem lineW {s : ByteArray} {b : Sy.Bl} {n : Nat} {er : Int} (hs : s.size ≤ 1000000) (e : Sy.lnR s.data.toList = (b, n, er)) (w : World) (hT : Tn w) (hO : Ow w) :
    Calls Tryz.prog 9 #[.string s] w fun e w' => ∃ wa wc la lc xa xc, e = .returned (.tuple #[.agg #[.int .i64 b.kind, .int .i64 b.label, .bool b.skip, .slice wa b.words.length wc, .int .i64 b.left.op, .int .i64 b.left.n, .slice la b.left.ks.length lc, .int .i64 b.x.op, .int .i64 b.x.n, .slice xa b.x.ks.length xc, .int .i64 b.n], .int .i64 (n : Int), .int .i64 er]) ∧ BlkB w' (fun b => w.heap.size ≤ b) b (bcs b wa wc la lc xa xc) ∧ Qw w w' := by
  have h := sz_line s hs w hT hO
  rw [e] at h
  refine h.mono ?_
  rintro e w' ⟨⟨cs, rfl, B⟩, q⟩
  have B0 := B
  obtain ⟨wa, wc, la, lc, xa, xc, rfl, _, _, _⟩ := B
  exact ⟨wa, wc, la, lc, xa, xc, rfl, B0, q⟩
theorem BlkB.kept {w w' : World} {S : Nat → Prop} {b : Sy.Bl} {cs : Array Value} (h : BlkB w S b cs) (q : Qw w w') : BlkB w' S b cs := h.go fun b hS hb => ⟨q.block b hb, hS⟩
end Go.Proofs.YtciglhecjkeogaaGreatDoor
set_option linter.unusedVariables false
set_option linter.unusedSimpArgs false
namespace Go.Proofs.YtciglhecjkeogaaGreatDoor
open Go.RowKit
namespace Sy
open Lx
theorem sz_le (x : Ex) : okx x = true → sz x + 1 ≤ 2 ^ dpt x := by
  induction x using Ex.ind with
  | h op n ks ih =>
    intro hok
    have hF := form hok
    cases hF with
    | num n h0 h1 =>
      have d : 2 ≤ 2 ^ dpt (.mk 0 n []) := two_le (a := 1) (by rw [dpt_mk]; omega)
      rw [sz_mk]; simp; omega
    | un o x hx ho =>
      have ihx := ih x (by simp) hx
      have d : dpt (.mk (o : Int) 0 [x]) = dpt x + 1 := by rw [dpt_mk]; simp [dmx]; omega
      rw [sz_mk, d, Nat.pow_succ]; simp; omega
    | bin o x y hx hy ho =>
      have ihx := ih x (by simp) hx
      have ihy := ih y (by simp) hy
      have d : dpt (.mk (o : Int) 0 [x, y]) = max (dpt x) (dpt y) + 1 := by rw [dpt_mk]; simp [dmx]; omega
      have a : 2 ^ dpt x ≤ 2 ^ max (dpt x) (dpt y) := two_le (by omega)
      have b : 2 ^ dpt y ≤ 2 ^ max (dpt x) (dpt y) := two_le (by omega)
      rw [sz_mk, d, Nat.pow_succ]; simp; omega
end Sy
end Go.Proofs.YtciglhecjkeogaaGreatDoor
set_option linter.unusedVariables false
set_option linter.unusedSimpArgs false
namespace Go.Proofs.YtciglhecjkeogaaGreatDoor
namespace Sy
def setB (x : Ex) : Bl := ⟨1, 0, false, [], num 1000000, x, 0⟩
theorem setB_vld {x : Ex} (hx : okx x = true) (d : dpt x ≤ 16) : vldb (setB x) = true := by
  have h1 := okx_num' (n := 1000000) (by decide) (by decide)
  unfold vldb okb limb depB setB
  simp [cnt, h1, hx, dpt_num, d]
theorem setB_fmb (x : Ex) : fmb (setB x) = [35, 49, 32, 61, 32] ++ bpr x := by
  have d1 := fmtp_1 1000000 1 rfl (by decide) (by decide)
  have e1 : bce (num 1000000) = [49] := by
    simp [bce, smp, num, bcl, bpc, d1, Ex.op]
  unfold fmb partsb setB ctl
  simp [joinb, e1]
theorem len5 {x : Ex} (h : okx x = true) (d : dpt x ≤ 5) : (bpr x).length ≤ 700 := by
  have s := sz_le x h
  have t : 2 ^ dpt x ≤ 32 := two_le (b := 5) d
  have l := blz x h
  unfold Lz at l
  omega
theorem setB_ln {x : Ex} (hx : okx x = true) (d : dpt x ≤ 5) : lnR ([35, 49, 32, 61, 32] ++ bpr x) = (setB x, ([35, 49, 32, 61, 32] ++ bpr x).length, 0) := by
  have h := lnR_fmb (b := setB x) (setB_vld hx (by omega)) (by rw [setB_fmb, List.length_append]; have := len5 hx d; simp; omega)
  rw [setB_fmb] at h
  exact h
theorem prt_ok {x : Ex} (hx : okx x = true) (d : dpt x ≤ 16) : prt x = bpr x := by
  unfold prt
  rw [if_pos (by unfold rgt depB; rw [hx, decide_eq_true d]; rfl)]
end Sy
theorem blk_x8 {w : World} {S : Nat → Prop} {b : Sy.Bl} {wa la xa : Option Addr} {wc lc xc : Nat} (h : BlkB w S b (bcs b wa wc la lc xa xc)) : KidsB w S xa xc b.x.ks := by
  obtain ⟨_, _, _, _, xa', xc', e, _, _, hX⟩ := h
  have e9 := congrArg (fun a => a[9]?) e
  simp [bcs] at e9
  obtain ⟨rfl, rfl⟩ := e9
  exact hX
theorem lineS {x : Sy.Ex} (hx : Sy.okx x = true) (d : Sy.dpt x ≤ 5) (w : World) (hT : Tn w) (hO : Ow w) :
    Calls Tryz.prog 9 #[.string ((⟨#[35, 49, 32, 61, 32]⟩ : ByteArray) ++ bs (Sy.bpr x))] w fun e w' => ∃ (wa : Option Addr) (wc : Nat) (la : Option Addr) (lc : Nat) (xa : Option Addr) (xc m : Nat),
      e = .returned (.tuple #[.agg #[.int .i64 1, .int .i64 0, .bool false, .slice wa 0 wc, .int .i64 0, .int .i64 1000000, .slice la 0 lc, .int .i64 x.op, .int .i64 x.n, .slice xa x.ks.length xc, .int .i64 0], .int .i64 (m : Int), .int .i64 0]) ∧ KidsB w' (fun _ => True) xa xc x.ks ∧ Qw w w' := by
  have e1 : (⟨#[35, 49, 32, 61, 32]⟩ : ByteArray) ++ bs (Sy.bpr x) = bs ([35, 49, 32, 61, 32] ++ Sy.bpr x) := show bs [35, 49, 32, 61, 32] ++ bs (Sy.bpr x) = _ by rw [bs_app]
  have hl := Sy.len5 hx d
  rw [e1]
  refine (lineW (s := bs ([35, 49, 32, 61, 32] ++ Sy.bpr x)) (by rw [bs_size, List.length_append]; simp; omega) (Sy.setB_ln hx d) w hT hO).mono ?_
  rintro e w' ⟨wa, wc, la, lc, xa, xc, rfl, hb, q⟩
  exact ⟨wa, wc, la, lc, xa, xc, _, rfl, (blk_x8 hb).mono (fun _ _ => trivial), q⟩
end Go.Proofs.YtciglhecjkeogaaGreatDoor
set_option linter.unusedVariables false
set_option linter.unusedSimpArgs false
namespace Go.Proofs.YtciglhecjkeogaaGreatDoor
open Go.RowKit
def TpB (w : World) (B : Nat) (v : Value) (zs : List Int) : Prop := ∃ k, TapeAt w B v zs k
theorem TpB.lt {w : World} {B : Nat} {v : Value} {zs : List Int} (h : TpB w B v zs) : B < w.heap.size := by
  obtain ⟨k, h⟩ := h; exact lt_of_block h.1
theorem TpB.kept {w w' : World} {B : Nat} {v : Value} {zs : List Int} (h : TpB w B v zs) (q : Qw w w') : TpB w' B v zs := by
  obtain ⟨k, h⟩ := h; exact ⟨k, h.kept q⟩
theorem TpB.other {w : World} {B : Nat} {v : Value} {zs : List Int} (h : TpB w B v zs) {b : Nat} (hb : B < b) (o : Nat) (u : Value) : TpB (w.setCell ⟨b, o, none⟩ u) B v zs := by
  obtain ⟨k, h1, h2, h3⟩ := h
  exact ⟨k, (Below.heap_setCell _ _ _ _ (by show B ≠ b; omega)).trans h1, h2.kept (C := b) ((Below.refl b w).setCell (p := ⟨b, o, none⟩) (Nat.le_refl _) u) (by omega), h3⟩
theorem px_grown {B : Nat} {w w' : World} (h : w.grownBy w' (some B)) : Px B w w' := ⟨h.os, h.tape, h.output, h.size, fun k hk hB => h.block k hk (by simp; omega)⟩
theorem nextA {B : Nat} {v : Value} {zs : List Int} (n : Int) (n1 : 1 ≤ n) (n2 : n ≤ 9223372036854775807) (w : World) (h : TpB w B v zs) :
    Calls Tryz.prog 19 #[.pointer (some ⟨B, 0, none⟩), .int .i64 n] w fun e w' => ∃ r, e = .returned (.int .i64 r) ∧ 0 ≤ r ∧ r < n ∧ TpB w' B v zs ∧ Px B w w' := by
  obtain ⟨k, h⟩ := h
  refine (nextG B v zs k n n1 n2 w h).mono ?_
  rintro e w' ⟨rfl, t, g⟩
  obtain ⟨b0, b1⟩ := nxt_bd zs k n n1
  exact ⟨_, rfl, b0, b1, ⟨_, t⟩, px_grown g⟩
set_option maxRecDepth 100000 in
set_option maxHeartbeats 4000000 in
theorem rangeA {B : Nat} {v : Value} {zs : List Int} (lo hi : Int) (l0 : 0 ≤ lo) (l1 : lo ≤ hi) (l2 : hi ≤ 1000000) (w : World) (h : TpB w B v zs) :
    Calls Tryz.prog 29 #[.pointer (some ⟨B, 0, none⟩), .int .i64 lo, .int .i64 hi] w fun e w' => ∃ r, e = .returned (.int .i64 r) ∧ lo ≤ r ∧ r ≤ hi ∧ TpB w' B v zs ∧ Px B w w' := by
  have C1 := Lib.hid (nextA (hi - lo + 1) (by omega) (by omega) w h)
  clear h
  go_enter Tryz.func29, Tryz.ntmps29
  go_wp2_with (go_at_call 19; ((with_reducible refine C1.out.mono ?_); rintro e w' ⟨r, rfl, r0, r1, tp, q⟩; have TP := Lib.hid tp; have Q1 := Lib.hid q; clear tp q))
  go_ret
  exact ⟨_, rfl, by omega, by omega, TP.out, Q1.out⟩
set_option maxRecDepth 100000 in
set_option maxHeartbeats 4000000 in
theorem numberA {B : Nat} {v : Value} {zs : List Int} (w : World) (h : TpB w B v zs) :
    Calls Tryz.prog 18 #[.pointer (some ⟨B, 0, none⟩)] w fun e w' => ∃ r, e = .returned (.int .i64 r) ∧ 0 ≤ r ∧ r < 1000000000000000 ∧ TpB w' B v zs ∧ Px B w w' := by
  have c := fun n n1 n2 w h => nextA (B := B) (v := v) (zs := zs) n n1 n2 w h
  have TP := Lib.hid h
  have C := Lib.hid c
  clear h c
  have q0 : Hid (Px B w w) := Lib.hid (Px.refl B w)
  go_enter Tryz.func18, Tryz.ntmps18
  go_wp2_with (go_at_call 19; ((with_reducible refine (C.out _ (by decide) (by decide) _ TP.out).mono ?_); rintro e w' ⟨r, rfl, r0, r1, tp, q⟩; replace TP := Lib.hid tp; replace q0 : Hid (Px B w w') := Lib.hid (Px.trans q0.out q); clear tp q))
  all_goals go_ret
  all_goals exact ⟨_, rfl, by omega, by omega, TP.out, q0.out⟩
set_option maxRecDepth 100000 in
set_option maxHeartbeats 4000000 in
theorem variableA {B : Nat} {v : Value} {zs : List Int} (w : World) (h : TpB w B v zs) :
    Calls Tryz.prog 17 #[.pointer (some ⟨B, 0, none⟩)] w fun e w' => ∃ r, e = .returned (.int .i64 r) ∧ 0 ≤ r ∧ r ≤ 10000 ∧ TpB w' B v zs ∧ Px B w w' := by
  have c := fun n n1 n2 w h => nextA (B := B) (v := v) (zs := zs) n n1 n2 w h
  have d := fun lo hi l0 l1 l2 w h => rangeA (B := B) (v := v) (zs := zs) lo hi l0 l1 l2 w h
  have TP := Lib.hid h
  have C := Lib.hid c
  have D := Lib.hid d
  clear h c d
  have q0 : Hid (Px B w w) := Lib.hid (Px.refl B w)
  go_enter Tryz.func17, Tryz.ntmps17
  go_wp2_with (first
    | (go_at_call 19; ((with_reducible refine (C.out _ (by decide) (by decide) _ TP.out).mono ?_); rintro e w' ⟨r, rfl, r0, r1, tp, q⟩; replace TP := Lib.hid tp; replace q0 : Hid (Px B w w') := Lib.hid (Px.trans q0.out q); clear tp q))
    | (go_at_call 29; ((with_reducible refine (D.out _ _ (by decide) (by decide) (by decide) _ TP.out).mono ?_); rintro e w' ⟨r, rfl, r0, r1, tp, q⟩; replace TP := Lib.hid tp; replace q0 : Hid (Px B w w') := Lib.hid (Px.trans q0.out q); clear tp q)))
  all_goals go_ret
  all_goals exact ⟨_, rfl, by omega, by omega, TP.out, q0.out⟩
end Go.Proofs.YtciglhecjkeogaaGreatDoor
set_option linter.unusedVariables false
set_option linter.unusedSimpArgs false
namespace Go.Proofs.YtciglhecjkeogaaGreatDoor
open Go.RowKit
def ExA (B : Nat) (v : Value) (zs : List Int) (d : Nat) (w : World) (e : Ending) (w' : World) : Prop :=
  ∃ (x : Sy.Ex) (ka : Option Addr) (kc : Nat), e = .returned (.agg #[.int .i64 x.op, .int .i64 x.n, .slice ka x.ks.length kc]) ∧ Sy.okx x = true ∧ Sy.dpt x ≤ d ∧ KidsB w' (fun b => w.heap.size ≤ b) ka kc x.ks ∧ TpB w' B v zs ∧ Px B w w'
theorem exaEnd {B : Nat} {v : Value} {zs : List Int} {d : Nat} {w w' : World} {fn : Func} {s : Nat} {act : Act} (hr : fn.results = #[.cell s 31]) (hs : act.tmps[s]?.getD undef = .pointer (some ⟨w.heap.size, 0, none⟩)) (hd : act.defers = [])
    {x : Sy.Ex} {ka : Option Addr} {kc : Nat} {o n : Int} {l : Nat} (xo : x.op = o) (xn : x.n = n) (xl : x.ks.length = l) (ok : Sy.okx x = true) (dp : Sy.dpt x ≤ d) (hB : B < w.heap.size)
    (R : Bx w' w.heap.size exZ 31) (K : KidsB w' (fun b => w.heap.size < b) ka kc x.ks) (T : TpB w' B v zs) (q : Px B w w') :
    bodyPost Tryz.prog fn (ExA B v zs d w) .ret act (((w'.setCell ⟨w.heap.size, 0, none⟩ (.int .i64 o)).setCell ⟨w.heap.size, 1, none⟩ (.int .i64 n)).setCell ⟨w.heap.size, 2, none⟩ (.slice ka l kc)) := by
  subst xo xn xl
  have n : ¬ w.heap.size < w.heap.size := Nat.lt_irrefl _
  refine bodyPost_ret (ret_ex hr hs (((R.set 0 _).set 1 _).set 2 _)) hd ⟨x, ka, kc, rfl, ok, dp, KidsB.mono (((K.set n _).set n _).set n _) (fun b hb => Nat.le_of_lt hb), ((T.other hB _ _).other hB _ _).other hB _ _, ((q.setNew (Nat.le_refl _) _).setNew (Nat.le_refl _) _).setNew (Nat.le_refl _) _⟩
theorem exaEnd2 {B : Nat} {v : Value} {zs : List Int} {d : Nat} {w w' : World} {fn : Func} {s : Nat} {act : Act} (hr : fn.results = #[.cell s 31]) (hs : act.tmps[s]?.getD undef = .pointer (some ⟨w.heap.size, 0, none⟩)) (hd : act.defers = [])
    {x : Sy.Ex} {ka : Option Addr} {kc : Nat} {o n : Int} {l : Nat} (xo : x.op = o) (xn : x.n = n) (xl : x.ks.length = l) (ok : Sy.okx x = true) (dp : Sy.dpt x ≤ d) (hB : B < w.heap.size) (ob : Obj)
    (R : Bx w' w.heap.size exZ 31) (K : KidsB (w'.alloc ob) (fun b => w.heap.size < b) ka kc x.ks) (T : TpB w' B v zs) (q : Px B w w') :
    bodyPost Tryz.prog fn (ExA B v zs d w) .ret act ((((w'.setCell ⟨w.heap.size, 0, none⟩ (.int .i64 o)).setCell ⟨w.heap.size, 1, none⟩ (.int .i64 n)).setCell ⟨w.heap.size, 2, none⟩ (.slice ka l kc)).alloc ob) := by
  have k := exaEnd hr hs hd xo xn xl ok dp hB (R.alloc ob) K (T.kept ((Below.refl _ _).alloc (Nat.le_refl _) ob)) (q.alloc ob)
  have hl := R.lt
  rw [World.setCell_alloc_past _ _ _ _ hl, World.setCell_alloc_past _ _ _ _ (by simpa [World.setCell] using hl), World.setCell_alloc_past _ _ _ _ (by simpa [World.setCell] using hl)] at k
  exact k
theorem lit_all {cs : Array Value} (r : Int) (l : List Int) (hc : cs.toList = l.map (fun o => Value.int .i64 o)) (h0 : 0 ≤ r) (h1 : r < l.length) : ∃ o, o ∈ l ∧ ∀ (w : World) (b : Nat) (t : TypeId), Bx w b cs t → w.cell? ⟨b, r.toNat, none⟩ = some (.int .i64 o) := by
  have hr : r.toNat < l.length := by omega
  refine ⟨l[r.toNat], List.getElem_mem hr, fun w b t X => ?_⟩
  rw [X.cell, ← Array.getElem?_toList, hc, List.getElem?_map, List.getElem?_eq_getElem hr]
  rfl
theorem Bx.kept2 {P : Nat} {w w1 w' : World} {b : Nat} {cs : Array Value} {t : TypeId} (h : Bx w b cs t) (q1 : Qw w w1) (q : Px P w1 w') (hb : b ≠ P) : Bx w' b cs t := (h.kept q1).px q hb
def opsU : List Int := [2, 8, 9, 10, 12, 13, 14, 15, 16]
def opsB : List Int := [3, 4, 5, 6, 7, 11, 17, 18, 19, 20, 21, 22, 23, 24, 25, 3, 4, 5]
theorem opsU_ok {o : Int} (h : o ∈ opsU) : (0 ≤ o ∧ o ≤ 25) ∧ Sy.kds o.toNat = 1 := by
  have : ∀ o ∈ opsU, (0 ≤ o ∧ o ≤ 25) ∧ Sy.kds o.toNat = 1 := by decide
  exact this o h
theorem opsB_ok {o : Int} (h : o ∈ opsB) : (0 ≤ o ∧ o ≤ 25) ∧ Sy.kds o.toNat = 2 := by
  have : ∀ o ∈ opsB, (0 ≤ o ∧ o ≤ 25) ∧ Sy.kds o.toNat = 2 := by decide
  exact this o h
set_option maxRecDepth 100000 in
set_option maxHeartbeats 4000000 in
theorem exprA {B : Nat} {v : Value} {zs : List Int} (d : Nat) : ∀ w, 1 ≤ d → d ≤ 6 → TpB w B v zs → Calls Tryz.prog 7 #[.pointer (some ⟨B, 0, none⟩), .int .i64 (d : Int)] w (ExA B v zs d w) := by
  induction d with
  | zero => intro w h; omega
  | succ d ih =>
    intro w _ hd6 hT
    have hB := hT.lt
    have k1 : ((d + 1 : Nat) : Int) = (d : Int) + 1 := by omega
    rw [k1]
    have c := fun n n1 n2 w h => nextA (B := B) (v := v) (zs := zs) n n1 n2 w h
    have cn := fun w h => numberA (B := B) (v := v) (zs := zs) w h
    have cv := fun w h => variableA (B := B) (v := v) (zs := zs) w h
    have TP := Lib.hid hT
    have C := Lib.hid c
    have CN := Lib.hid cn
    have CV := Lib.hid cv
    have IH := Lib.hid ih
    clear hT c cn cv ih k1
    have R : Hid (Bx (w.alloc (.cells exZ 31)) w.heap.size exZ 31) := Lib.hid (Bx.new w _ _)
    have q0 : Hid (Px B w w) := Lib.hid (Px.refl B w)
    go_enter Tryz.func7, Tryz.ntmps7
    go_upto_region 2 with (first | (go_at_call 19; ((with_reducible refine (C.out _ (by decide) (by decide) _ (TP.out.kept (by unfold Qw; repeat (first | exact Below.refl _ _ | refine Below.setCell ?_ (by first | (simp; done) | (simp; omega)) _ | refine Below.alloc ?_ (by first | (simp; done) | (simp; omega)) _ | refine bel_drewN ?_ _ | refine Below.drew ?_)))).mono ?_); rintro e w' ⟨r, rfl, r0, r1, tp, q⟩; replace TP := Lib.hid tp; replace R : Hid (Bx w' w.heap.size exZ 31) := Lib.hid (Bx.px Rz q (by omega)); have rl := R.out.lt; have s0 := R.out.free 0; have s1 := R.out.free 1; have s2 := R.out.free 2; have u0 := R.out.cell' 0 _ rfl; have u1 := R.out.cell' 1 _ rfl; have u2 := R.out.cell' 2 _ rfl; replace q0 : Hid (Px B w w') := Lib.hid (Px.trans Pz q); clear tp q)))
    by_cases ha : d = 0 ∨ r < 3
    · have num : ∀ m : Int, 0 ≤ m → m < 1000000000000000 → Sy.okx (Sy.num m) = true ∧ Sy.dpt (Sy.num m) ≤ d + 1 := fun m h0 h1 => ⟨Sy.okx_num' h0 h1, by rw [Sy.dpt_num]; omega⟩
      have NUM := Lib.hid num
      clear num IH
      by_cases hd : d = 0
      · subst hd
        go_wp2_with (go_at_call 18; ((with_reducible refine (CN.out _ TP.out).mono ?_); rintro e w' ⟨m, rfl, m0, m1, tp, q⟩; replace TP := Lib.hid tp; replace R : Hid (Bx w' w.heap.size exZ 31) := Lib.hid (Bx.px Rz q (by omega)); have rl := R.out.lt; have s0 := R.out.free 0; have s1 := R.out.free 1; have s2 := R.out.free 2; have u0 := R.out.cell' 0 _ rfl; have u1 := R.out.cell' 1 _ rfl; have u2 := R.out.cell' 2 _ rfl; replace q0 : Hid (Px B w w') := Lib.hid (Px.trans Pz q); clear tp q))
        obtain ⟨ok, dp⟩ := NUM.out m m0 m1
        exact exaEnd (x := Sy.num m) Tryz.results7 rfl rfl rfl rfl rfl ok dp hB R.out (KidsB.nl none 0 (by decide)) TP.out q0.out
      · have hd2 : ¬ (d : Int) + 1 < 2 := by omega
        have hr3 : r < 3 := by omega
        go_wp2_with (go_at_call 18; ((with_reducible refine (CN.out _ TP.out).mono ?_); rintro e w' ⟨m, rfl, m0, m1, tp, q⟩; replace TP := Lib.hid tp; replace R : Hid (Bx w' w.heap.size exZ 31) := Lib.hid (Bx.px Rz q (by omega)); have rl := R.out.lt; have s0 := R.out.free 0; have s1 := R.out.free 1; have s2 := R.out.free 2; have u0 := R.out.cell' 0 _ rfl; have u1 := R.out.cell' 1 _ rfl; have u2 := R.out.cell' 2 _ rfl; replace q0 : Hid (Px B w w') := Lib.hid (Px.trans Pz q); clear tp q))
        obtain ⟨ok, dp⟩ := NUM.out m m0 m1
        exact exaEnd (x := Sy.num m) Tryz.results7 rfl rfl rfl rfl rfl ok dp hB R.out (KidsB.nl none 0 (by decide)) TP.out q0.out
    · obtain ⟨hd0, hr3⟩ : ¬ d = 0 ∧ ¬ r < 3 := ⟨fun h => ha (.inl h), fun h => ha (.inr h)⟩
      have hd2 : ¬ (d : Int) + 1 < 2 := by omega
      clear ha CN
      by_cases h5 : r < 5
      · go_upto_region 8 with (first
          | (go_at_call 17; ((with_reducible refine (CV.out _ TP.out).mono ?_); rintro e w6 ⟨m, rfl, m0, m1, tp, q⟩; replace TP := Lib.hid tp; replace R : Hid (Bx w6 w.heap.size exZ 31) := Lib.hid (Bx.px Rz q (by omega)); replace q0 : Hid (Px B w w6) := Lib.hid (Px.trans Pz q); have X : Hid (Bx (w6.alloc (.cells #[.int .i64 0, .int .i64 (m * 1000000), .slice none 0 0] 31)) w6.heap.size #[.int .i64 0, .int .i64 (m * 1000000), .slice none 0 0] 31) := Lib.hid (Bx.new _ _ _); have xB : B < w6.heap.size := TP.out.lt; have xr : w.heap.size < w6.heap.size := R.out.lt; clear tp q))
          | (go_at_call 19; ((with_reducible refine (C.out _ (by decide) (by decide) _ (TP.out.kept (by unfold Qw; repeat (first | exact Below.refl _ _ | refine Below.setCell ?_ (by first | (simp; done) | (simp; omega)) _ | refine Below.alloc ?_ (by first | (simp; done) | (simp; omega)) _ | refine bel_drewN ?_ _ | refine Below.drew ?_)))).mono ?_); rintro e w' ⟨r2, rfl, r20, r21, tp, q⟩; replace TP := Lib.hid tp; replace R : Hid (Bx w' w.heap.size exZ 31) := Lib.hid (Bx.px Rz q (by omega)); have rl := R.out.lt; have s0 := R.out.free 0; have s1 := R.out.free 1; have s2 := R.out.free 2; have u0 := R.out.cell' 0 _ rfl; have u1 := R.out.cell' 1 _ rfl; have u2 := R.out.cell' 2 _ rfl; replace X := Lib.hid (Bx.px (by repeat (first | exact X.out | refine Bx.alloc ?_ _ | refine Bx.drew ?_)) q (by omega)); replace q0 : Hid (Px B w w') := Lib.hid (Px.trans Pz q); clear tp q; have xl := X.out.lt; have x0 := X.out.cell' 0 _ rfl; have x1 := X.out.cell' 1 _ rfl; have x2 := X.out.cell' 2 _ rfl; have t0 := X.out.free 0; have t1 := X.out.free 1; have t2 := X.out.free 2))
          | (go_at_call 7; ((with_reducible refine (IH.out _ (by omega) (by omega) TP.out).mono ?_); rintro e w' ⟨y, ka, kc, rfl, ok, dp, K, tp, q⟩; have KH : Hid (KidsB w' (fun b => w.heap.size < b ∧ b ≠ w6.heap.size) ka kc y.ks) := Lib.hid (K.mono fun b hb => ⟨by omega, by omega⟩); replace TP := Lib.hid tp; replace R : Hid (Bx w' w.heap.size exZ 31) := Lib.hid (Bx.px Rz q (by omega)); have rl := R.out.lt; have s0 := R.out.free 0; have s1 := R.out.free 1; have s2 := R.out.free 2; have u0 := R.out.cell' 0 _ rfl; have u1 := R.out.cell' 1 _ rfl; have u2 := R.out.cell' 2 _ rfl; replace X := Lib.hid (Bx.px (by repeat (first | exact X.out | refine Bx.alloc ?_ _ | refine Bx.drew ?_)) q (by omega)); have xl := X.out.lt; have x0 := X.out.cell' 0 _ rfl; have x1 := X.out.cell' 1 _ rfl; have x2 := X.out.cell' 2 _ rfl; have t0 := X.out.free 0; have t1 := X.out.free 1; have t2 := X.out.free 2; replace q0 : Hid (Px B w w') := Lib.hid (Px.trans Pz q); clear tp q K)))
        · refine code_of (fun w2 => Hid (Bx w2 w.heap.size exZ 31) ∧ Hid (Bx w2 w6.heap.size #[.int .i64 y.op, .int .i64 y.n, .slice ka y.ks.length kc] 31) ∧ Hid (KidsB w2 (fun b => w.heap.size < b ∧ b ≠ w6.heap.size) ka kc y.ks) ∧ Hid (TpB w2 B v zs) ∧ Hid (Px B w w2))
            ⟨Lib.hid (((R.out.other (by show w.heap.size ≠ w6.heap.size; omega) _).other (by show w.heap.size ≠ w6.heap.size; omega) _).other (by show w.heap.size ≠ w6.heap.size; omega) _), Lib.hid (((X.out.set 0 _).set 1 _).set 2 _), Lib.hid (((KH.out.set (fun h => h.2 rfl) _).set (fun h => h.2 rfl) _).set (fun h => h.2 rfl) _), Lib.hid (((TP.out.other xB _ _).other xB _ _).other xB _ _), Lib.hid (((q0.out.setNew (by show w.heap.size ≤ w6.heap.size; omega) _).setNew (by show w.heap.size ≤ w6.heap.size; omega) _).setNew (by show w.heap.size ≤ w6.heap.size; omega) _)⟩ ?_
          clear R X KH TP q0 x0 x1 x2 u0 u1 u2 s0 s1 s2 t0 t1 t2 rl xl
          rintro w2 ⟨R, X, K, TP, q0⟩
          have rl := R.out.lt
          have s0 := R.out.free 0
          have s1 := R.out.free 1
          have s2 := R.out.free 2
          have u0 := R.out.cell' 0 _ rfl
          have u1 := R.out.cell' 1 _ rfl
          have u2 := R.out.cell' 2 _ rfl
          have xl := X.out.lt
          have x0 := X.out.cell' 0 _ rfl
          have x1 := X.out.cell' 1 _ rfl
          have x2 := X.out.cell' 2 _ rfl
          have t0 := X.out.free 0
          have t1 := X.out.free 1
          have t2 := X.out.free 2
          have xr2 := X.out.lt
          go_wp2_with fail
          exact exaEnd2 (d := d + 1) (x := Sy.un 1 y) Tryz.results7 rfl rfl rfl rfl rfl (Sy.okx_un' (by decide) rfl ok) (by rw [Sy.dpt_un]; omega) hB _ R.out (KidsB.one (x := y) (Bx.new _ _ _) (by show w.heap.size < w2.heap.size; omega) ((K.out.alloc _).mono fun b hb => hb.1)) TP.out q0.out
        · have K : Hid (KidsB w' (fun b => w.heap.size < b ∧ b ≠ w6.heap.size) none 0 (Sy.num (m * 1000000)).ks) := Lib.hid (KidsB.nl none 0 (by decide))
          have ok : Sy.okx (Sy.num (m * 1000000)) = true := Sy.okx_num' (by omega) (by omega)
          have dp : Sy.dpt (Sy.num (m * 1000000)) ≤ d := by rw [Sy.dpt_num]; omega
          have xr2 := X.out.lt
          go_wp2_with fail
          exact exaEnd2 (d := d + 1) (x := Sy.un 1 (Sy.num (m * 1000000))) Tryz.results7 rfl rfl rfl rfl rfl (Sy.okx_un' (by decide) rfl ok) (by rw [Sy.dpt_un]; omega) hB _ R.out (KidsB.one (x := (Sy.num (m * 1000000))) (Bx.new _ _ _) (by show w.heap.size < w'.heap.size; omega) ((K.out.alloc _).mono fun b hb => hb.1)) TP.out q0.out
      · by_cases h6 : r < 6
        · go_upto_region 11 with fail
          refine code_of (fun w2 => Hid (Bx w2 w.heap.size exZ 31) ∧ (∃ T, Hid (Bx w2 w'.heap.size #[.int .i64 2, .int .i64 8, .int .i64 9, .int .i64 10, .int .i64 12, .int .i64 13, .int .i64 14, .int .i64 15, .int .i64 16] T)) ∧ Hid (TpB w2 B v zs) ∧ Hid (Px B w w2)) ⟨Lib.hid (R.out.alloc _), ⟨_, Lib.hid (Bx.new _ _ _)⟩, Lib.hid (TP.out.kept ((Below.refl _ _).alloc (Nat.le_refl _) _)), Lib.hid (q0.out.alloc _)⟩ ?_
          have lB : B < w'.heap.size := TP.out.lt
          clear R TP q0 u0 u1 u2 s0 s1 s2 rl
          rintro w2 ⟨R, ⟨T, L⟩, TP, q0⟩
          have rl := R.out.lt
          have s0 := R.out.free 0
          have s1 := R.out.free 1
          have s2 := R.out.free 2
          have u0 := R.out.cell' 0 _ rfl
          have u1 := R.out.cell' 1 _ rfl
          have u2 := R.out.cell' 2 _ rfl
          have hwd : IntKind.i64.wrap (d : Int) = (d : Int) := IntWalk.i64_in _ (by omega)
          go_region_law ((try go_simp); go_wp2_with (first
            | (go_at_call 19; ((with_reducible refine (C.out _ (by decide) (by decide) _ (TP.out.kept (show Qw _ _ by repeat (first | exact Qw.refl _ | refine Qw.al ?_ _ | refine Qw.dr ?_ | refine Qw.dn ?_ _)))).mono ?_); rintro e w' ⟨r2, rfl, r20, r21, tp, q⟩; replace TP := Lib.hid tp; replace R : Hid (Bx w' w.heap.size exZ 31) := Lib.hid (Bx.kept2 R.out (show Qw _ _ by repeat (first | exact Qw.refl _ | refine Qw.al ?_ _ | refine Qw.dr ?_ | refine Qw.dn ?_ _)) q (by omega)); have rl := R.out.lt; have s0 := R.out.free 0; have s1 := R.out.free 1; have s2 := R.out.free 2; have u0 := R.out.cell' 0 _ rfl; have u1 := R.out.cell' 1 _ rfl; have u2 := R.out.cell' 2 _ rfl; replace L := Lib.hid (Bx.kept2 L.out (show Qw _ _ by repeat (first | exact Qw.refl _ | refine Qw.al ?_ _ | refine Qw.dr ?_ | refine Qw.dn ?_ _)) q (by omega)); obtain ⟨o, hm, hl⟩ := lit_all (cs := #[.int .i64 2, .int .i64 8, .int .i64 9, .int .i64 10, .int .i64 12, .int .i64 13, .int .i64 14, .int .i64 15, .int .i64 16]) r2 opsU rfl r20 r21; have ho := hl _ _ _ L.out; have HL := Lib.hid hl; replace q0 : Hid (Px B w w') := Lib.hid (Px.trans (Px.trans q0.out (Px.of (show Qw _ _ by repeat (first | exact Qw.refl _ | refine Qw.al ?_ _ | refine Qw.dr ?_ | refine Qw.dn ?_ _)))) q); clear tp q hl))
            | (go_at_call 7; ((with_reducible refine (IH.out _ (by omega) (by omega) (TP.out.kept (show Qw _ _ by repeat (first | exact Qw.refl _ | refine Qw.al ?_ _ | refine Qw.dr ?_ | refine Qw.dn ?_ _)))).mono ?_); rintro e w' ⟨y, ka, kc, rfl, ok, dp, K, tp, q⟩; have KH : Hid (KidsB w' (fun b => w.heap.size < b) ka kc y.ks) := Lib.hid (K.mono fun b hb => Nat.lt_of_lt_of_le R.out.lt hb); replace TP := Lib.hid tp; replace R : Hid (Bx w' w.heap.size exZ 31) := Lib.hid (Bx.kept2 R.out (show Qw _ _ by repeat (first | exact Qw.refl _ | refine Qw.al ?_ _ | refine Qw.dr ?_ | refine Qw.dn ?_ _)) q (by omega)); have rl := R.out.lt; have s0 := R.out.free 0; have s1 := R.out.free 1; have s2 := R.out.free 2; have u0 := R.out.cell' 0 _ rfl; have u1 := R.out.cell' 1 _ rfl; have u2 := R.out.cell' 2 _ rfl; replace L := Lib.hid (Bx.kept2 L.out (show Qw _ _ by repeat (first | exact Qw.refl _ | refine Qw.al ?_ _ | refine Qw.dr ?_ | refine Qw.dn ?_ _)) q (by omega)); have ho := HL.out _ _ _ L.out; have Ll := L.out.lt; have Ln := Nat.ne_of_lt Ll; replace q0 : Hid (Px B w w') := Lib.hid (Px.trans (Px.trans q0.out (Px.of (show Qw _ _ by repeat (first | exact Qw.refl _ | refine Qw.al ?_ _ | refine Qw.dr ?_ | refine Qw.dn ?_ _)))) q); clear tp q K))))
          all_goals go_wp2_with fail
          all_goals exact exaEnd2 (d := d + 1) (x := Sy.un o y) Tryz.results7 rfl rfl rfl rfl rfl (Sy.okx_un' (opsU_ok hm).1 (opsU_ok hm).2 ok) (by rw [Sy.dpt_un]; omega) hB _ R.out (KidsB.one (x := y) (Bx.new _ _ _) R.out.lt (KH.out.alloc _)) TP.out q0.out
        · go_upto_region 15 with (first
            | (go_at_call 19; ((with_reducible refine (C.out _ (by decide) (by decide) _ (TP.out.kept (show Qw _ _ by repeat (first | exact Qw.refl _ | refine Qw.al ?_ _ | refine Qw.dr ?_ | refine Qw.dn ?_ _)))).mono ?_); rintro e w5 ⟨r2, rfl, r20, r21, tp, q⟩; obtain ⟨o, hm, hl⟩ := lit_all (cs := #[.int .i64 3, .int .i64 4, .int .i64 5, .int .i64 6, .int .i64 7, .int .i64 11, .int .i64 17, .int .i64 18, .int .i64 19, .int .i64 20, .int .i64 21, .int .i64 22, .int .i64 23, .int .i64 24, .int .i64 25, .int .i64 3, .int .i64 4, .int .i64 5]) r2 opsB rfl r20 r21; have ho := hl _ _ _ (Bx.kept2 (Bx.new _ _ _) (show Qw _ _ by repeat (first | exact Qw.refl _ | refine Qw.al ?_ _ | refine Qw.dr ?_ | refine Qw.dn ?_ _)) q (Nat.ne_of_gt TP.out.lt)); replace TP := Lib.hid tp; replace R : Hid (Bx w5 w.heap.size exZ 31) := Lib.hid (Bx.kept2 R.out (show Qw _ _ by repeat (first | exact Qw.refl _ | refine Qw.al ?_ _ | refine Qw.dr ?_ | refine Qw.dn ?_ _)) q (by omega)); have rl := R.out.lt; have s0 := R.out.free 0; have s1 := R.out.free 1; have s2 := R.out.free 2; have u0 := R.out.cell' 0 _ rfl; have u1 := R.out.cell' 1 _ rfl; have u2 := R.out.cell' 2 _ rfl; replace q0 : Hid (Px B w w5) := Lib.hid (Px.trans (Px.trans q0.out (Px.of (show Qw _ _ by repeat (first | exact Qw.refl _ | refine Qw.al ?_ _ | refine Qw.dr ?_ | refine Qw.dn ?_ _)))) q); clear tp q hl))
            | (go_at_call 7; ((with_reducible refine (IH.out _ (by omega) (by omega) (TP.out.kept (show Qw _ _ by repeat (first | exact Qw.refl _ | refine Qw.al ?_ _ | refine Qw.dr ?_ | refine Qw.dn ?_ _)))).mono ?_); rintro e w6 ⟨y, ka, kc, rfl, ok, dp, K, tp, q⟩; have KH : Hid (KidsB w6 (fun b => w.heap.size < b) ka kc y.ks) := Lib.hid (K.mono fun b hb => Nat.lt_of_lt_of_le R.out.lt hb); replace TP := Lib.hid tp; replace R : Hid (Bx w6 w.heap.size exZ 31) := Lib.hid (Bx.kept2 R.out (show Qw _ _ by repeat (first | exact Qw.refl _ | refine Qw.al ?_ _ | refine Qw.dr ?_ | refine Qw.dn ?_ _)) q (by omega)); have rl := R.out.lt; have s0 := R.out.free 0; have s1 := R.out.free 1; have s2 := R.out.free 2; have u0 := R.out.cell' 0 _ rfl; have u1 := R.out.cell' 1 _ rfl; have u2 := R.out.cell' 2 _ rfl; replace q0 : Hid (Px B w w6) := Lib.hid (Px.trans (Px.trans q0.out (Px.of (show Qw _ _ by repeat (first | exact Qw.refl _ | refine Qw.al ?_ _ | refine Qw.dr ?_ | refine Qw.dn ?_ _)))) q); clear tp q K)))
          have lB : B < w6.heap.size := TP.out.lt
          refine code_of (fun w2 => Hid (Bx w2 w.heap.size exZ 31) ∧ Hid (Bx w2 w6.heap.size #[.int .i64 y.op, .int .i64 y.n, .slice ka y.ks.length kc] 31) ∧ Hid (KidsB w2 (fun b => w.heap.size < b) ka kc y.ks) ∧ Hid (TpB w2 B v zs) ∧ Hid (Px B w w2)) ⟨Lib.hid (R.out.alloc _), Lib.hid (Bx.new _ _ _), Lib.hid (KH.out.alloc _), Lib.hid (TP.out.kept ((Below.refl _ _).alloc (Nat.le_refl _) _)), Lib.hid (q0.out.alloc _)⟩ ?_
          clear R TP q0 KH u0 u1 u2 s0 s1 s2 rl
          rintro w2 ⟨R, X, KH, TP, q0⟩
          have rl := R.out.lt
          have s0 := R.out.free 0
          have s1 := R.out.free 1
          have s2 := R.out.free 2
          have u0 := R.out.cell' 0 _ rfl
          have u1 := R.out.cell' 1 _ rfl
          have u2 := R.out.cell' 2 _ rfl
          have xl := X.out.lt
          have x0 := X.out.cell' 0 _ rfl
          have x1 := X.out.cell' 1 _ rfl
          have x2 := X.out.cell' 2 _ rfl
          have hwd : IntKind.i64.wrap (d : Int) = (d : Int) := IntWalk.i64_in _ (by omega)
          go_region_law (go_simp; go_wp2_with (go_at_call 7; ((with_reducible refine (IH.out _ (by omega) (by omega) (TP.out.kept (show Qw _ _ by repeat (first | exact Qw.refl _ | refine Qw.al ?_ _ | refine Qw.dr ?_ | refine Qw.dn ?_ _)))).mono ?_); rintro e w' ⟨z, kb, kd, rfl, ok2, dp2, K, tp, q⟩; have KH2 : Hid (KidsB w' (fun b => w.heap.size < b) kb kd z.ks) := Lib.hid (K.mono fun b hb => Nat.lt_of_lt_of_le R.out.lt hb); replace KH : Hid (KidsB w' (fun b => w.heap.size < b) ka kc y.ks) := Lib.hid ((KH.out.kept (show Qw _ _ by repeat (first | exact Qw.refl _ | refine Qw.al ?_ _ | refine Qw.dr ?_ | refine Qw.dn ?_ _))).px (fun b hb => by omega) q); replace TP := Lib.hid tp; replace R : Hid (Bx w' w.heap.size exZ 31) := Lib.hid (Bx.kept2 R.out (show Qw _ _ by repeat (first | exact Qw.refl _ | refine Qw.al ?_ _ | refine Qw.dr ?_ | refine Qw.dn ?_ _)) q (by omega)); have rl := R.out.lt; have s0 := R.out.free 0; have s1 := R.out.free 1; have s2 := R.out.free 2; have u0 := R.out.cell' 0 _ rfl; have u1 := R.out.cell' 1 _ rfl; have u2 := R.out.cell' 2 _ rfl; replace X := Lib.hid (Bx.kept2 X.out (show Qw _ _ by repeat (first | exact Qw.refl _ | refine Qw.al ?_ _ | refine Qw.dr ?_ | refine Qw.dn ?_ _)) q (by omega)); have xl := X.out.lt; have x0 := X.out.cell' 0 _ rfl; have x1 := X.out.cell' 1 _ rfl; have x2 := X.out.cell' 2 _ rfl; replace q0 : Hid (Px B w w') := Lib.hid (Px.trans (Px.trans q0.out (Px.of (show Qw _ _ by repeat (first | exact Qw.refl _ | refine Qw.al ?_ _ | refine Qw.dr ?_ | refine Qw.dn ?_ _)))) q); clear tp q K)))
          all_goals go_wp2_with fail
          all_goals exact exaEnd2 (d := d + 1) (x := Sy.bin o y z) Tryz.results7 rfl rfl rfl rfl rfl (Sy.okx_bin' (opsB_ok hm).1 (opsB_ok hm).2 ok ok2) (by rw [Sy.dpt_bin]; omega) hB _ R.out (KidsB.two (x := y) (y := z) (Bx.new _ _ _) R.out.lt (KH.out.alloc _) (KH2.out.alloc _)) TP.out q0.out
end Go.Proofs.YtciglhecjkeogaaGreatDoor

