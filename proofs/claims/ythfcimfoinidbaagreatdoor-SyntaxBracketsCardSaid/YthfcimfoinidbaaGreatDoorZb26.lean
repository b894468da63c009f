import Derived.Test.YthfcimfoinidbaaGreatDoorZb23
import Derived.Test.YthfcimfoinidbaaGreatDoorZb25
import Derived.Test.YthfcimfoinidbaaGreatDoorRows
import Derived.Shelf.Strings.Builder1
import Derived.Shelf.Strings.Builder2
import Derived.Shelf.Strings.OnBuilder
import Derived.Shelf.Small.Strs
import Derived.Shelf.Strings.BuilderF
import Derived.Shelf.Strings.BuilderK
import Derived.Shelf.Strconv.Itoa0
import Derived.Shelf.Strconv.Itoa1
import Derived.Shelf.LaysM
import Derived.Shelf.Strconv.Itoa2
import Derived.Shelf.Strconv.Itoa3
import Derived.Shelf.Strings.Search1
import Derived.Shelf.Strings.Search2
import Derived.Shelf.Strings.Search3
import Derived.Shelf.Strings.Count
import Derived.Shelf.Strings.Shaped
import Derived.Shelf.Strconv.AppendUint10
import Derived.Shelf.Strconv.AppendInt10
import Derived.Shelf.Strconv.AppendIntPublic10
import Derived.Shelf.Strings.Prefix
set_option linter.unusedVariables false
set_option linter.unusedSimpArgs false
namespace Go.Proofs.YthfcimfoinidbaaGreatDoor
namespace Sy
open Lx
def sz : Ex → Nat
  | .mk op n ks => 1 + (ks.attach.map (fun ⟨k, h⟩ => sz k)).sum
theorem sz_mk (op n : Int) (ks : List Ex) : sz (.mk op n ks) = 1 + (ks.map sz).sum := by
  rw [sz]; simp
theorem sz_num (n : Int) : sz (num n) = 1 := by rw [num, sz_mk]; rfl
theorem sz_un (o : Int) (x : Ex) : sz (un o x) = 1 + sz x := by rw [un, sz_mk]; simp
theorem sz_bin (o : Int) (x y : Ex) : sz (bin o x y) = 1 + sz x + sz y := by rw [bin, sz_mk]; simp; omega
def Lz (x : Ex) : Prop := (bpr x).length + 2 ≤ 20 * sz x ∧ (bcl x).length + 2 ≤ 20 * sz x
theorem blz (x : Ex) : okx x = true → Lz x := by
  induction x using Ex.ind with
  | h op n ks ih =>
    intro hok
    have hF := form hok
    cases hF with
    | num n h0 h1 =>
      have e1 : bpr (.mk 0 n []) = fmtp n := by simp [bpr, bpc]
      have e2 : bcl (.mk 0 n []) = fmtp n := by simp [bcl, bpc]
      have l := fmtp_16 h0 h1
      have d : sz (.mk 0 n []) = 1 := sz_num n
      unfold Lz; rw [e1, e2]; omega
    | un o x hx ho =>
      have ihx := ih x (by simp) hx
      have hT : ((o : Int)).toNat = o := by omega
      have d : sz (.mk (o : Int) 0 [x]) = 1 + sz x := sz_un _ x
      unfold Lz at ihx ⊢
      rw [d]
      by_cases o1 : o = 1
      · subst o1
        have e1 : bpr (.mk ((1 : Nat) : Int) 0 [x]) = 35 :: bce x := by
          simp only [bpr, bpc, bce, smp, binb, bcl]; simp [bpr]
        have e2 : bcl (.mk ((1 : Nat) : Int) 0 [x]) = 35 :: bce x := by
          simp only [bcl, bpc, bce, smp, binb]; simp [bpr]
        have l : (bce x).length ≤ max (bcl x).length ((bpr x).length + 2) := by
          unfold bce binb; split
          · omega
          · simp; omega
        rw [e1, e2, List.length_cons]; omega
      · by_cases o2 : o = 2
        · subst o2
          have e1 : bpr (.mk ((2 : Nat) : Int) 0 [x]) = 45 :: bcl x := by simp [bpr, bcl, bpc]
          have e2 : bcl (.mk ((2 : Nat) : Int) 0 [x]) = 91 :: (45 :: bcl x) ++ [93] := by simp [bcl, bpc]
          rw [e1, e2]; simp only [List.length_cons, List.length_append, List.length_nil]; omega
        · have e1 : bpr (.mk (o : Int) 0 [x]) = onm o ++ binb x := by
            unfold bpr; rw [bpc, if_neg (by omega), if_neg (by omega), hT]; simp [binb, bpr]
          have e2 : bcl (.mk (o : Int) 0 [x]) = onm o ++ binb x := by
            unfold bcl; rw [bpc, if_neg (by omega), if_neg (by omega), hT]; simp [binb, bpr]
          have lo := onm_len o (by omega)
          rw [e1, e2]; unfold binb; simp only [List.length_cons, List.length_append, List.length_nil]; omega
    | bin o x y hx hy ho =>
      have ihx := ih x (by simp) hx
      have ihy := ih y (by simp) hy
      have hT : ((o : Int)).toNat = o := by omega
      have lo := onm_len o (by omega)
      have d : sz (.mk (o : Int) 0 [x, y]) = 1 + sz x + sz y := sz_bin _ x y
      unfold Lz at ihx ihy ⊢
      rw [d]
      by_cases o11 : o = 11
      · subst o11
        have e1 : bpr (.mk ((11 : Nat) : Int) 0 [x, y]) = onm 11 ++ (binb x ++ ([47] ++ binb y)) := by
          unfold bpr; rw [bpc, if_pos (show ((11 : Nat) : Int) = 11 from rfl)]; simp [binb, bpr]
        have e2 : bcl (.mk ((11 : Nat) : Int) 0 [x, y]) = onm 11 ++ (binb x ++ ([47] ++ binb y)) := by
          unfold bcl; rw [bpc, if_pos (show ((11 : Nat) : Int) = 11 from rfl)]; simp [binb, bpr]
        have l4 : (onm 11).length = 4 := by decide
        rw [e1, e2]; unfold binb; simp only [List.length_cons, List.length_append, List.length_nil]; omega
      · have e1 : bpr (.mk (o : Int) 0 [x, y]) = bcl x ++ ((32 :: onm o ++ [32]) ++ bcl y) := by
          unfold bpr; rw [bpc, if_neg (by omega), hT]; simp [bcl]
        have e2 : bcl (.mk (o : Int) 0 [x, y]) = 91 :: (bcl x ++ ((32 :: onm o ++ [32]) ++ bcl y)) ++ [93] := by
          unfold bcl; rw [bpc, if_neg (by omega), hT]; simp [bcl]
        rw [e1, e2]; simp only [List.length_cons, List.length_append, List.length_nil]; omega
theorem joinb_len : ∀ ps : List (List UInt8), (joinb ps).length ≤ (ps.map (fun p => p.length + 1)).sum
  | [] => Nat.zero_le _
  | p :: ps => by
    have := joinb_len ps
    rw [joinb]
    split
    · simp only [List.map_cons, List.sum_cons]; omega
    · simp only [List.length_append, List.length_cons, List.length_nil, List.map_cons, List.sum_cons]; omega
theorem decs_len {n : Int} {m : Nat} (h : cnt n m = true) (hm : m ≤ 99999) : (decs n).length ≤ 5 := by
  simp [cnt] at h
  exact dec_len 4 n.toNat (by omega)
theorem bce_len {x : Ex} (h : okx x = true) : (bce x).length ≤ 20 * sz x := by
  have := blz x h
  unfold Lz at this
  unfold bce binb; split
  · omega
  · simp; omega
theorem bva_len {x : Ex} (h : okx x = true) : (bva x).length ≤ 20 * sz x := by
  have l := blz x h
  obtain ⟨op, n, ks⟩ := x
  unfold Lz at l
  have lb : (binb (.mk op n ks)).length = (bpr (.mk op n ks)).length + 2 := by unfold binb; simp
  unfold bva
  by_cases hs : smp (.mk op n ks) = true
  · rw [if_pos hs]; omega
  · rw [if_neg hs]
    split
    · rename_i o k' heq
      cases heq
      by_cases h2 : smp k' = true
      · rw [if_pos h2]
        have hk : okx k' = true := by rw [okx_mk] at h; simp at h; exact h.2
        have := blz k' hk
        unfold Lz at this
        rw [sz_mk]; simp; omega
      · rw [if_neg h2]; omega
    · omega
end Sy
end Go.Proofs.YthfcimfoinidbaaGreatDoor
set_option linter.unusedVariables false
set_option linter.unusedSimpArgs false
namespace Go.Proofs.YthfcimfoinidbaaGreatDoor
open Go.RowKit
theorem qw_grow {w : World} {k : Nat} {os : Array Obj} : Qw w (Go.Sort.grow (w.drewN k) os) := by
  have h : Below w.heap.size w (w.drewN k) := bel_drewN (Below.refl _ _) _
  exact h.trans ⟨rfl, rfl, rfl, by simp [Go.Sort.grow, World.drewN], fun j hj => by
    have : j < (w.drewN k).heap.size := hj
    simp only [Go.Sort.grow, Array.getElem?_append, this, if_true]⟩
theorem Sy.bva_len2 {x : Sy.Ex} (h : Sy.okx x = true) (d : Sy.dpt x ≤ 16) : (Sy.bva x).length ≤ 2000002 := by
  obtain ⟨l1, l2⟩ := Sy.blen_16 h d
  obtain ⟨op, n, ks⟩ := x
  have lb := binb_len (.mk op n ks)
  unfold Sy.bva
  split
  · omega
  · split
    · rename_i o k heq
      cases heq
      split
      · have hk : Sy.okx k = true := by rw [Sy.okx_mk] at h; simp at h; exact h.2
        have := Sy.blen_16 hk (dpt_kid1 d)
        rw [List.length_cons]; omega
      · omega
    · omega
theorem itW (n : Int) (h0 : 0 ≤ n) (h1 : n ≤ 99999) (w : World) (hT : Tb w) : Calls Tryz.prog 61 #[.int .i64 n] w fun e w' => e = .returned (.string (bs (Sy.decs n))) ∧ Qw w w' := by
  refine (Tryz.strconv_Itoa n (by omega) (by omega) w (hT w (Below.refl _ _))).mono ?_
  rintro e w' ⟨rfl, k, os, rfl⟩
  refine ⟨?_, qw_grow⟩
  have : Lib.itoa n = Sy.decs n := by
    unfold Lib.itoa Sy.decs
    rw [if_neg (by omega)]
  rw [this]; rfl
set_option maxRecDepth 100000 in
set_option maxHeartbeats 4000000 in
theorem sx_control1 {kind label n : Int} {skip : Bool} {wl wc ll lc xl xc : Nat} {wa la xa : Option Addr} {lop ln xop xn : Int} (w : World) (r s : List UInt8) (lr : r.length ≤ 1000000000000) (ls : s.length ≤ 1000000000000) (cr : ∀ w1, Qw w w1 → Calls Tryz.prog 96 #[.agg #[.int .i64 lop, .int .i64 ln, .slice la ll lc]] w1 fun e w' => e = .returned (.string (bs r)) ∧ Qw w1 w') (cs : ∀ w1, Qw w w1 → Calls Tryz.prog 72 #[.agg #[.int .i64 xop, .int .i64 xn, .slice xa xl xc]] w1 fun e w' => e = .returned (.string (bs s)) ∧ Qw w1 w') :
    Calls Tryz.prog 63 #[.agg #[.int .i64 1, .int .i64 label, .bool skip, .slice wa wl wc, .int .i64 lop, .int .i64 ln, .slice la ll lc, .int .i64 xop, .int .i64 xn, .slice xa xl xc, .int .i64 n]] w fun e w' => e = .returned (.string (bs (r ++ ([32] ++ ([61] ++ ([32] ++ s)))))) ∧ Qw w w' := by
  have eB : bs r ++ bs [32, 61, 32] ++ bs s = bs (r ++ ([32] ++ ([61] ++ ([32] ++ s)))) := by first | (simp only [bs_app, List.append_assoc]; done) | (simp only [bs_app, List.append_assoc]; rfl)
  have hz1 : ¬ 9223372036854775807 < (bs r).size + 3 := by simp only [bs_size]; omega
  have hz2 : ¬ 9223372036854775807 < (bs r).size + 3 + (bs s).size := by simp only [bs_size]; omega
  generalize r ++ ([32] ++ ([61] ++ ([32] ++ s))) = out at eB ⊢
  have EB := Lib.hid eB
  have Cr := Lib.hid cr
  have Cs := Lib.hid cs
  clear eB cr lr cs ls
  have q0 : Hid (Qw w w) := Lib.hid (Qw.refl w)
  go_enter Tryz.func63, Tryz.ntmps63
  go_upto_region 3 with fail
  refine code_of (fun w' => Qw w w' ∧ Bx w' w.heap.size #[.int .i64 1, .int .i64 label, .bool skip, .slice wa wl wc, .int .i64 lop, .int .i64 ln, .slice la ll lc, .int .i64 xop, .int .i64 xn, .slice xa xl xc, .int .i64 n] 36) ⟨(by repeat (first | exact q0.out | exact Qw.refl _ | refine Qw.al ?_ _ | refine Qw.dr ?_ | refine Qw.dn ?_ _ | refine Qw.sc ?_ (by first | (simp; done) | omega | (have := q0.out.size; first | omega | (simp; omega))) _)), by repeat (first | exact Bx.new _ _ _ | refine Bx.alloc ?_ _ | refine Bx.drew ?_)⟩ ?_
  rintro w1 ⟨q1, B⟩
  have x4 := B.kcell 4 _ rfl
  have x5 := B.kcell 5 _ rfl
  have x6 := B.kcell 6 _ rfl
  have x7 := B.kcell 7 _ rfl
  have x8 := B.kcell 8 _ rfl
  have x9 := B.kcell 9 _ rfl
  have x10 := B.kcell 10 _ rfl
  have Dr : Hid (∀ p : Kept w1, Calls Tryz.prog 96 #[.agg #[.int .i64 lop, .int .i64 ln, .slice la ll lc]] p.v fun e w' => e = .returned (.string (bs r)) ∧ Qw p.v w') := Lib.hid fun p => Cr.out _ (q1.trans p.h)
  have Ds : Hid (∀ p : Kept w1, Calls Tryz.prog 72 #[.agg #[.int .i64 xop, .int .i64 xn, .slice xa xl xc]] p.v fun e w' => e = .returned (.string (bs s)) ∧ Qw p.v w') := Lib.hid fun p => Cs.out _ (q1.trans p.h)
  clear Cr Cs q0
  refine region_kept (by kernel_rfl) (by kernel_rfl) ?_
  repeat (go_big_quiet_step (first | (go_at_call 96; with_reducible exact Kept.call (Dr.out _)) | (go_at_call 72; with_reducible exact Kept.call (Ds.out _))))
  refine wpQuiet_nil ?_
  intro w2 q
  go_wp2_with fail
  go_ret
  exact ⟨by rw [← EB.out]; rfl, q1.trans q⟩
set_option maxRecDepth 100000 in
set_option maxHeartbeats 4000000 in
theorem sx_control3 {kind label n : Int} {skip : Bool} {wl wc ll lc xl xc : Nat} {wa la xa : Option Addr} {lop ln xop xn : Int} (w : World) (r s : List UInt8) (lr : r.length ≤ 1000000000000) (ls : s.length ≤ 1000000000000) (cr : ∀ w1, Qw w w1 → Calls Tryz.prog 95 #[.agg #[.int .i64 xop, .int .i64 xn, .slice xa xl xc]] w1 fun e w' => e = .returned (.string (bs r)) ∧ Qw w1 w') (cs : ∀ w1, Qw w w1 → Calls Tryz.prog 62 #[.agg #[.int .i64 lop, .int .i64 ln, .slice la ll lc]] w1 fun e w' => e = .returned (.string (bs s)) ∧ Qw w1 w') :
    Calls Tryz.prog 63 #[.agg #[.int .i64 3, .int .i64 label, .bool skip, .slice wa wl wc, .int .i64 lop, .int .i64 ln, .slice la ll lc, .int .i64 xop, .int .i64 xn, .slice xa xl xc, .int .i64 n]] w fun e w' => e = .returned (.string (bs (Sy.cIF ++ ([32] ++ (r ++ ([32] ++ (Sy.cGOTO ++ ([32] ++ s)))))))) ∧ Qw w w' := by
  have eB : bs [73, 70, 32] ++ bs r ++ bs [32, 71, 79, 84, 79, 32] ++ bs s = bs (Sy.cIF ++ ([32] ++ (r ++ ([32] ++ (Sy.cGOTO ++ ([32] ++ s)))))) := by first | (simp only [bs_app, List.append_assoc]; done) | (simp only [bs_app, List.append_assoc]; rfl)
  have hz1 : ¬ 9223372036854775807 < 3 + (bs r).size := by simp only [bs_size]; omega
  have hz2 : ¬ 9223372036854775807 < 3 + (bs r).size + 6 := by simp only [bs_size]; omega
  have hz3 : ¬ 9223372036854775807 < 3 + (bs r).size + 6 + (bs s).size := by simp only [bs_size]; omega
  generalize Sy.cIF ++ ([32] ++ (r ++ ([32] ++ (Sy.cGOTO ++ ([32] ++ s))))) = out at eB ⊢
  have EB := Lib.hid eB
  have Cr := Lib.hid cr
  have Cs := Lib.hid cs
  clear eB cr lr cs ls
  have q0 : Hid (Qw w w) := Lib.hid (Qw.refl w)
  go_enter Tryz.func63, Tryz.ntmps63
  go_upto_region 5 with fail
  refine code_of (fun w' => Qw w w' ∧ Bx w' w.heap.size #[.int .i64 3, .int .i64 label, .bool skip, .slice wa wl wc, .int .i64 lop, .int .i64 ln, .slice la ll lc, .int .i64 xop, .int .i64 xn, .slice xa xl xc, .int .i64 n] 36) ⟨(by repeat (first | exact q0.out | exact Qw.refl _ | refine Qw.al ?_ _ | refine Qw.dr ?_ | refine Qw.dn ?_ _ | refine Qw.sc ?_ (by first | (simp; done) | omega | (have := q0.out.size; first | omega | (simp; omega))) _)), by repeat (first | exact Bx.new _ _ _ | refine Bx.alloc ?_ _ | refine Bx.drew ?_)⟩ ?_
  rintro w1 ⟨q1, B⟩
  have x4 := B.kcell 4 _ rfl
  have x5 := B.kcell 5 _ rfl
  have x6 := B.kcell 6 _ rfl
  have x7 := B.kcell 7 _ rfl
  have x8 := B.kcell 8 _ rfl
  have x9 := B.kcell 9 _ rfl
  have x10 := B.kcell 10 _ rfl
  have Dr : Hid (∀ p : Kept w1, Calls Tryz.prog 95 #[.agg #[.int .i64 xop, .int .i64 xn, .slice xa xl xc]] p.v fun e w' => e = .returned (.string (bs r)) ∧ Qw p.v w') := Lib.hid fun p => Cr.out _ (q1.trans p.h)
  have Ds : Hid (∀ p : Kept w1, Calls Tryz.prog 62 #[.agg #[.int .i64 lop, .int .i64 ln, .slice la ll lc]] p.v fun e w' => e = .returned (.string (bs s)) ∧ Qw p.v w') := Lib.hid fun p => Cs.out _ (q1.trans p.h)
  clear Cr Cs q0
  refine region_kept (by kernel_rfl) (by kernel_rfl) ?_
  repeat (go_big_quiet_step (first | (go_at_call 95; with_reducible exact Kept.call (Dr.out _)) | (go_at_call 62; with_reducible exact Kept.call (Ds.out _))))
  refine wpQuiet_nil ?_
  intro w2 q
  go_wp2_with fail
  go_ret
  exact ⟨by rw [← EB.out]; rfl, q1.trans q⟩
set_option maxRecDepth 100000 in
set_option maxHeartbeats 4000000 in
theorem sx_control2 {kind label n : Int} {skip : Bool} {wl wc ll lc xl xc : Nat} {wa la xa : Option Addr} {lop ln xop xn : Int} (w : World) (r : List UInt8) (lr : r.length ≤ 1000000000000) (cr : ∀ w1, Qw w w1 → Calls Tryz.prog 62 #[.agg #[.int .i64 xop, .int .i64 xn, .slice xa xl xc]] w1 fun e w' => e = .returned (.string (bs r)) ∧ Qw w1 w') :
    Calls Tryz.prog 63 #[.agg #[.int .i64 2, .int .i64 label, .bool skip, .slice wa wl wc, .int .i64 lop, .int .i64 ln, .slice la ll lc, .int .i64 xop, .int .i64 xn, .slice xa xl xc, .int .i64 n]] w fun e w' => e = .returned (.string (bs (Sy.cGOTO ++ ([32] ++ r)))) ∧ Qw w w' := by
  have eB : bs [71, 79, 84, 79, 32] ++ bs r = bs (Sy.cGOTO ++ ([32] ++ r)) := by first | (simp only [bs_app, List.append_assoc]; done) | (simp only [bs_app, List.append_assoc]; rfl)
  have hz1 : ¬ 9223372036854775807 < 5 + (bs r).size := by simp only [bs_size]; omega
  generalize Sy.cGOTO ++ ([32] ++ r) = out at eB ⊢
  have EB := Lib.hid eB
  have Cr := Lib.hid cr
  clear eB cr lr
  have q0 : Hid (Qw w w) := Lib.hid (Qw.refl w)
  go_enter Tryz.func63, Tryz.ntmps63
  go_wp2_with (go_at_call 62; ((with_reducible refine (Cr.out _ (by repeat (first | exact q0.out | exact Qw.refl _ | refine Qw.al ?_ _ | refine Qw.dr ?_ | refine Qw.dn ?_ _ | refine Qw.sc ?_ (by first | (simp; done) | omega | (have := q0.out.size; first | omega | (simp; omega))) _))).mono ?_); rintro e w' ⟨rfl, q⟩; replace q0 : Hid (Qw w w') := Lib.hid (Qw.trans (by repeat (first | exact q0.out | exact Qw.refl _ | refine Qw.al ?_ _ | refine Qw.dr ?_ | refine Qw.dn ?_ _ | refine Qw.sc ?_ (by first | (simp; done) | omega | (have := q0.out.size; first | omega | (simp; omega))) _)) q); clear q))
  go_ret
  exact ⟨by rw [← EB.out]; rfl, q0.out⟩
set_option maxRecDepth 100000 in
set_option maxHeartbeats 4000000 in
theorem sx_control4 {kind label n : Int} {skip : Bool} {wl wc ll lc xl xc : Nat} {wa la xa : Option Addr} {lop ln xop xn : Int} (w : World) (r s : List UInt8) (lr : r.length ≤ 1000000000000) (ls : s.length ≤ 1000000000000) (cr : ∀ w1, Qw w w1 → Calls Tryz.prog 95 #[.agg #[.int .i64 xop, .int .i64 xn, .slice xa xl xc]] w1 fun e w' => e = .returned (.string (bs r)) ∧ Qw w1 w') (cs : ∀ w1, Qw w w1 → Calls Tryz.prog 61 #[.int .i64 n] w1 fun e w' => e = .returned (.string (bs s)) ∧ Qw w1 w') :
    Calls Tryz.prog 63 #[.agg #[.int .i64 4, .int .i64 label, .bool skip, .slice wa wl wc, .int .i64 lop, .int .i64 ln, .slice la ll lc, .int .i64 xop, .int .i64 xn, .slice xa xl xc, .int .i64 n]] w fun e w' => e = .returned (.string (bs (Sy.cWHILE ++ ([32] ++ (r ++ ([32] ++ (Sy.cDO ++ ([32] ++ s)))))))) ∧ Qw w w' := by
  have eB : bs [87, 72, 73, 76, 69, 32] ++ bs r ++ bs [32, 68, 79, 32] ++ bs s = bs (Sy.cWHILE ++ ([32] ++ (r ++ ([32] ++ (Sy.cDO ++ ([32] ++ s)))))) := by first | (simp only [bs_app, List.append_assoc]; done) | (simp only [bs_app, List.append_assoc]; rfl)
  have hz1 : ¬ 9223372036854775807 < 6 + (bs r).size := by simp only [bs_size]; omega
  have hz2 : ¬ 9223372036854775807 < 6 + (bs r).size + 4 := by simp only [bs_size]; omega
  have hz3 : ¬ 9223372036854775807 < 6 + (bs r).size + 4 + (bs s).size := by simp only [bs_size]; omega
  generalize Sy.cWHILE ++ ([32] ++ (r ++ ([32] ++ (Sy.cDO ++ ([32] ++ s))))) = out at eB ⊢
  have EB := Lib.hid eB
  have Cr := Lib.hid cr
  have Cs := Lib.hid cs
  clear eB cr lr cs ls
  have q0 : Hid (Qw w w) := Lib.hid (Qw.refl w)
  go_enter Tryz.func63, Tryz.ntmps63
  go_upto_region 9 with fail
  refine code_of (fun w' => Qw w w' ∧ Bx w' w.heap.size #[.int .i64 4, .int .i64 label, .bool skip, .slice wa wl wc, .int .i64 lop, .int .i64 ln, .slice la ll lc, .int .i64 xop, .int .i64 xn, .slice xa xl xc, .int .i64 n] 36) ⟨(by repeat (first | exact q0.out | exact Qw.refl _ | refine Qw.al ?_ _ | refine Qw.dr ?_ | refine Qw.dn ?_ _ | refine Qw.sc ?_ (by first | (simp; done) | omega | (have := q0.out.size; first | omega | (simp; omega))) _)), by repeat (first | exact Bx.new _ _ _ | refine Bx.alloc ?_ _ | refine Bx.drew ?_)⟩ ?_
  rintro w1 ⟨q1, B⟩
  have x4 := B.kcell 4 _ rfl
  have x5 := B.kcell 5 _ rfl
  have x6 := B.kcell 6 _ rfl
  have x7 := B.kcell 7 _ rfl
  have x8 := B.kcell 8 _ rfl
  have x9 := B.kcell 9 _ rfl
  have x10 := B.kcell 10 _ rfl
  have Dr : Hid (∀ p : Kept w1, Calls Tryz.prog 95 #[.agg #[.int .i64 xop, .int .i64 xn, .slice xa xl xc]] p.v fun e w' => e = .returned (.string (bs r)) ∧ Qw p.v w') := Lib.hid fun p => Cr.out _ (q1.trans p.h)
  have Ds : Hid (∀ p : Kept w1, Calls Tryz.prog 61 #[.int .i64 n] p.v fun e w' => e = .returned (.string (bs s)) ∧ Qw p.v w') := Lib.hid fun p => Cs.out _ (q1.trans p.h)
  clear Cr Cs q0
  refine region_kept (by kernel_rfl) (by kernel_rfl) ?_
  repeat (go_big_quiet_step (first | (go_at_call 95; with_reducible exact Kept.call (Dr.out _)) | (go_at_call 61; with_reducible exact Kept.call (Ds.out _))))
  refine wpQuiet_nil ?_
  intro w2 q
  go_wp2_with fail
  go_ret
  exact ⟨by rw [← EB.out]; rfl, q1.trans q⟩
set_option maxRecDepth 100000 in
set_option maxHeartbeats 4000000 in
theorem sx_control5 {kind label n : Int} {skip : Bool} {wl wc ll lc xl xc : Nat} {wa la xa : Option Addr} {lop ln xop xn : Int} (w : World) (r : List UInt8) (lr : r.length ≤ 1000000000000) (cr : ∀ w1, Qw w w1 → Calls Tryz.prog 61 #[.int .i64 n] w1 fun e w' => e = .returned (.string (bs r)) ∧ Qw w1 w') :
    Calls Tryz.prog 63 #[.agg #[.int .i64 5, .int .i64 label, .bool skip, .slice wa wl wc, .int .i64 lop, .int .i64 ln, .slice la ll lc, .int .i64 xop, .int .i64 xn, .slice xa xl xc, .int .i64 n]] w fun e w' => e = .returned (.string (bs (Sy.cEND ++ ([32] ++ r)))) ∧ Qw w w' := by
  have eB : bs [69, 78, 68, 32] ++ bs r = bs (Sy.cEND ++ ([32] ++ r)) := by first | (simp only [bs_app, List.append_assoc]; done) | (simp only [bs_app, List.append_assoc]; rfl)
  have hz1 : ¬ 9223372036854775807 < 4 + (bs r).size := by simp only [bs_size]; omega
  generalize Sy.cEND ++ ([32] ++ r) = out at eB ⊢
  have EB := Lib.hid eB
  have Cr := Lib.hid cr
  clear eB cr lr
  have q0 : Hid (Qw w w) := Lib.hid (Qw.refl w)
  go_enter Tryz.func63, Tryz.ntmps63
  go_wp2_with (go_at_call 61; ((with_reducible refine (Cr.out _ (by repeat (first | exact q0.out | exact Qw.refl _ | refine Qw.al ?_ _ | refine Qw.dr ?_ | refine Qw.dn ?_ _ | refine Qw.sc ?_ (by first | (simp; done) | omega | (have := q0.out.size; first | omega | (simp; omega))) _))).mono ?_); rintro e w' ⟨rfl, q⟩; replace q0 : Hid (Qw w w') := Lib.hid (Qw.trans (by repeat (first | exact q0.out | exact Qw.refl _ | refine Qw.al ?_ _ | refine Qw.dr ?_ | refine Qw.dn ?_ _ | refine Qw.sc ?_ (by first | (simp; done) | omega | (have := q0.out.size; first | omega | (simp; omega))) _)) q); clear q))
  go_ret
  exact ⟨by rw [← EB.out]; rfl, q0.out⟩
set_option maxRecDepth 100000 in
set_option maxHeartbeats 4000000 in
theorem sx_control6 {kind label n : Int} {skip : Bool} {wl wc ll lc xl xc : Nat} {wa la xa : Option Addr} {lop ln xop xn : Int} (w : World) (r : List UInt8) (k1 : (kind == 1) = false) (k2 : (kind == 2) = false) (k3 : (kind == 3) = false) (k4 : (kind == 4) = false) (k5 : (kind == 5) = false) (lr : r.length ≤ 1000000000000) (cr : ∀ w1, Qw w w1 → Calls Tryz.prog 61 #[.int .i64 n] w1 fun e w' => e = .returned (.string (bs r)) ∧ Qw w1 w') :
    Calls Tryz.prog 63 #[.agg #[.int .i64 kind, .int .i64 label, .bool skip, .slice wa wl wc, .int .i64 lop, .int .i64 ln, .slice la ll lc, .int .i64 xop, .int .i64 xn, .slice xa xl xc, .int .i64 n]] w fun e w' => e = .returned (.string (bs (79 :: r))) ∧ Qw w w' := by
  have eB : bs [79] ++ bs r = bs (79 :: r) := by first | (simp only [bs_app, List.append_assoc]; done) | (simp only [bs_app, List.append_assoc]; rfl)
  have hz1 : ¬ 9223372036854775807 < 1 + (bs r).size := by simp only [bs_size]; omega
  generalize 79 :: r = out at eB ⊢
  have EB := Lib.hid eB
  have Cr := Lib.hid cr
  clear eB cr lr
  have q0 : Hid (Qw w w) := Lib.hid (Qw.refl w)
  go_enter Tryz.func63, Tryz.ntmps63
  go_wp2_with (go_at_call 61; ((with_reducible refine (Cr.out _ (by repeat (first | exact q0.out | exact Qw.refl _ | refine Qw.al ?_ _ | refine Qw.dr ?_ | refine Qw.dn ?_ _ | refine Qw.sc ?_ (by first | (simp; done) | omega | (have := q0.out.size; first | omega | (simp; omega))) _))).mono ?_); rintro e w' ⟨rfl, q⟩; replace q0 : Hid (Qw w w') := Lib.hid (Qw.trans (by repeat (first | exact q0.out | exact Qw.refl _ | refine Qw.al ?_ _ | refine Qw.dr ?_ | refine Qw.dn ?_ _ | refine Qw.sc ?_ (by first | (simp; done) | omega | (have := q0.out.size; first | omega | (simp; omega))) _)) q); clear q))
  go_ret
  exact ⟨by rw [← EB.out]; rfl, q0.out⟩
theorem sx_control (b : Sy.Bl) (h : Sy.vldb b = true) (h0 : b.kind ≠ 0) (cs : Array Value) (S : Nat → Prop) (w : World) (hO : Ow w) (hT : Tb w) (hB : BlkB w S b cs) : Calls Tryz.prog 63 #[.agg cs] w fun e w' => e = .returned (.string (bs (Sy.ctl b))) ∧ Qw w w' := by
  obtain ⟨kind, label, skip, words, left, x, n⟩ := b
  obtain ⟨wa, wc, la, lc, xa, xc, rfl, hW, hL, hX⟩ := hB
  obtain ⟨lop, ln, lks⟩ := left
  obtain ⟨xop, xn, xks⟩ := x
  simp only [Sy.vldb, Sy.okb, Sy.limb, Bool.and_eq_true] at h
  obtain ⟨⟨_, h⟩, ⟨⟨_, hl⟩, hx⟩⟩ := h
  rw [if_neg h0] at h
  simp only [Bool.and_eq_true] at h
  replace h := h.2
  have hl : Sy.dpt (.mk lop ln lks) ≤ 16 := of_decide_eq_true hl
  have hx : Sy.dpt (.mk xop xn xks) ≤ 16 := of_decide_eq_true hx
  have dl : ∀ n : Int, Sy.cnt n 99999 = true → (Sy.decs n).length ≤ 5 := fun n h => Sy.decs_len h (by decide)
  have c3 : ∀ n : Int, Sy.cnt n 3 = true → Sy.cnt n 99999 = true := fun n h => by simp [Sy.cnt] at h ⊢; omega
  have cb : ∀ n : Int, Sy.cnt n 99999 = true → 0 ≤ n ∧ n ≤ 99999 := fun n h => by simp [Sy.cnt] at h; omega
  show Calls Tryz.prog 63 #[.agg #[.int .i64 kind, .int .i64 label, .bool skip, .slice wa words.length wc, .int .i64 lop, .int .i64 ln, .slice la lks.length lc, .int .i64 xop, .int .i64 xn, .slice xa xks.length xc, .int .i64 n]] w _
  have hL' : KidsB w S la lc lks := hL
  have hX' : KidsB w S xa xc xks := hX
  simp only at h0 h
  by_cases k1 : kind = 1
  · subst k1
    simp [Sy.ctl] at h ⊢
    have A := sx_all _ h.1.1 hl
    have B := sx_all _ h.1.2 hx
    have l1 := Sy.blen_16 h.1.1 hl
    have l2 := Sy.blen_16 h.1.2 hx
    have b1 := binb_len (.mk lop ln lks)
    exact sx_control1 (kind := 0) w (35 :: Sy.bce (.mk lop ln lks)) (Sy.bpr (.mk xop xn xks)) (by unfold Sy.bce; split <;> simp <;> omega) (by omega) (fun w1 q => A.v la lc S w1 (hO.kept q) (hT.kept q) (hL'.kept q)) (fun w1 q => B.p xa xc S w1 (hO.kept q) (hT.kept q) (hX'.kept q))
  · have k1' : (kind == 1) = false := beq_eq_false_iff_ne.2 k1
    by_cases k2 : kind = 2
    · subst k2
      simp [Sy.ctl] at h ⊢
      have l2 := Sy.bva_len2 h.1.2 hx
      exact sx_control2 (kind := 0) w (Sy.bva (.mk xop xn xks)) (by omega) (fun w1 q => sx_valued _ h.1.2 hx xa xc S w1 (hO.kept q) (hT.kept q) (hX'.kept q))
    · have k2' : (kind == 2) = false := beq_eq_false_iff_ne.2 k2
      by_cases k3 : kind = 3
      · subst k3
        simp [Sy.ctl] at h ⊢
        have B := sx_all _ h.1.2 hx
        have l2 := Sy.blen_16 h.1.2 hx
        have b2 := binb_len (.mk xop xn xks)
        have l1 := Sy.bva_len2 h.1.1 hl
        exact sx_control3 (kind := 0) w (Sy.binb (.mk xop xn xks)) (Sy.bva (.mk lop ln lks)) (by omega) (by omega) (fun w1 q => B.b xa xc S w1 (hO.kept q) (hT.kept q) (hX'.kept q)) (fun w1 q => sx_valued _ h.1.1 hl la lc S w1 (hO.kept q) (hT.kept q) (hL'.kept q))
      · by_cases k4 : kind = 4
        · subst k4
          simp [Sy.ctl] at h ⊢
          have B := sx_all _ h.1.2 hx
          have l2 := Sy.blen_16 h.1.2 hx
          have b2 := binb_len (.mk xop xn xks)
          have hn := c3 _ h.2
          have dn := dl _ hn
          obtain ⟨n0, n1⟩ := cb _ hn
          exact sx_control4 (kind := 0) w (Sy.binb (.mk xop xn xks)) (Sy.decs n) (by omega) (by omega) (fun w1 q => B.b xa xc S w1 (hO.kept q) (hT.kept q) (hX'.kept q)) (fun w1 q => itW n n0 n1 w1 (hT.kept q))
        · by_cases k5 : kind = 5
          · subst k5
            simp [Sy.ctl] at h ⊢
            have hn := c3 _ h.2
            have dn := dl _ hn
            obtain ⟨n0, n1⟩ := cb _ hn
            exact sx_control5 (kind := 0) w (Sy.decs n) (by omega) (fun w1 q => itW n n0 n1 w1 (hT.kept q))
          · have k3' : (kind == 3) = false := beq_eq_false_iff_ne.2 k3
            have k4' : (kind == 4) = false := beq_eq_false_iff_ne.2 k4
            have k5' : (kind == 5) = false := beq_eq_false_iff_ne.2 k5
            by_cases k6 : kind = 6
            · simp [k1, k2, k3, k4, k5, k6] at h
              have hn := h.2
              have dn := dl _ hn
              obtain ⟨n0, n1⟩ := cb _ hn
              have e : Sy.ctl ⟨kind, label, skip, words, .mk lop ln lks, .mk xop xn xks, n⟩ = 79 :: Sy.decs n := by simp [Sy.ctl, k1, k2, k3, k4, k5]
              rw [e]
              exact sx_control6 w (Sy.decs n) k1' k2' k3' k4' k5' (by omega) (fun w1 q => itW n n0 n1 w1 (hT.kept q))
            · simp [k1, k2, k3, k4, k5, k6] at h
end Go.Proofs.YthfcimfoinidbaaGreatDoor
set_option linter.unusedVariables false
set_option linter.unusedSimpArgs false
namespace Go.Proofs
open Go.Shelf
def Tryz.lays156_ren : Go.Shelf.Ren := ⟨fun | 156 => 64 | 165 => 97 | 166 => 66 | 169 => 68 | 240 => 99 | 241 => 127 | 276 => 128 | 277 => 157 | n => n, fun | 31 => 59 | 9 => 9 | 3 => 3 | 4 => 4 | 0 => 0 | 20 => 20 | 72 => 84 | 76 => 87 | 70 => 82 | 37 => 39 | 75 => 86 | 127 => 114 | 164 => 132 | 5 => 5 | 80 => 90 | n => n, fun | n => n⟩
theorem Tryz.Builder_Extra_156 : Builder.Extra Tryz.prog Tryz.lays156_ren := {
  sizeBuilder := by kernel_rfl
  liesBuilder := by kernel_rfl
  t5 := Tryz.underlying5
  a5 := Tryz.isAgg5
  z5 := Tryz.sizeOf5
  v5 := Tryz.zeroValue5
  infoByte := by kernel_rfl
  cellsByte := by kernel_rfl
  sizeByte := by kernel_rfl
  neB5 := by decide }
theorem Tryz.lays156 : Go.Proofs.Lays.n156 Tryz.prog Tryz.lays156_ren := {
  mixed := by kernel_rfl
  f156 := Tryz.func64.trans (congrArg some (by kernel_rfl))
  f165 := Tryz.func97.trans (congrArg some (by kernel_rfl))
  f166 := Tryz.func66.trans (congrArg some (by kernel_rfl))
  f169 := Tryz.func68.trans (congrArg some (by kernel_rfl))
  f240 := Tryz.func99.trans (congrArg some (by kernel_rfl))
  f241 := Tryz.func127.trans (congrArg some (by kernel_rfl))
  f276 := Tryz.func128.trans (congrArg some (by kernel_rfl))
  f277 := Tryz.func157.trans (congrArg some (by kernel_rfl))
  t0 := Tryz.underlying0
  a0 := Tryz.isAgg0
  z0 := Tryz.sizeOf0
  v0 := Tryz.zeroValue0
  t3 := Tryz.underlying3
  a3 := Tryz.isAgg3
  z3 := Tryz.sizeOf3
  v3 := Tryz.zeroValue3
  t4 := Tryz.underlying4
  a4 := Tryz.isAgg4
  z4 := Tryz.sizeOf4
  v4 := Tryz.zeroValue4
  t9 := Tryz.underlying9
  a9 := Tryz.isAgg9
  z9 := Tryz.sizeOf9
  v9 := Tryz.zeroValue9
  t20 := Tryz.underlying20
  a20 := Tryz.isAgg20
  z20 := Tryz.sizeOf20
  v20 := Tryz.zeroValue20
  t31 := Tryz.underlying59
  a31 := Tryz.isAgg59
  z31 := Tryz.sizeOf59
  v31 := Tryz.zeroValue59
  t37 := Tryz.underlying39
  a37 := Tryz.isAgg39
  z37 := Tryz.sizeOf39
  v37 := Tryz.zeroValue39
  t70 := Tryz.underlying82
  a70 := Tryz.isAgg82
  z70 := Tryz.sizeOf82
  v70 := Tryz.zeroValue82
  t72 := Tryz.underlying84
  a72 := Tryz.isAgg84
  z72 := Tryz.sizeOf84
  v72 := Tryz.zeroValue84
  t75 := Tryz.underlying86
  a75 := Tryz.isAgg86
  z75 := Tryz.sizeOf86
  v75 := Tryz.zeroValue86
  t76 := Tryz.underlying87
  a76 := Tryz.isAgg87
  z76 := Tryz.sizeOf87
  v76 := Tryz.zeroValue87
  t127 := Tryz.underlying114
  a127 := Tryz.isAgg114
  z127 := Tryz.sizeOf114
  v127 := Tryz.zeroValue114
  t164 := Tryz.underlying132
  a164 := Tryz.isAgg132
  z164 := Tryz.sizeOf132
  v164 := Tryz.zeroValue132 }
open Go.RowKit in
theorem Tryz.strings_Join (bk o c : Nat) (xs : List ByteArray) (sep : ByteArray) (w : World) (hcells : ∀ (j : Nat) x, xs[j]? = some x → w.cell? ⟨bk, o + j, none⟩ = some (.string x)) (hbk : bk < w.heap.size) (hN : xs.length ≤ 140737488355328) (hcap : xs.length ≤ c) (hlen : (Lib.join (xs.map (·.data.toList)) sep.data.toList).length ≤ 140737488355328) :
    Calls Tryz.prog 64 #[.slice (some ⟨bk, o, none⟩) xs.length c, .string sep] w fun e w' => e = .returned (.string ⟨(Lib.join (xs.map (·.data.toList)) sep.data.toList).toArray⟩) ∧ Below w.heap.size w w' := Any.strings_Join Tryz.lays156 Tryz.Builder_Extra_156 bk o c xs sep w hcells hbk hN hcap hlen
end Go.Proofs

