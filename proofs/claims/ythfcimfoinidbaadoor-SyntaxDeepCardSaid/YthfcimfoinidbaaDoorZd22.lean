import Derived.Test.YthfcimfoinidbaaDoorZd20
import Derived.Test.YthfcimfoinidbaaDoorZd21
import Derived.Test.YthfcimfoinidbaaDoorRows
import Derived.Shelf.Strings.Builder1
import Derived.Shelf.Strings.Builder2
import Derived.Shelf.Small.Strs
import Derived.Shelf.Strconv.Itoa0
import Derived.Shelf.Strconv.Itoa1
import Derived.Shelf.LaysM
import Derived.Shelf.Strconv.Itoa2
import Derived.Shelf.Strconv.Itoa3
import Derived.Shelf.Strings.Search1
import Derived.Shelf.Strings.Search2
import Derived.Shelf.Strings.Search3
import Derived.Shelf.Strings.Count
import Derived.Shelf.Strings.Shaped
import Derived.Shelf.Strconv.AppendUint10
import Derived.Shelf.Strconv.AppendInt10
import Derived.Shelf.Strconv.AppendIntPublic10
import Derived.Shelf.Strings.OnBuilder
import Derived.Shelf.Strings.BuilderF
import Derived.Shelf.Strings.BuilderK
import Derived.Shelf.Strings.Prefix
set_option linter.unusedVariables false
set_option linter.unusedSimpArgs false
namespace Go.Proofs
open Go.Shelf
def Tryd.laysM171_ren : Go.Shelf.Ren := ⟨fun | 171 => 20 | 243 => 36 | 246 => 60 | 283 => 74 | 284 => 75 | 285 => 76 | 286 => 77 | 129 => 89 | 317 => 88 | 318 => 90 | 319 => 91 | 320 => 92 | 337 => 96 | 338 => 97 | n => n, fun | 3 => 3 | 9 => 9 | 2 => 2 | 4 => 4 | 171 => 102 | 0 => 0 | 53 => 103 | 37 => 77 | 5 => 5 | 173 => 106 | 212 => 118 | 51 => 119 | 20 => 20 | 213 => 120 | 46 => 121 | 232 => 126 | 233 => 127 | n => n, fun | 17 => 3 | 18 => 4 | 19 => 5 | n => n⟩
theorem Tryd.laysM171 : Go.Proofs.LaysM.n171 Tryd.prog Tryd.laysM171_ren := {
  mixed := by kernel_rfl
  f129 := Tryd.func89.trans (congrArg some (by kernel_rfl))
  f171 := Tryd.func20.trans (congrArg some (by kernel_rfl))
  f243 := Tryd.func36.trans (congrArg some (by kernel_rfl))
  f246 := Tryd.func60.trans (congrArg some (by kernel_rfl))
  f283 := Tryd.func74.trans (congrArg some (by kernel_rfl))
  f284 := Tryd.func75.trans (congrArg some (by kernel_rfl))
  f285 := Tryd.func76.trans (congrArg some (by kernel_rfl))
  f286 := Tryd.func77.trans (congrArg some (by kernel_rfl))
  f317 := Tryd.func88.trans (congrArg some (by kernel_rfl))
  f318 := Tryd.func90.trans (congrArg some (by kernel_rfl))
  f319 := Tryd.func91.trans (congrArg some (by kernel_rfl))
  f320 := Tryd.func92.trans (congrArg some (by kernel_rfl))
  f337 := Tryd.func96.trans (congrArg some (by kernel_rfl))
  f338 := Tryd.func97.trans (congrArg some (by kernel_rfl))
  t0 := Tryd.underlying0
  a0 := Tryd.isAgg0
  z0 := Tryd.sizeOf0
  v0 := Tryd.zeroValue0
  t2 := Tryd.underlying2
  a2 := Tryd.isAgg2
  z2 := Tryd.sizeOf2
  v2 := Tryd.zeroValue2
  t3 := Tryd.underlying3
  a3 := Tryd.isAgg3
  z3 := Tryd.sizeOf3
  v3 := Tryd.zeroValue3
  t4 := Tryd.underlying4
  a4 := Tryd.isAgg4
  z4 := Tryd.sizeOf4
  v4 := Tryd.zeroValue4
  t5 := Tryd.underlying5
  a5 := Tryd.isAgg5
  z5 := Tryd.sizeOf5
  v5 := Tryd.zeroValue5
  t9 := Tryd.underlying9
  a9 := Tryd.isAgg9
  z9 := Tryd.sizeOf9
  v9 := Tryd.zeroValue9
  t20 := Tryd.underlying20
  a20 := Tryd.isAgg20
  z20 := Tryd.sizeOf20
  v20 := Tryd.zeroValue20
  t37 := Tryd.underlying77
  a37 := Tryd.isAgg77
  z37 := Tryd.sizeOf77
  v37 := Tryd.zeroValue77
  t46 := Tryd.underlying121
  a46 := Tryd.isAgg121
  z46 := Tryd.sizeOf121
  v46 := Tryd.zeroValue121
  t51 := Tryd.underlying119
  a51 := Tryd.isAgg119
  z51 := Tryd.sizeOf119
  v51 := Tryd.zeroValue119
  t53 := Tryd.underlying103
  a53 := Tryd.isAgg103
  z53 := Tryd.sizeOf103
  v53 := Tryd.zeroValue103
  t171 := Tryd.underlying102
  a171 := Tryd.isAgg102
  z171 := Tryd.sizeOf102
  v171 := Tryd.zeroValue102
  t173 := Tryd.underlying106
  a173 := Tryd.isAgg106
  z173 := Tryd.sizeOf106
  v173 := Tryd.zeroValue106
  t212 := Tryd.underlying118
  a212 := Tryd.isAgg118
  z212 := Tryd.sizeOf118
  v212 := Tryd.zeroValue118
  t213 := Tryd.underlying120
  a213 := Tryd.isAgg120
  z213 := Tryd.sizeOf120
  t232 := Tryd.underlying126
  a232 := Tryd.isAgg126
  z232 := Tryd.sizeOf126
  v232 := Tryd.zeroValue126
  t233 := Tryd.underlying127
  a233 := Tryd.isAgg127
  z233 := Tryd.sizeOf127
  v233 := Tryd.zeroValue127
  g17 := by kernel_rfl
  g18 := by kernel_rfl
  g19 := by kernel_rfl
  i0 := by kernel_rfl
  i2 := by kernel_rfl
  i3 := by kernel_rfl
  i4 := by kernel_rfl
  i5 := by kernel_rfl
  i9 := by kernel_rfl
  i20 := by kernel_rfl
  i37 := by kernel_rfl
  i46 := by kernel_rfl
  i51 := by kernel_rfl
  i53 := by kernel_rfl
  i171 := by kernel_rfl
  i173 := by kernel_rfl
  i212 := by kernel_rfl
  i232 := by kernel_rfl
  i233 := by kernel_rfl
  m17 := by kernel_rfl
  m18 := by kernel_rfl
  m19 := by kernel_rfl }
open Go.RowKit Go.Sort Go.Lib in
theorem Tryd.strconv_Itoa (n : Int) (h0 : -9223372036854775808 ≤ n) (h1 : n ≤ 9223372036854775807) (w : World) (htab : Lib.TabIs Tryd.prog w "internal/strconv.uint64pow10" .u64 Lib.pow10Tab) :
    Calls Tryd.prog 20 #[.int .i64 n] w fun e w' => e = .returned (.string ⟨(Lib.itoa n).toArray⟩) ∧ ∃ k os, w' = grow (w.drewN k) os := Any.strconv_Itoa Tryd.laysM171 n h0 h1 w htab
end Go.Proofs
set_option linter.unusedVariables false
set_option linter.unusedSimpArgs false
namespace Go.Proofs.YthfcimfoinidbaaDoor
namespace Sy
open Lx
def sz : Ex → Nat
  | .mk op n ks => 1 + (ks.attach.map (fun ⟨k, h⟩ => sz k)).sum
theorem joinb_len : ∀ ps : List (List UInt8), (joinb ps).length ≤ (ps.map (fun p => p.length + 1)).sum
  | [] => Nat.zero_le _
  | p :: ps => by
    have := joinb_len ps
    rw [joinb]
    split
    · simp only [List.map_cons, List.sum_cons]; omega
    · simp only [List.length_append, List.length_cons, List.length_nil, List.map_cons, List.sum_cons]; omega
theorem decs_len {n : Int} {m : Nat} (h : cnt n m = true) (hm : m ≤ 99999) : (decs n).length ≤ 5 := by
  simp [cnt] at h
  exact dec_len 4 n.toNat (by omega)
end Sy
end Go.Proofs.YthfcimfoinidbaaDoor
set_option linter.unusedVariables false
set_option linter.unusedSimpArgs false
namespace Go.Proofs.YthfcimfoinidbaaDoor
open Go.RowKit
theorem qw_grow {w : World} {k : Nat} {os : Array Obj} : Qw w (Go.Sort.grow (w.drewN k) os) := by
  have h : Below w.heap.size w (w.drewN k) := bel_drewN (Below.refl _ _) _
  exact h.trans ⟨rfl, rfl, rfl, by simp [Go.Sort.grow, World.drewN], fun j hj => by
    have : j < (w.drewN k).heap.size := hj
    simp only [Go.Sort.grow, Array.getElem?_append, this, if_true]⟩
theorem Sy.bva_len2 {x : Sy.Ex} (h : Sy.okx x = true) (d : Sy.dpt x ≤ 16) : (Sy.bva x).length ≤ 2000002 := by
  obtain ⟨l1, l2⟩ := Sy.blen_16 h d
  obtain ⟨op, n, ks⟩ := x
  have lb := binb_len (.mk op n ks)
  unfold Sy.bva
  split
  · omega
  · split
    · rename_i o k heq
      cases heq
      split
      · have hk : Sy.okx k = true := by rw [Sy.okx_mk] at h; simp at h; exact h.2
        have := Sy.blen_16 hk (dpt_kid1 d)
        rw [List.length_cons]; omega
      · omega
    · omega
theorem itW (n : Int) (h0 : 0 ≤ n) (h1 : n ≤ 99999) (w : World) (hT : Tb w) : Calls Tryd.prog 20 #[.int .i64 n] w fun e w' => e = .returned (.string (bs (Sy.decs n))) ∧ Qw w w' := by
  refine (Tryd.strconv_Itoa n (by omega) (by omega) w (hT w (Below.refl _ _))).mono ?_
  rintro e w' ⟨rfl, k, os, rfl⟩
  refine ⟨?_, qw_grow⟩
  have : Lib.itoa n = Sy.decs n := by
    unfold Lib.itoa Sy.decs
    rw [if_neg (by omega)]
  rw [this]; rfl
set_option maxRecDepth 100000 in
set_option maxHeartbeats 4000000 in
theorem sx_control1 {kind label n : Int} {skip : Bool} {wl wc ll lc xl xc : Nat} {wa la xa : Option Addr} {lop ln xop xn : Int} (w : World) (r s : List UInt8) (lr : r.length ≤ 1000000000000) (ls : s.length ≤ 1000000000000) (cr : ∀ w1, Qw w w1 → Calls Tryd.prog 40 #[.agg #[.int .i64 lop, .int .i64 ln, .slice la ll lc]] w1 fun e w' => e = .returned (.string (bs r)) ∧ Qw w1 w') (cs : ∀ w1, Qw w w1 → Calls Tryd.prog 41 #[.agg #[.int .i64 xop, .int .i64 xn, .slice xa xl xc]] w1 fun e w' => e = .returned (.string (bs s)) ∧ Qw w1 w') :
    Calls Tryd.prog 22 #[.agg #[.int .i64 1, .int .i64 label, .bool skip, .slice wa wl wc, .int .i64 lop, .int .i64 ln, .slice la ll lc, .int .i64 xop, .int .i64 xn, .slice xa xl xc, .int .i64 n]] w fun e w' => e = .returned (.string (bs (r ++ ([32] ++ ([61] ++ ([32] ++ s)))))) ∧ Qw w w' := by
  have eB : bs r ++ bs [32, 61, 32] ++ bs s = bs (r ++ ([32] ++ ([61] ++ ([32] ++ s)))) := by first | (simp only [bs_app, List.append_assoc]; done) | (simp only [bs_app, List.append_assoc]; rfl)
  have hz1 : ¬ 9223372036854775807 < (bs r).size + 3 := by simp only [bs_size]; omega
  have hz2 : ¬ 9223372036854775807 < (bs r).size + 3 + (bs s).size := by simp only [bs_size]; omega
  generalize r ++ ([32] ++ ([61] ++ ([32] ++ s))) = out at eB ⊢
  have EB := Lib.hid eB
  have Cr := Lib.hid cr
  have Cs := Lib.hid cs
  clear eB cr lr cs ls
  have q0 : Hid (Qw w w) := Lib.hid (Qw.refl w)
  go_enter Tryd.func22, Tryd.ntmps22
  go_upto_region 3 with fail
  refine code_of (fun w' => Qw w w' ∧ Bx w' w.heap.size #[.int .i64 1, .int .i64 label, .bool skip, .slice wa wl wc, .int .i64 lop, .int .i64 ln, .slice la ll lc, .int .i64 xop, .int .i64 xn, .slice xa xl xc, .int .i64 n] 34) ⟨(by repeat (first | exact q0.out | exact Qw.refl _ | refine Qw.al ?_ _ | refine Qw.dr ?_ | refine Qw.dn ?_ _ | refine Qw.sc ?_ (by first | (simp; done) | omega | (have := q0.out.size; first | omega | (simp; omega))) _)), by repeat (first | exact Bx.new _ _ _ | refine Bx.alloc ?_ _ | refine Bx.drew ?_)⟩ ?_
  rintro w1 ⟨q1, B⟩
  have x4 := B.kcell 4 _ rfl
  have x5 := B.kcell 5 _ rfl
  have x6 := B.kcell 6 _ rfl
  have x7 := B.kcell 7 _ rfl
  have x8 := B.kcell 8 _ rfl
  have x9 := B.kcell 9 _ rfl
  have x10 := B.kcell 10 _ rfl
  have Dr : Hid (∀ p : Kept w1, Calls Tryd.prog 40 #[.agg #[.int .i64 lop, .int .i64 ln, .slice la ll lc]] p.v fun e w' => e = .returned (.string (bs r)) ∧ Qw p.v w') := Lib.hid fun p => Cr.out _ (q1.trans p.h)
  have Ds : Hid (∀ p : Kept w1, Calls Tryd.prog 41 #[.agg #[.int .i64 xop, .int .i64 xn, .slice xa xl xc]] p.v fun e w' => e = .returned (.string (bs s)) ∧ Qw p.v w') := Lib.hid fun p => Cs.out _ (q1.trans p.h)
  clear Cr Cs q0
  refine region_kept (by kernel_rfl) (by kernel_rfl) ?_
  repeat (go_big_quiet_step (first | (go_at_call 40; with_reducible exact Kept.call (Dr.out _)) | (go_at_call 41; with_reducible exact Kept.call (Ds.out _))))
  refine wpQuiet_nil ?_
  intro w2 q
  go_wp2_with fail
  go_ret
  exact ⟨by rw [← EB.out]; rfl, q1.trans q⟩
set_option maxRecDepth 100000 in
set_option maxHeartbeats 4000000 in
theorem sx_control3 {kind label n : Int} {skip : Bool} {wl wc ll lc xl xc : Nat} {wa la xa : Option Addr} {lop ln xop xn : Int} (w : World) (r s : List UInt8) (lr : r.length ≤ 1000000000000) (ls : s.length ≤ 1000000000000) (cr : ∀ w1, Qw w w1 → Calls Tryd.prog 39 #[.agg #[.int .i64 xop, .int .i64 xn, .slice xa xl xc]] w1 fun e w' => e = .returned (.string (bs r)) ∧ Qw w1 w') (cs : ∀ w1, Qw w w1 → Calls Tryd.prog 21 #[.agg #[.int .i64 lop, .int .i64 ln, .slice la ll lc]] w1 fun e w' => e = .returned (.string (bs s)) ∧ Qw w1 w') :
    Calls Tryd.prog 22 #[.agg #[.int .i64 3, .int .i64 label, .bool skip, .slice wa wl wc, .int .i64 lop, .int .i64 ln, .slice la ll lc, .int .i64 xop, .int .i64 xn, .slice xa xl xc, .int .i64 n]] w fun e w' => e = .returned (.string (bs (Sy.cIF ++ ([32] ++ (r ++ ([32] ++ (Sy.cGOTO ++ ([32] ++ s)))))))) ∧ Qw w w' := by
  have eB : bs [73, 70, 32] ++ bs r ++ bs [32, 71, 79, 84, 79, 32] ++ bs s = bs (Sy.cIF ++ ([32] ++ (r ++ ([32] ++ (Sy.cGOTO ++ ([32] ++ s)))))) := by first | (simp only [bs_app, List.append_assoc]; done) | (simp only [bs_app, List.append_assoc]; rfl)
  have hz1 : ¬ 9223372036854775807 < 3 + (bs r).size := by simp only [bs_size]; omega
  have hz2 : ¬ 9223372036854775807 < 3 + (bs r).size + 6 := by simp only [bs_size]; omega
  have hz3 : ¬ 9223372036854775807 < 3 + (bs r).size + 6 + (bs s).size := by simp only [bs_size]; omega
  generalize Sy.cIF ++ ([32] ++ (r ++ ([32] ++ (Sy.cGOTO ++ ([32] ++ s))))) = out at eB ⊢
  have EB := Lib.hid eB
  have Cr := Lib.hid cr
  have Cs := Lib.hid cs
  clear eB cr lr cs ls
  have q0 : Hid (Qw w w) := Lib.hid (Qw.refl w)
  go_enter Tryd.func22, Tryd.ntmps22
  go_upto_region 5 with fail
  refine code_of (fun w' => Qw w w' ∧ Bx w' w.heap.size #[.int .i64 3, .int .i64 label, .bool skip, .slice wa wl wc, .int .i64 lop, .int .i64 ln, .slice la ll lc, .int .i64 xop, .int .i64 xn, .slice xa xl xc, .int .i64 n] 34) ⟨(by repeat (first | exact q0.out | exact Qw.refl _ | refine Qw.al ?_ _ | refine Qw.dr ?_ | refine Qw.dn ?_ _ | refine Qw.sc ?_ (by first | (simp; done) | omega | (have := q0.out.size; first | omega | (simp; omega))) _)), by repeat (first | exact Bx.new _ _ _ | refine Bx.alloc ?_ _ | refine Bx.drew ?_)⟩ ?_
  rintro w1 ⟨q1, B⟩
  have x4 := B.kcell 4 _ rfl
  have x5 := B.kcell 5 _ rfl
  have x6 := B.kcell 6 _ rfl
  have x7 := B.kcell 7 _ rfl
  have x8 := B.kcell 8 _ rfl
  have x9 := B.kcell 9 _ rfl
  have x10 := B.kcell 10 _ rfl
  have Dr : Hid (∀ p : Kept w1, Calls Tryd.prog 39 #[.agg #[.int .i64 xop, .int .i64 xn, .slice xa xl xc]] p.v fun e w' => e = .returned (.string (bs r)) ∧ Qw p.v w') := Lib.hid fun p => Cr.out _ (q1.trans p.h)
  have Ds : Hid (∀ p : Kept w1, Calls Tryd.prog 21 #[.agg #[.int .i64 lop, .int .i64 ln, .slice la ll lc]] p.v fun e w' => e = .returned (.string (bs s)) ∧ Qw p.v w') := Lib.hid fun p => Cs.out _ (q1.trans p.h)
  clear Cr Cs q0
  refine region_kept (by kernel_rfl) (by kernel_rfl) ?_
  repeat (go_big_quiet_step (first | (go_at_call 39; with_reducible exact Kept.call (Dr.out _)) | (go_at_call 21; with_reducible exact Kept.call (Ds.out _))))
  refine wpQuiet_nil ?_
  intro w2 q
  go_wp2_with fail
  go_ret
  exact ⟨by rw [← EB.out]; rfl, q1.trans q⟩
set_option maxRecDepth 100000 in
set_option maxHeartbeats 4000000 in
theorem sx_control2 {kind label n : Int} {skip : Bool} {wl wc ll lc xl xc : Nat} {wa la xa : Option Addr} {lop ln xop xn : Int} (w : World) (r : List UInt8) (lr : r.length ≤ 1000000000000) (cr : ∀ w1, Qw w w1 → Calls Tryd.prog 21 #[.agg #[.int .i64 xop, .int .i64 xn, .slice xa xl xc]] w1 fun e w' => e = .returned (.string (bs r)) ∧ Qw w1 w') :
    Calls Tryd.prog 22 #[.agg #[.int .i64 2, .int .i64 label, .bool skip, .slice wa wl wc, .int .i64 lop, .int .i64 ln, .slice la ll lc, .int .i64 xop, .int .i64 xn, .slice xa xl xc, .int .i64 n]] w fun e w' => e = .returned (.string (bs (Sy.cGOTO ++ ([32] ++ r)))) ∧ Qw w w' := by
  have eB : bs [71, 79, 84, 79, 32] ++ bs r = bs (Sy.cGOTO ++ ([32] ++ r)) := by first | (simp only [bs_app, List.append_assoc]; done) | (simp only [bs_app, List.append_assoc]; rfl)
  have hz1 : ¬ 9223372036854775807 < 5 + (bs r).size := by simp only [bs_size]; omega
  generalize Sy.cGOTO ++ ([32] ++ r) = out at eB ⊢
  have EB := Lib.hid eB
  have Cr := Lib.hid cr
  clear eB cr lr
  have q0 : Hid (Qw w w) := Lib.hid (Qw.refl w)
  go_enter Tryd.func22, Tryd.ntmps22
  go_wp2_with (go_at_call 21; ((with_reducible refine (Cr.out _ (by repeat (first | exact q0.out | exact Qw.refl _ | refine Qw.al ?_ _ | refine Qw.dr ?_ | refine Qw.dn ?_ _ | refine Qw.sc ?_ (by first | (simp; done) | omega | (have := q0.out.size; first | omega | (simp; omega))) _))).mono ?_); rintro e w' ⟨rfl, q⟩; replace q0 : Hid (Qw w w') := Lib.hid (Qw.trans (by repeat (first | exact q0.out | exact Qw.refl _ | refine Qw.al ?_ _ | refine Qw.dr ?_ | refine Qw.dn ?_ _ | refine Qw.sc ?_ (by first | (simp; done) | omega | (have := q0.out.size; first | omega | (simp; omega))) _)) q); clear q))
  go_ret
  exact ⟨by rw [← EB.out]; rfl, q0.out⟩
set_option maxRecDepth 100000 in
set_option maxHeartbeats 4000000 in
theorem sx_control4 {kind label n : Int} {skip : Bool} {wl wc ll lc xl xc : Nat} {wa la xa : Option Addr} {lop ln xop xn : Int} (w : World) (r s : List UInt8) (lr : r.length ≤ 1000000000000) (ls : s.length ≤ 1000000000000) (cr : ∀ w1, Qw w w1 → Calls Tryd.prog 39 #[.agg #[.int .i64 xop, .int .i64 xn, .slice xa xl xc]] w1 fun e w' => e = .returned (.string (bs r)) ∧ Qw w1 w') (cs : ∀ w1, Qw w w1 → Calls Tryd.prog 20 #[.int .i64 n] w1 fun e w' => e = .returned (.string (bs s)) ∧ Qw w1 w') :
    Calls Tryd.prog 22 #[.agg #[.int .i64 4, .int .i64 label, .bool skip, .slice wa wl wc, .int .i64 lop, .int .i64 ln, .slice la ll lc, .int .i64 xop, .int .i64 xn, .slice xa xl xc, .int .i64 n]] w fun e w' => e = .returned (.string (bs (Sy.cWHILE ++ ([32] ++ (r ++ ([32] ++ (Sy.cDO ++ ([32] ++ s)))))))) ∧ Qw w w' := by
  have eB : bs [87, 72, 73, 76, 69, 32] ++ bs r ++ bs [32, 68, 79, 32] ++ bs s = bs (Sy.cWHILE ++ ([32] ++ (r ++ ([32] ++ (Sy.cDO ++ ([32] ++ s)))))) := by first | (simp only [bs_app, List.append_assoc]; done) | (simp only [bs_app, List.append_assoc]; rfl)
  have hz1 : ¬ 9223372036854775807 < 6 + (bs r).size := by simp only [bs_size]; omega
  have hz2 : ¬ 9223372036854775807 < 6 + (bs r).size + 4 := by simp only [bs_size]; omega
  have hz3 : ¬ 9223372036854775807 < 6 + (bs r).size + 4 + (bs s).size := by simp only [bs_size]; omega
  generalize Sy.cWHILE ++ ([32] ++ (r ++ ([32] ++ (Sy.cDO ++ ([32] ++ s))))) = out at eB ⊢
  have EB := Lib.hid eB
  have Cr := Lib.hid cr
  have Cs := Lib.hid cs
  clear eB cr lr cs ls
  have q0 : Hid (Qw w w) := Lib.hid (Qw.refl w)
  go_enter Tryd.func22, Tryd.ntmps22
  go_upto_region 9 with fail
  refine code_of (fun w' => Qw w w' ∧ Bx w' w.heap.size #[.int .i64 4, .int .i64 label, .bool skip, .slice wa wl wc, .int .i64 lop, .int .i64 ln, .slice la ll lc, .int .i64 xop, .int .i64 xn, .slice xa xl xc, .int .i64 n] 34) ⟨(by repeat (first | exact q0.out | exact Qw.refl _ | refine Qw.al ?_ _ | refine Qw.dr ?_ | refine Qw.dn ?_ _ | refine Qw.sc ?_ (by first | (simp; done) | omega | (have := q0.out.size; first | omega | (simp; omega))) _)), by repeat (first | exact Bx.new _ _ _ | refine Bx.alloc ?_ _ | refine Bx.drew ?_)⟩ ?_
  rintro w1 ⟨q1, B⟩
  have x4 := B.kcell 4 _ rfl
  have x5 := B.kcell 5 _ rfl
  have x6 := B.kcell 6 _ rfl
  have x7 := B.kcell 7 _ rfl
  have x8 := B.kcell 8 _ rfl
  have x9 := B.kcell 9 _ rfl
  have x10 := B.kcell 10 _ rfl
  have Dr : Hid (∀ p : Kept w1, Calls Tryd.prog 39 #[.agg #[.int .i64 xop, .int .i64 xn, .slice xa xl xc]] p.v fun e w' => e = .returned (.string (bs r)) ∧ Qw p.v w') := Lib.hid fun p => Cr.out _ (q1.trans p.h)
  have Ds : Hid (∀ p : Kept w1, Calls Tryd.prog 20 #[.int .i64 n] p.v fun e w' => e = .returned (.string (bs s)) ∧ Qw p.v w') := Lib.hid fun p => Cs.out _ (q1.trans p.h)
  clear Cr Cs q0
  refine region_kept (by kernel_rfl) (by kernel_rfl) ?_
  repeat (go_big_quiet_step (first | (go_at_call 39; with_reducible exact Kept.call (Dr.out _)) | (go_at_call 20; with_reducible exact Kept.call (Ds.out _))))
  refine wpQuiet_nil ?_
  intro w2 q
  go_wp2_with fail
  go_ret
  exact ⟨by rw [← EB.out]; rfl, q1.trans q⟩
set_option maxRecDepth 100000 in
set_option maxHeartbeats 4000000 in
theorem sx_control5 {kind label n : Int} {skip : Bool} {wl wc ll lc xl xc : Nat} {wa la xa : Option Addr} {lop ln xop xn : Int} (w : World) (r : List UInt8) (lr : r.length ≤ 1000000000000) (cr : ∀ w1, Qw w w1 → Calls Tryd.prog 20 #[.int .i64 n] w1 fun e w' => e = .returned (.string (bs r)) ∧ Qw w1 w') :
    Calls Tryd.prog 22 #[.agg #[.int .i64 5, .int .i64 label, .bool skip, .slice wa wl wc, .int .i64 lop, .int .i64 ln, .slice la ll lc, .int .i64 xop, .int .i64 xn, .slice xa xl xc, .int .i64 n]] w fun e w' => e = .returned (.string (bs (Sy.cEND ++ ([32] ++ r)))) ∧ Qw w w' := by
  have eB : bs [69, 78, 68, 32] ++ bs r = bs (Sy.cEND ++ ([32] ++ r)) := by first | (simp only [bs_app, List.append_assoc]; done) | (simp only [bs_app, List.append_assoc]; rfl)
  have hz1 : ¬ 9223372036854775807 < 4 + (bs r).size := by simp only [bs_size]; omega
  generalize Sy.cEND ++ ([32] ++ r) = out at eB ⊢
  have EB := Lib.hid eB
  have Cr := Lib.hid cr
  clear eB cr lr
  have q0 : Hid (Qw w w) := Lib.hid (Qw.refl w)
  go_enter Tryd.func22, Tryd.ntmps22
  go_wp2_with (go_at_call 20; ((with_reducible refine (Cr.out _ (by repeat (first | exact q0.out | exact Qw.refl _ | refine Qw.al ?_ _ | refine Qw.dr ?_ | refine Qw.dn ?_ _ | refine Qw.sc ?_ (by first | (simp; done) | omega | (have := q0.out.size; first | omega | (simp; omega))) _))).mono ?_); rintro e w' ⟨rfl, q⟩; replace q0 : Hid (Qw w w') := Lib.hid (Qw.trans (by repeat (first | exact q0.out | exact Qw.refl _ | refine Qw.al ?_ _ | refine Qw.dr ?_ | refine Qw.dn ?_ _ | refine Qw.sc ?_ (by first | (simp; done) | omega | (have := q0.out.size; first | omega | (simp; omega))) _)) q); clear q))
  go_ret
  exact ⟨by rw [← EB.out]; rfl, q0.out⟩
set_option maxRecDepth 100000 in
set_option maxHeartbeats 4000000 in
theorem sx_control6 {kind label n : Int} {skip : Bool} {wl wc ll lc xl xc : Nat} {wa la xa : Option Addr} {lop ln xop xn : Int} (w : World) (r : List UInt8) (k1 : (kind == 1) = false) (k2 : (kind == 2) = false) (k3 : (kind == 3) = false) (k4 : (kind == 4) = false) (k5 : (kind == 5) = false) (lr : r.length ≤ 1000000000000) (cr : ∀ w1, Qw w w1 → Calls Tryd.prog 20 #[.int .i64 n] w1 fun e w' => e = .returned (.string (bs r)) ∧ Qw w1 w') :
    Calls Tryd.prog 22 #[.agg #[.int .i64 kind, .int .i64 label, .bool skip, .slice wa wl wc, .int .i64 lop, .int .i64 ln, .slice la ll lc, .int .i64 xop, .int .i64 xn, .slice xa xl xc, .int .i64 n]] w fun e w' => e = .returned (.string (bs (79 :: r))) ∧ Qw w w' := by
  have eB : bs [79] ++ bs r = bs (79 :: r) := by first | (simp only [bs_app, List.append_assoc]; done) | (simp only [bs_app, List.append_assoc]; rfl)
  have hz1 : ¬ 9223372036854775807 < 1 + (bs r).size := by simp only [bs_size]; omega
  generalize 79 :: r = out at eB ⊢
  have EB := Lib.hid eB
  have Cr := Lib.hid cr
  clear eB cr lr
  have q0 : Hid (Qw w w) := Lib.hid (Qw.refl w)
  go_enter Tryd.func22, Tryd.ntmps22
  go_wp2_with (go_at_call 20; ((with_reducible refine (Cr.out _ (by repeat (first | exact q0.out | exact Qw.refl _ | refine Qw.al ?_ _ | refine Qw.dr ?_ | refine Qw.dn ?_ _ | refine Qw.sc ?_ (by first | (simp; done) | omega | (have := q0.out.size; first | omega | (simp; omega))) _))).mono ?_); rintro e w' ⟨rfl, q⟩; replace q0 : Hid (Qw w w') := Lib.hid (Qw.trans (by repeat (first | exact q0.out | exact Qw.refl _ | refine Qw.al ?_ _ | refine Qw.dr ?_ | refine Qw.dn ?_ _ | refine Qw.sc ?_ (by first | (simp; done) | omega | (have := q0.out.size; first | omega | (simp; omega))) _)) q); clear q))
  go_ret
  exact ⟨by rw [← EB.out]; rfl, q0.out⟩
theorem sx_control (b : Sy.Bl) (h : Sy.vldb b = true) (h0 : b.kind ≠ 0) (cs : Array Value) (S : Nat → Prop) (w : World) (hO : Ow w) (hT : Tb w) (hB : BlkB w S b cs) : Calls Tryd.prog 22 #[.agg cs] w fun e w' => e = .returned (.string (bs (Sy.ctl b))) ∧ Qw w w' := by
  obtain ⟨kind, label, skip, words, left, x, n⟩ := b
  obtain ⟨wa, wc, la, lc, xa, xc, rfl, hW, hL, hX⟩ := hB
  obtain ⟨lop, ln, lks⟩ := left
  obtain ⟨xop, xn, xks⟩ := x
  simp only [Sy.vldb, Sy.okb, Sy.limb, Bool.and_eq_true] at h
  obtain ⟨⟨_, h⟩, ⟨⟨_, hl⟩, hx⟩⟩ := h
  rw [if_neg h0] at h
  simp only [Bool.and_eq_true] at h
  replace h := h.2
  have hl : Sy.dpt (.mk lop ln lks) ≤ 16 := of_decide_eq_true hl
  have hx : Sy.dpt (.mk xop xn xks) ≤ 16 := of_decide_eq_true hx
  have dl : ∀ n : Int, Sy.cnt n 99999 = true → (Sy.decs n).length ≤ 5 := fun n h => Sy.decs_len h (by decide)
  have c3 : ∀ n : Int, Sy.cnt n 3 = true → Sy.cnt n 99999 = true := fun n h => by simp [Sy.cnt] at h ⊢; omega
  have cb : ∀ n : Int, Sy.cnt n 99999 = true → 0 ≤ n ∧ n ≤ 99999 := fun n h => by simp [Sy.cnt] at h; omega
  show Calls Tryd.prog 22 #[.agg #[.int .i64 kind, .int .i64 label, .bool skip, .slice wa words.length wc, .int .i64 lop, .int .i64 ln, .slice la lks.length lc, .int .i64 xop, .int .i64 xn, .slice xa xks.length xc, .int .i64 n]] w _
  have hL' : KidsB w S la lc lks := hL
  have hX' : KidsB w S xa xc xks := hX
  simp only at h0 h
  by_cases k1 : kind = 1
  · subst k1
    simp [Sy.ctl] at h ⊢
    have A := sx_all _ h.1.1 hl
    have B := sx_all _ h.1.2 hx
    have l1 := Sy.blen_16 h.1.1 hl
    have l2 := Sy.blen_16 h.1.2 hx
    have b1 := binb_len (.mk lop ln lks)
    exact sx_control1 (kind := 0) w (35 :: Sy.bce (.mk lop ln lks)) (Sy.bpr (.mk xop xn xks)) (by unfold Sy.bce; split <;> simp <;> omega) (by omega) (fun w1 q => A.v la lc S w1 (hO.kept q) (hT.kept q) (hL'.kept q)) (fun w1 q => B.p xa xc S w1 (hO.kept q) (hT.kept q) (hX'.kept q))
  · have k1' : (kind == 1) = false := beq_eq_false_iff_ne.2 k1
    by_cases k2 : kind = 2
    · subst k2
      simp [Sy.ctl] at h ⊢
      have l2 := Sy.bva_len2 h.1.2 hx
      exact sx_control2 (kind := 0) w (Sy.bva (.mk xop xn xks)) (by omega) (fun w1 q => sx_valued _ h.1.2 hx xa xc S w1 (hO.kept q) (hT.kept q) (hX'.kept q))
    · have k2' : (kind == 2) = false := beq_eq_false_iff_ne.2 k2
      by_cases k3 : kind = 3
      · subst k3
        simp [Sy.ctl] at h ⊢
        have B := sx_all _ h.1.2 hx
        have l2 := Sy.blen_16 h.1.2 hx
        have b2 := binb_len (.mk xop xn xks)
        have l1 := Sy.bva_len2 h.1.1 hl
        exact sx_control3 (kind := 0) w (Sy.binb (.mk xop xn xks)) (Sy.bva (.mk lop ln lks)) (by omega) (by omega) (fun w1 q => B.b xa xc S w1 (hO.kept q) (hT.kept q) (hX'.kept q)) (fun w1 q => sx_valued _ h.1.1 hl la lc S w1 (hO.kept q) (hT.kept q) (hL'.kept q))
      · by_cases k4 : kind = 4
        · subst k4
          simp [Sy.ctl] at h ⊢
          have B := sx_all _ h.1.2 hx
          have l2 := Sy.blen_16 h.1.2 hx
          have b2 := binb_len (.mk xop xn xks)
          have hn := c3 _ h.2
          have dn := dl _ hn
          obtain ⟨n0, n1⟩ := cb _ hn
          exact sx_control4 (kind := 0) w (Sy.binb (.mk xop xn xks)) (Sy.decs n) (by omega) (by omega) (fun w1 q => B.b xa xc S w1 (hO.kept q) (hT.kept q) (hX'.kept q)) (fun w1 q => itW n n0 n1 w1 (hT.kept q))
        · by_cases k5 : kind = 5
          · subst k5
            simp [Sy.ctl] at h ⊢
            have hn := c3 _ h.2
            have dn := dl _ hn
            obtain ⟨n0, n1⟩ := cb _ hn
            exact sx_control5 (kind := 0) w (Sy.decs n) (by omega) (fun w1 q => itW n n0 n1 w1 (hT.kept q))
          · have k3' : (kind == 3) = false := beq_eq_false_iff_ne.2 k3
            have k4' : (kind == 4) = false := beq_eq_false_iff_ne.2 k4
            have k5' : (kind == 5) = false := beq_eq_false_iff_ne.2 k5
            by_cases k6 : kind = 6
            · simp [k1, k2, k3, k4, k5, k6] at h
              have hn := h.2
              have dn := dl _ hn
              obtain ⟨n0, n1⟩ := cb _ hn
              have e : Sy.ctl ⟨kind, label, skip, words, .mk lop ln lks, .mk xop xn xks, n⟩ = 79 :: Sy.decs n := by simp [Sy.ctl, k1, k2, k3, k4, k5]
              rw [e]
              exact sx_control6 w (Sy.decs n) k1' k2' k3' k4' k5' (by omega) (fun w1 q => itW n n0 n1 w1 (hT.kept q))
            · simp [k1, k2, k3, k4, k5, k6] at h
end Go.Proofs.YthfcimfoinidbaaDoor
set_option linter.unusedVariables false
set_option linter.unusedSimpArgs false
namespace Go.Proofs
open Go.Shelf
def Tryd.lays156_ren : Go.Shelf.Ren := ⟨fun | 156 => 23 | 165 => 42 | 166 => 43 | 169 => 44 | 240 => 62 | 241 => 63 | 276 => 81 | 277 => 82 | n => n, fun | 31 => 47 | 9 => 9 | 3 => 3 | 4 => 4 | 0 => 0 | 20 => 20 | 72 => 79 | 76 => 83 | 70 => 76 | 37 => 77 | 75 => 82 | 127 => 93 | 164 => 110 | 5 => 5 | 80 => 85 | n => n, fun | n => n⟩
theorem Tryd.Builder_Extra_156 : Builder.Extra Tryd.prog Tryd.lays156_ren := {
  sizeBuilder := by kernel_rfl
  liesBuilder := by kernel_rfl
  t5 := Tryd.underlying5
  a5 := Tryd.isAgg5
  z5 := Tryd.sizeOf5
  v5 := Tryd.zeroValue5
  infoByte := by kernel_rfl
  cellsByte := by kernel_rfl
  sizeByte := by kernel_rfl
  neB5 := by decide }
theorem Tryd.lays156 : Go.Proofs.Lays.n156 Tryd.prog Tryd.lays156_ren := {
  mixed := by kernel_rfl
  f156 := Tryd.func23.trans (congrArg some (by kernel_rfl))
  f165 := Tryd.func42.trans (congrArg some (by kernel_rfl))
  f166 := Tryd.func43.trans (congrArg some (by kernel_rfl))
  f169 := Tryd.func44.trans (congrArg some (by kernel_rfl))
  f240 := Tryd.func62.trans (congrArg some (by kernel_rfl))
  f241 := Tryd.func63.trans (congrArg some (by kernel_rfl))
  f276 := Tryd.func81.trans (congrArg some (by kernel_rfl))
  f277 := Tryd.func82.trans (congrArg some (by kernel_rfl))
  t0 := Tryd.underlying0
  a0 := Tryd.isAgg0
  z0 := Tryd.sizeOf0
  v0 := Tryd.zeroValue0
  t3 := Tryd.underlying3
  a3 := Tryd.isAgg3
  z3 := Tryd.sizeOf3
  v3 := Tryd.zeroValue3
  t4 := Tryd.underlying4
  a4 := Tryd.isAgg4
  z4 := Tryd.sizeOf4
  v4 := Tryd.zeroValue4
  t9 := Tryd.underlying9
  a9 := Tryd.isAgg9
  z9 := Tryd.sizeOf9
  v9 := Tryd.zeroValue9
  t20 := Tryd.underlying20
  a20 := Tryd.isAgg20
  z20 := Tryd.sizeOf20
  v20 := Tryd.zeroValue20
  t31 := Tryd.underlying47
  a31 := Tryd.isAgg47
  z31 := Tryd.sizeOf47
  v31 := Tryd.zeroValue47
  t37 := Tryd.underlying77
  a37 := Tryd.isAgg77
  z37 := Tryd.sizeOf77
  v37 := Tryd.zeroValue77
  t70 := Tryd.underlying76
  a70 := Tryd.isAgg76
  z70 := Tryd.sizeOf76
  v70 := Tryd.zeroValue76
  t72 := Tryd.underlying79
  a72 := Tryd.isAgg79
  z72 := Tryd.sizeOf79
  v72 := Tryd.zeroValue79
  t75 := Tryd.underlying82
  a75 := Tryd.isAgg82
  z75 := Tryd.sizeOf82
  v75 := Tryd.zeroValue82
  t76 := Tryd.underlying83
  a76 := Tryd.isAgg83
  z76 := Tryd.sizeOf83
  v76 := Tryd.zeroValue83
  t127 := Tryd.underlying93
  a127 := Tryd.isAgg93
  z127 := Tryd.sizeOf93
  v127 := Tryd.zeroValue93
  t164 := Tryd.underlying110
  a164 := Tryd.isAgg110
  z164 := Tryd.sizeOf110
  v164 := Tryd.zeroValue110 }
open Go.RowKit in
theorem Tryd.strings_Join (bk o c : Nat) (xs : List ByteArray) (sep : ByteArray) (w : World) (hcells : ∀ (j : Nat) x, xs[j]? = some x → w.cell? ⟨bk, o + j, none⟩ = some (.string x)) (hbk : bk < w.heap.size) (hN : xs.length ≤ 140737488355328) (hcap : xs.length ≤ c) (hlen : (Lib.join (xs.map (·.data.toList)) sep.data.toList).length ≤ 140737488355328) :
    Calls Tryd.prog 23 #[.slice (some ⟨bk, o, none⟩) xs.length c, .string sep] w fun e w' => e = .returned (.string ⟨(Lib.join (xs.map (·.data.toList)) sep.data.toList).toArray⟩) ∧ Below w.heap.size w w' := Any.strings_Join Tryd.lays156 Tryd.Builder_Extra_156 bk o c xs sep w hcells hbk hN hcap hlen
end Go.Proofs

