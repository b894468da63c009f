
/- What the laws of layer 8 share: two expressions in memory; plain facts about values. -/
import Derived.Test.YtkfipjlknfinpaaDoorEvS
set_option linter.unusedVariables false
set_option linter.unusedSimpArgs false
namespace Go.Proofs.YtkfipjlknfinpaaDoor
open Go.RowKit

theorem btw8 (v l h : Int) (lh : l ≤ h) : l ≤ l + v % (h - l + 1) ∧ l + v % (h - l + 1) ≤ h := by
  have m0 : 0 ≤ v % (h - l + 1) := Int.emod_nonneg _ (by omega)
  have m1 : v % (h - l + 1) < h - l + 1 := Int.emod_lt_of_pos _ (by omega)
  omega
theorem exprN4 (P : Nat) (v : Value) (zs : List Int) {w0 w : World} (hT : TapeAt w P v zs 0) (q : Qw w0 w) (hP : w0.heap.size ≤ P) : Calls Tryd.prog 12 #[.pointer (some ⟨P, 0, none⟩), .int .i64 4] w fun e w' => ∃ (x : Sy.Ex) (ka : Option Addr) (kc : Nat),
    e = .returned (.agg #[.int .i64 x.op, .int .i64 x.n, .slice ka x.ks.length kc]) ∧ Sy.okx x = true ∧ Sy.dpt x ≤ 4 ∧ Kd w' ka kc x.ks ∧ Qw w0 w' := exprN 4 (by decide) (by decide) P v zs hT q hP
theorem exprN5 (P : Nat) (v : Value) (zs : List Int) {w0 w : World} (hT : TapeAt w P v zs 0) (q : Qw w0 w) (hP : w0.heap.size ≤ P) : Calls Tryd.prog 12 #[.pointer (some ⟨P, 0, none⟩), .int .i64 5] w fun e w' => ∃ (x : Sy.Ex) (ka : Option Addr) (kc : Nat),
    e = .returned (.agg #[.int .i64 x.op, .int .i64 x.n, .slice ka x.ks.length kc]) ∧ Sy.okx x = true ∧ Sy.dpt x ≤ 5 ∧ Kd w' ka kc x.ks ∧ Qw w0 w' := exprN 5 (by decide) (by decide) P v zs hT q hP
theorem exprN6 (P : Nat) (v : Value) (zs : List Int) {w0 w : World} (hT : TapeAt w P v zs 0) (q : Qw w0 w) (hP : w0.heap.size ≤ P) : Calls Tryd.prog 12 #[.pointer (some ⟨P, 0, none⟩), .int .i64 6] w fun e w' => ∃ (x : Sy.Ex) (ka : Option Addr) (kc : Nat),
    e = .returned (.agg #[.int .i64 x.op, .int .i64 x.n, .slice ka x.ks.length kc]) ∧ Sy.okx x = true ∧ Sy.dpt x ≤ 6 ∧ Kd w' ka kc x.ks ∧ Qw w0 w' := exprN 6 (by decide) (by decide) P v zs hT q hP
/-- Two expressions, each in a block of its own. -/
structure Xy (w : World) (D E : Nat) (x y : Sy.Ex) (xa : Option Addr) (xc : Nat) (ya : Option Addr) (yc : Nat) : Prop where
  bx : Bx w D #[.int .i64 x.op, .int .i64 x.n, .slice xa x.ks.length xc] 31
  by_ : Bx w E #[.int .i64 y.op, .int .i64 y.n, .slice ya y.ks.length yc] 31
  kx : Kd w xa xc x.ks
  ky : Kd w ya yc y.ks
section
variable {w w' : World} {D E : Nat} {x y : Sy.Ex} {xa ya : Option Addr} {xc yc : Nat}
theorem Xy.kept (h : Xy w D E x y xa xc ya yc) (q : Qw w w') : Xy w' D E x y xa xc ya yc := ⟨h.bx.kept q, h.by_.kept q, KidsB.kept h.kx q, KidsB.kept h.ky q⟩
theorem Xy.c (h : Xy w D E x y xa xc ya yc) : w.cell? ⟨D, 0, none⟩ = some (.int .i64 x.op) ∧ w.cell? ⟨D, 1, none⟩ = some (.int .i64 x.n) ∧ w.cell? ⟨D, 2, none⟩ = some (.slice xa x.ks.length xc) ∧
    w.cell? ⟨E, 0, none⟩ = some (.int .i64 y.op) ∧ w.cell? ⟨E, 1, none⟩ = some (.int .i64 y.n) ∧ w.cell? ⟨E, 2, none⟩ = some (.slice ya y.ks.length yc) :=
  ⟨h.bx.cell' 0 _ rfl, h.bx.cell' 1 _ rfl, h.bx.cell' 2 _ rfl, h.by_.cell' 0 _ rfl, h.by_.cell' 1 _ rfl, h.by_.cell' 2 _ rfl⟩
/-- As region 3 of the laws leaves them. -/
theorem Xy.mk' (hx : Kd w xa xc x.ks) (hy : Kd w ya yc y.ks) : Xy ((w.alloc (.cells #[.int .i64 x.op, .int .i64 x.n, .slice xa x.ks.length xc] 31)).alloc (.cells #[.int .i64 y.op, .int .i64 y.n, .slice ya y.ks.length yc] 31)) w.heap.size (w.heap.size + 1) x y xa xc ya yc :=
  ⟨(Bx.new w _ _).alloc _, bx_at8 _ _ _ _ (by simp), KidsB.kept hx (Qw.al (Qw.al (Qw.refl w) _) _), KidsB.kept hy (Qw.al (Qw.al (Qw.refl w) _) _)⟩
end

/-- A number that may be negative. -/
def sgx (n : Int) : Sy.Ex := if n < 0 then Sy.un 2 (Sy.num (-n)) else Sy.num n
set_option maxRecDepth 100000 in
set_option maxHeartbeats 4000000 in
theorem evSigned (n : Int) (n1 : -1000000000000000 < n) (n2 : n < 1000000000000000) (w : World) :
    Calls Tryd.prog 26 #[.int .i64 n] w fun e w' => ∃ ka kc, e = .returned (.agg #[.int .i64 (sgx n).op, .int .i64 (sgx n).n, .slice ka (sgx n).ks.length kc]) ∧ Kd w' ka kc (sgx n).ks ∧ Qw w w' := by
  by_cases h : n < 0
  · have e : sgx n = Sy.un 2 (Sy.num (-n)) := if_pos h
    rw [e]
    have wn : IntKind.i64.wrap (-n) = -n := IntWalk.i64_in _ (by omega)
    have q0 : Hid (Qw w w) := Lib.hid (Qw.refl w)
    go_enter Tryd.func26, Tryd.ntmps26
    go_wp2_with (go_at_call 25; ((with_reducible refine (evNum _ _).mono ?_); rintro e w' ⟨rfl, q⟩; have X := Lib.hid (Bx.kept (Bx.new w #[.int .i64 0, .int .i64 0, .slice none 0 0] 31) q); have y0 := X.out.cell' 0 _ rfl; have y1 := X.out.cell' 1 _ rfl; have y2 := X.out.cell' 2 _ rfl; have f0 := X.out.free 0; have f1 := X.out.free 1; have f2 := X.out.free 2; have xl := X.out.lt; have xn : w.heap.size ≠ w'.heap.size := (by omega); replace q0 : Hid (Qw w w') := Lib.hid (Qw.trans (by repeat (first | exact q0.out | exact Qw.refl _ | refine Qw.al ?_ _ | refine Qw.dr ?_ | refine Qw.dn ?_ _ | refine Qw.sc ?_ (by first | (simp; done) | omega | (have := q0.out.size; first | omega | (simp; omega))) _)) q); clear q))
    exact bodyPost_ret (ret_ex Tryd.results26 rfl ((((X.out.set 0 _).set 1 _).set 2 _).alloc _)) rfl ⟨_, _, rfl, KidsB.one (x := Sy.num (-n)) (bx_at8 _ _ _ _ (by simp [World.setCell])) trivial (kd_nil _), Qw.al (Qw.sc (Qw.sc (Qw.sc q0.out (Nat.le_refl _) _) (Nat.le_refl _) _) (Nat.le_refl _) _) _⟩
  · have e : sgx n = Sy.num n := if_neg h
    rw [e]
    have q0 : Hid (Qw w w) := Lib.hid (Qw.refl w)
    go_enter Tryd.func26, Tryd.ntmps26
    go_wp2_with (go_at_call 25; ((with_reducible refine (evNum _ _).mono ?_); rintro e w' ⟨rfl, q⟩; have X := Lib.hid (Bx.kept (Bx.new w #[.int .i64 0, .int .i64 0, .slice none 0 0] 31) q); have y0 := X.out.cell' 0 _ rfl; have y1 := X.out.cell' 1 _ rfl; have y2 := X.out.cell' 2 _ rfl; have f0 := X.out.free 0; have f1 := X.out.free 1; have f2 := X.out.free 2; replace q0 : Hid (Qw w w') := Lib.hid (Qw.trans (by repeat (first | exact q0.out | exact Qw.refl _ | refine Qw.al ?_ _ | refine Qw.dr ?_ | refine Qw.dn ?_ _ | refine Qw.sc ?_ (by first | (simp; done) | omega | (have := q0.out.size; first | omega | (simp; omega))) _)) q); clear q))
    exact bodyPost_ret (ret_ex Tryd.results26 rfl (((X.out.set 0 _).set 1 _).set 2 _)) rfl ⟨none, 0, rfl, kd_nil _, Qw.sc (Qw.sc (Qw.sc q0.out (Nat.le_refl _) _) (Nat.le_refl _) _) (Nat.le_refl _) _⟩

namespace Ev
theorem evl_bin {s : Vs.St} {o : Int} {x y : Sy.Ex} (h : 0 ≤ o ∧ o ≤ 25) (k : Sy.kds o.toNat = 2) (hx : Sy.okx x = true) (hy : Sy.okx y = true) (dx : Sy.dpt x ≤ 15) (dy : Sy.dpt y ≤ 15) : evl s (Sy.bin o x y) = opk s o 0 [evl s x, evl s y] := by
  rw [evl_ok (Sy.okx_bin' h k hx hy) (by rw [Sy.dpt_bin]; omega), val_bin, evl_ok hx (by omega), evl_ok hy (by omega)]
theorem evl_un {s : Vs.St} {o : Int} {x : Sy.Ex} (h : 0 ≤ o ∧ o ≤ 25) (k : Sy.kds o.toNat = 1) (hx : Sy.okx x = true) (dx : Sy.dpt x ≤ 15) : evl s (Sy.un o x) = opk s o 0 [evl s x] := by
  rw [evl_ok (Sy.okx_un' h k hx) (by rw [Sy.dpt_un]; omega), val_un, evl_ok hx (by omega)]
theorem evl_num {s : Vs.St} {n : Int} (h0 : 0 ≤ n) (h1 : n < 1000000000000000) : evl s (Sy.num n) = (n, 0) := by
  rw [evl_ok (Sy.okx_num' h0 h1) (by rw [Sy.dpt_num]; decide), val_num]
theorem evl_bd {s : Vs.St} (hs : Good s) {x : Sy.Ex} (hx : Sy.okx x = true) : Bd (evl s x).1 := by
  unfold evl
  split
  · exact val_bd hs x hx
  · exact bd0

/-! ### algebra -/
theorem both_comm (a b : Int) : both a b = both b a := Bool.and_comm _ _
theorem add_comm (a b : Int) : addv b a = addv a b ∧ adde b a = adde a b := by
  unfold addv adde
  rw [both_comm b a, Int.add_comm b a]
  exact ⟨rfl, rfl⟩
theorem md_comm (a b c m : Int) : mdv b a c m = mdv a b c m ∧ mdok b a c m = mdok a b c m := by
  have e1 : ng b a c = ng a b c := by unfold ng; cases decide (a < 0) <;> cases decide (b < 0) <;> rfl
  have e2 : mq b a c = mq a b c := by unfold mq; rw [Int.mul_comm (Mth.mag b)]
  have e3 : mr b a c = mr a b c := by unfold mr; rw [Int.mul_comm (Mth.mag b)]
  unfold mdv mdok
  rw [e1, e2, e3]
  exact ⟨rfl, rfl⟩
theorem mul_comm (a b : Int) : mulv b a = mulv a b ∧ mule b a = mule a b := by
  unfold mulv mule
  rw [both_comm b a, (md_comm a b 1000000 2).1, (md_comm a b 1000000 2).2]
  exact ⟨rfl, rfl⟩
theorem vld_neg (b : Int) : vld (-b) = vld b := by unfold vld; exact decide_eq_decide.2 ⟨fun h => ⟨by omega, by omega⟩, fun h => ⟨by omega, by omega⟩⟩
theorem sub_add (a b : Int) : addv a (-b) = subv a b ∧ adde a (-b) = sube a b := by
  unfold addv adde subv sube both
  rw [vld_neg b, show a + -b = a - b by omega]
  exact ⟨rfl, rfl⟩
end Ev
end Go.Proofs.YtkfipjlknfinpaaDoor
