import Derived.Test.YtciglhecjkeogaaGreatDoorZTX2
import Derived.Test.YtciglhecjkeogaaGreatDoorZTX7
import Derived.Test.YtciglhecjkeogaaGreatDoorZTX10
import Derived.Test.YtciglhecjkeogaaGreatDoorZTX11
import Derived.IntWalk
import Derived.Deep.LoopGhost
set_option linter.unusedVariables false
set_option linter.unusedSimpArgs false
namespace Go.Proofs.YtciglhecjkeogaaGreatDoor
open Go.RowKit
theorem ret_iib {a b c d : Int} (h : a = b) (g : c = d) : Ending.returned (.tuple #[.int .i64 a, .int .i64 c]) = .returned (.tuple #[.int .i64 b, .int .i64 d]) := by rw [h, g]
theorem evQuotient (a b : Int) (a1 : -9223372036854775808 ≤ a) (a2 : a ≤ 9223372036854775807) (b1 : -9223372036854775808 ≤ b) (b2 : b ≤ 9223372036854775807) (w : World) :
    Calls Tryz.prog 81 #[.int .i64 a, .int .i64 b] w fun e w' => e = .returned (.tuple #[.int .i64 (Ev.quo a b).1, .int .i64 (Ev.quo a b).2]) ∧ Qw w w' := by
  have c1 := fun w => muldivW a 1000000 b 2 a1 a2 (by decide) (by decide) b1 b2 w
  show Calls Tryz.prog 81 #[.int .i64 a, .int .i64 b] w fun e w' => e = .returned (.tuple #[.int .i64 (tv (mdv a 1000000 b 2) (mdok a 1000000 b 2)), .int .i64 (te (mdv a 1000000 b 2) (mdok a 1000000 b 2))]) ∧ Qw w w'
  generalize mdv a 1000000 b 2 = n at *
  generalize mdok a 1000000 b 2 = ok at *
  have C1 := Lib.hid c1
  clear c1 a1 a2 b1 b2
  have q0 : Hid (Qw w w) := Lib.hid (Qw.refl w)
  cases ok
  · rw [show tv n false = 0 from rfl, show te n false = 3 from rfl]
    go_enter Tryz.func81, Tryz.ntmps81
    go_wp2_with (go_at_call 115; (with_reducible refine (C1.out _).mono ?_); rintro e w' ⟨rfl, q⟩; replace q0 : Hid (Qw w w') := Lib.hid (Qw.trans (by repeat (first | exact q0.out | exact Qw.refl _ | refine Qw.al ?_ _ | refine Qw.dr ?_ | refine Qw.dn ?_ _ | refine Qw.sc ?_ (by first | (simp; done) | omega | (have := q0.out.size; first | omega | (simp; omega))) _)) q); clear q)
    go_ret2
    exact ⟨rfl, q0.out⟩
  · cases h : vld n
    · have e1 : tv n true = 0 := by unfold tv; rw [h]; rfl
      have e2 : te n true = 3 := by unfold te; rw [h]; rfl
      rw [e1, e2]
      clear e1 e2
      go_enter Tryz.func81, Tryz.ntmps81
      go_wp2_with (first | (go_at_call 115; (with_reducible refine (C1.out _).mono ?_); rintro e w' ⟨rfl, q⟩; replace q0 : Hid (Qw w w') := Lib.hid (Qw.trans (by repeat (first | exact q0.out | exact Qw.refl _ | refine Qw.al ?_ _ | refine Qw.dr ?_ | refine Qw.dn ?_ _ | refine Qw.sc ?_ (by first | (simp; done) | omega | (have := q0.out.size; first | omega | (simp; omega))) _)) q); clear q) | (go_at_call 33; refine (fxValid _ _).mono ?_; rintro e w' ⟨rfl, rfl⟩))
      go_ret2
      exact ⟨rfl, q0.out⟩
    · have e1 : tv n true = n := by unfold tv; rw [h]; rfl
      have e2 : te n true = 0 := by unfold te; rw [h]; rfl
      rw [e1, e2]
      clear e1 e2
      go_enter Tryz.func81, Tryz.ntmps81
      go_wp2_with (first | (go_at_call 115; (with_reducible refine (C1.out _).mono ?_); rintro e w' ⟨rfl, q⟩; replace q0 : Hid (Qw w w') := Lib.hid (Qw.trans (by repeat (first | exact q0.out | exact Qw.refl _ | refine Qw.al ?_ _ | refine Qw.dr ?_ | refine Qw.dn ?_ _ | refine Qw.sc ?_ (by first | (simp; done) | omega | (have := q0.out.size; first | omega | (simp; omega))) _)) q); clear q) | (go_at_call 33; refine (fxValid _ _).mono ?_; rintro e w' ⟨rfl, rfl⟩))
      go_ret2
      exact ⟨rfl, q0.out⟩
theorem evScaled (a : Int) (a1 : -9223372036854775808 ≤ a) (a2 : a ≤ 9223372036854775807) (w : World) :
    Calls Tryz.prog 52 #[.int .i64 a] w fun e w' => e = .returned (.tuple #[.int .i64 (Ev.quo a 1073741824).1, .int .i64 (Ev.quo a 1073741824).2]) ∧ Qw w w' := by
  have C1 := Lib.hid (fun w => evQuotient a 1073741824 a1 a2 (by decide) (by decide) w)
  generalize (Ev.quo a 1073741824).1 = x at *
  generalize (Ev.quo a 1073741824).2 = y at *
  have q0 : Hid (Qw w w) := Lib.hid (Qw.refl w)
  go_enter Tryz.func52, Tryz.ntmps52
  go_wp2_with (go_at_call 81; (with_reducible refine (C1.out _).mono ?_); rintro e w' ⟨rfl, q⟩; replace q0 : Hid (Qw w w') := Lib.hid (Qw.trans (by repeat (first | exact q0.out | exact Qw.refl _ | refine Qw.al ?_ _ | refine Qw.dr ?_ | refine Qw.dn ?_ _ | refine Qw.sc ?_ (by first | (simp; done) | omega | (have := q0.out.size; first | omega | (simp; omega))) _)) q); clear q)
  go_ret2
  exact ⟨rfl, q0.out⟩
theorem evTangent (a b : Int) (a1 : -9223372036854775808 ≤ a) (a2 : a ≤ 9223372036854775807) (b1 : -9223372036854775808 ≤ b) (b2 : b ≤ 9223372036854775807) (w : World) :
    Calls Tryz.prog 53 #[.int .i64 a, .int .i64 b] w fun e w' => e = .returned (.tuple #[.int .i64 (if b = 0 then (0, 4) else Ev.quo a b).1, .int .i64 (if b = 0 then (0, 4) else Ev.quo a b).2]) ∧ Qw w w' := by
  have C1 := Lib.hid (fun w => evQuotient a b a1 a2 b1 b2 w)
  have q0 : Hid (Qw w w) := Lib.hid (Qw.refl w)
  by_cases h : b = 0
  · subst h
    rw [if_pos rfl]
    clear C1
    go_enter Tryz.func53, Tryz.ntmps53
    go_wp2_with fail
    go_ret2
    exact ⟨rfl, q0.out⟩
  · rw [if_neg h]
    have h1 : (b == 0) = false := beq_eq_false_iff_ne.2 h
    generalize (Ev.quo a b).1 = x at *
    generalize (Ev.quo a b).2 = y at *
    go_enter Tryz.func53, Tryz.ntmps53
    go_wp2_with (go_at_call 81; (with_reducible refine (C1.out _).mono ?_); rintro e w' ⟨rfl, q⟩; replace q0 : Hid (Qw w w') := Lib.hid (Qw.trans (by repeat (first | exact q0.out | exact Qw.refl _ | refine Qw.al ?_ _ | refine Qw.dr ?_ | refine Qw.dn ?_ _ | refine Qw.sc ?_ (by first | (simp; done) | omega | (have := q0.out.size; first | omega | (simp; omega))) _)) q); clear q)
    go_ret2
    exact ⟨rfl, q0.out⟩
theorem evAnswer (b : Bool) (w : World) :
    Calls Tryz.prog 92 #[.bool b] w fun e w' => e = .returned (.tuple #[.int .i64 (Ev.flg b).1, .int .i64 (Ev.flg b).2]) ∧ w = w' := by
  cases b
  · go_enter Tryz.func92, Tryz.ntmps92
    go_wp2_with fail
    go_ret2
    exact ⟨rfl, rfl⟩
  · go_enter Tryz.func92, Tryz.ntmps92
    go_wp2_with fail
    go_ret2
    exact ⟨rfl, rfl⟩
theorem evTruth (n : Int) (w : World) : Calls Tryz.prog 15 #[.int .i64 n] w fun e w' => e = .returned (.bool (n != 0)) ∧ w = w' := by
  go_enter Tryz.func15, Tryz.ntmps15
  go_wp2_with fail
  go_ret
  exact ⟨rfl, rfl⟩
theorem evVariable {w : World} {B L cap : Nat} {s : Vs.St} (h : Pst w B L cap s) (a : Int) :
    Calls Tryz.prog 50 #[.int .i64 a, .pointer (some ⟨B, 0, none⟩)] w fun e w' => e = .returned (.tuple #[.int .i64 (Ev.varv s a).1, .int .i64 (Ev.varv s a).2]) ∧ Qw w w' := by
  have H := Lib.hid h
  clear h
  have q0 : Hid (Qw w w) := Lib.hid (Qw.refl w)
  cases hw : whole a
  · rw [show Ev.varv s a = (0, 6) from if_neg (by rw [hw]; decide)]
    go_enter Tryz.func50, Tryz.ntmps50
    go_wp2_with (go_at_call 77; refine (fxWhole _ _).mono ?_; rintro e w' ⟨rfl, rfl⟩)
    go_ret2
    exact ⟨rfl, q0.out⟩
  · rw [show Ev.varv s a = (s.get (wholev a), Vs.gerr (wholev a)) from if_pos hw]
    go_enter Tryz.func50, Tryz.ntmps50
    go_wp2_with (first | (go_at_call 77; refine (fxWhole _ _).mono ?_; rintro e w' ⟨rfl, rfl⟩) | (go_at_call 78; (with_reducible refine (vaGet (H.out.kept (by repeat (first | exact q0.out | exact Qw.refl _ | refine Qw.al ?_ _ | refine Qw.dr ?_ | refine Qw.dn ?_ _ | refine Qw.sc ?_ (by first | (simp; done) | omega | (have := q0.out.size; first | omega | (simp; omega))) _))) _).mono ?_); rintro e w' ⟨rfl, q⟩; replace q0 : Hid (Qw w w') := Lib.hid (Qw.trans (by repeat (first | exact q0.out | exact Qw.refl _ | refine Qw.al ?_ _ | refine Qw.dr ?_ | refine Qw.dn ?_ _ | refine Qw.sc ?_ (by first | (simp; done) | omega | (have := q0.out.size; first | omega | (simp; omega))) _)) q); clear q))
    go_ret2
    exact ⟨rfl, q0.out⟩
def mxe2 (a b : Int) : Int := if b > a then b else a
theorem run_max4 (P : Program) (ts : Array TypeId) (t : TypeId) (x y : Int) :
    ∃ M : Int, decide (1099511627776 < M) = Ev.big x y ∧ ∀ w, (Builtin.max_ ts t #[.int .i64 x, .int .i64 (-x), .int .i64 y, .int .i64 (-y)]).run P w = .ok (.int .i64 M) w := by
  refine ⟨mxe2 (mxe2 (mxe2 x (-x)) y) (-y), ?_, fun w => by simp [Builtin.max_, Builtin.max2, mxe2]⟩
  unfold Ev.big
  by_cases h : 1099511627776 < mxe2 (mxe2 (mxe2 x (-x)) y) (-y)
  · rw [decide_eq_true h]
    have : 1099511627776 < x ∨ x < -1099511627776 ∨ 1099511627776 < y ∨ y < -1099511627776 := by
      unfold mxe2 at h
      split at h <;> split at h <;> split at h <;> omega
    simp; omega
  · rw [decide_eq_false h]
    have : ¬ (1099511627776 < x ∨ x < -1099511627776 ∨ 1099511627776 < y ∨ y < -1099511627776) := by
      unfold mxe2 at h
      split at h <;> split at h <;> split at h <;> omega
    simp; omega
theorem hb_le {k : Nat} {x : Int} (h : Ev.Hb k x) (hk : k ≤ 10) : -1125899906842624 ≤ x ∧ x ≤ 1125899906842624 := by
  unfold Ev.Hb at h
  have p : (2 : Int) ^ k ≤ 2 ^ 10 := by
    have := Nat.pow_le_pow_right (show 2 > 0 by decide) hk
    exact_mod_cast this
  have e : (2 : Int) ^ 10 = 1024 := by decide
  generalize (2 : Int) ^ k = z at *
  omega
theorem int_div2 (x : Int) : x / 2 ^ 1 = x / 2 := by rw [show (2 : Int) ^ 1 = 2 from rfl]
set_option maxRecDepth 100000 in
set_option maxHeartbeats 4000000 in
theorem evDirection (a b : Int) (ha : Ev.Bd a) (hb : Ev.Bd b) (w : World) (ht : Tc w) :
    Calls Tryz.prog 90 #[.int .i64 a, .int .i64 b] w fun e w' => e = .returned (.tuple #[.int .i64 (Ev.dirv a b).1, .int .i64 (Ev.dirv a b).2]) ∧ Qw w w' := by
  have HT := Lib.hid ht
  clear ht
  have q0 : Hid (Qw w w) := Lib.hid (Qw.refl w)
  by_cases hz : a = 0 ∧ b = 0
  · obtain ⟨rfl, rfl⟩ := hz
    rw [show Ev.dirv 0 0 = (0, 4) from rfl]
    go_enter Tryz.func90, Tryz.ntmps90
    go_wp2_with fail
    go_ret2
    exact ⟨rfl, q0.out⟩
  · rw [show Ev.dirv a b = (Cm.angv (Ev.hal 10 a b).2 (Ev.hal 10 a b).1, 0) from if_neg hz]
    have ba := Ev.hb_ten ha
    have bb := Ev.hb_ten hb
    have hz1 : ((a == 0) = false) ∨ ((a == 0) = true ∧ (b == 0) = false) := by
      rcases Int.decEq a 0 with h | h
      · exact .inl (beq_eq_false_iff_ne.2 h)
      · exact .inr ⟨beq_iff_eq.2 h, beq_eq_false_iff_ne.2 (fun g => hz ⟨h, g⟩)⟩
    obtain ⟨r1, r2, hr⟩ : ∃ r1 r2, Ev.hal 10 a b = (r1, r2) := ⟨_, _, rfl⟩
    rw [hr]
    have CA := Lib.hid (fun w' (q : Qw w w') => co_angle r2 r1 w' (Tc.kept HT.out q))
    clear hz ha hb
    generalize Cm.angv r2 r1 = ag at *
    rcases hz1 with h0 | ⟨h0, h0'⟩
    all_goals
      go_enter Tryz.func90, Tryz.ntmps90
      go_wp2_with fail
      go_loopg [0, 1] 10 (fun g av bv wr => ∃ (k : Nat) (x y : Int), k ≤ 10 ∧ g = k ∧ av = .int .i64 x ∧ bv = .int .i64 y ∧ Ev.Hb k x ∧ Ev.Hb k y ∧ Ev.hal k x y = (r1, r2) ∧ Qw w wr)
      case atStart => exact ⟨10, a, b, Nat.le_refl _, rfl, rfl, rfl, ba, bb, hr, Qw.refl w⟩
      case round =>
        obtain ⟨k, x, y, hk, hgk, rfl, rfl, hx, hy, he, hQ⟩ := hrel
        have q0 := Lib.hid hQ
        obtain ⟨x1, x2⟩ := hb_le hx hk
        obtain ⟨y1, y2⟩ := hb_le hy hk
        have nx : IntKind.i64.wrap (-x) = -x := IntWalk.i64_in _ (by omega)
        have ny : IntKind.i64.wrap (-y) = -y := IntWalk.i64_in _ (by omega)
        obtain ⟨M, hM, rM⟩ := run_max4 Tryz.prog #[3, 3, 3, 3] 3 x y
        cases hbig : Ev.big x y with
        | false =>
          rw [hbig] at hM
          have e := Ev.hal_no (k := k) hbig
          rw [he] at e
          obtain ⟨rfl, rfl⟩ := Prod.mk.inj e
          clear hQ hbig he e hx hy ba bb hr
          go_wp2_with (go_at_call 121; (with_reducible refine (CA.out _ (by repeat (first | exact q0.out | exact Qw.refl _ | refine Qw.al ?_ _ | refine Qw.dr ?_ | refine Qw.dn ?_ _ | refine Qw.sc ?_ (by first | (simp; done) | omega | (have := q0.out.size; first | omega | (simp; omega))) _))).mono ?_); rintro e w' ⟨rfl, q⟩; replace q0 : Hid (Qw w w') := Lib.hid (Qw.trans (by repeat (first | exact q0.out | exact Qw.refl _ | refine Qw.al ?_ _ | refine Qw.dr ?_ | refine Qw.dn ?_ _ | refine Qw.sc ?_ (by first | (simp; done) | omega | (have := q0.out.size; first | omega | (simp; omega))) _)) q); clear q)
          go_ret2
          exact ⟨rfl, q0.out⟩
        | true =>
          rw [hbig] at hM
          cases k with
          | zero => rw [Ev.hb_zero hx hy] at hbig; cases hbig
          | succ k =>
            have e := Ev.hal_yes (k := k) hbig
            rw [he] at e
            have bx := Ev.hb_half hx
            have by' := Ev.hb_half hy
            have s1 : x / 2 ^ 1 = x / 2 := int_div2 x
            have s2 : y / 2 ^ 1 = y / 2 := int_div2 y
            clear hQ hbig he hx hy ba bb hr
            go_wp2_with fail
            go_roundg k
            case measure => omega
            case rel => exact ⟨k, x / 2, y / 2, by omega, rfl, by go_num, by go_num, bx, by', e.symm, q0.out⟩
end Go.Proofs.YtciglhecjkeogaaGreatDoor
set_option linter.unusedVariables false
set_option linter.unusedSimpArgs false
namespace Go.Proofs.YtciglhecjkeogaaGreatDoor
open Go.RowKit
def ivs (l : List Int) : Array Value := (l.map (Value.int .i64)).toArray
theorem ivs_size (l : List Int) : (ivs l).size = l.length := by simp [ivs]
theorem Qw.sr {a w : World} (h : Qw a w) {g : Nat} (hg : a.heap.size ≤ g) (cs : Array Value) : Qw a (w.setRow g cs) :=
  ⟨h.os, h.tape, h.output, by rw [setRow_size]; exact h.size, fun k hk => (setRow_other w g k cs (by omega)).trans (h.block k hk)⟩
theorem Bx.sr {w : World} {g : Nat} {old : Array Value} {t : TypeId} (h : Bx w g old t) (cs : Array Value) : Bx (w.setRow g cs) g cs t := setRow_heap w g old cs t _ h
section
variable {ops : Array Oper} {rest : List Oper} {dst : Option Tmp} {ty : TypeId} {pos : String} {after : Array Edge} {a : Act} {w : World} {Q : Exit → Act → World → Prop}
end
end Go.Proofs.YtciglhecjkeogaaGreatDoor
set_option linter.unusedVariables false
set_option linter.unusedSimpArgs false
namespace Go.Proofs.YtciglhecjkeogaaGreatDoor
open Go.RowKit
theorem evC1 (a b : Int) (w : World) : Calls Tryz.prog 91 #[.int .i64 a, .int .i64 b] w fun e w' => e = .returned (.tuple #[.int .i64 (Ev.flg (a == b)).1, .int .i64 (Ev.flg (a == b)).2]) ∧ w = w' := by
  go_enter Tryz.func91, Tryz.ntmps91
  go_wp2_with (go_at_call 92; (refine (evAnswer _ _).mono ?_); rintro e w' ⟨rfl, rfl⟩)
  go_ret2
  exact ⟨rfl, rfl⟩
theorem evC2 (a b : Int) (w : World) : Calls Tryz.prog 93 #[.int .i64 a, .int .i64 b] w fun e w' => e = .returned (.tuple #[.int .i64 (Ev.flg (a != b)).1, .int .i64 (Ev.flg (a != b)).2]) ∧ w = w' := by
  go_enter Tryz.func93, Tryz.ntmps93
  go_wp2_with (go_at_call 92; (refine (evAnswer _ _).mono ?_); rintro e w' ⟨rfl, rfl⟩)
  go_ret2
  exact ⟨rfl, rfl⟩
theorem evC3 (a b : Int) (w : World) : Calls Tryz.prog 94 #[.int .i64 a, .int .i64 b] w fun e w' => e = .returned (.tuple #[.int .i64 (Ev.flg (decide (b < a))).1, .int .i64 (Ev.flg (decide (b < a))).2]) ∧ w = w' := by
  go_enter Tryz.func94, Tryz.ntmps94
  go_wp2_with (go_at_call 92; (refine (evAnswer _ _).mono ?_); rintro e w' ⟨rfl, rfl⟩)
  go_ret2
  exact ⟨rfl, rfl⟩
theorem evC4 (a b : Int) (w : World) : Calls Tryz.prog 95 #[.int .i64 a, .int .i64 b] w fun e w' => e = .returned (.tuple #[.int .i64 (Ev.flg (decide (b ≤ a))).1, .int .i64 (Ev.flg (decide (b ≤ a))).2]) ∧ w = w' := by
  go_enter Tryz.func95, Tryz.ntmps95
  go_wp2_with (go_at_call 92; (refine (evAnswer _ _).mono ?_); rintro e w' ⟨rfl, rfl⟩)
  go_ret2
  exact ⟨rfl, rfl⟩
theorem evC5 (a b : Int) (w : World) : Calls Tryz.prog 96 #[.int .i64 a, .int .i64 b] w fun e w' => e = .returned (.tuple #[.int .i64 (Ev.flg (decide (a < b))).1, .int .i64 (Ev.flg (decide (a < b))).2]) ∧ w = w' := by
  go_enter Tryz.func96, Tryz.ntmps96
  go_wp2_with (go_at_call 92; (refine (evAnswer _ _).mono ?_); rintro e w' ⟨rfl, rfl⟩)
  go_ret2
  exact ⟨rfl, rfl⟩
theorem evC6 (a b : Int) (w : World) : Calls Tryz.prog 97 #[.int .i64 a, .int .i64 b] w fun e w' => e = .returned (.tuple #[.int .i64 (Ev.flg (decide (a ≤ b))).1, .int .i64 (Ev.flg (decide (a ≤ b))).2]) ∧ w = w' := by
  go_enter Tryz.func97, Tryz.ntmps97
  go_wp2_with (go_at_call 92; (refine (evAnswer _ _).mono ?_); rintro e w' ⟨rfl, rfl⟩)
  go_ret2
  exact ⟨rfl, rfl⟩
theorem evC7 (a b : Int) (w : World) : Calls Tryz.prog 98 #[.int .i64 a, .int .i64 b] w fun e w' => e = .returned (.tuple #[.int .i64 (Ev.flg ((a != 0) && (b != 0))).1, .int .i64 (Ev.flg ((a != 0) && (b != 0))).2]) ∧ w = w' := by
  have T1 := Lib.hid (fun w => evTruth a w)
  have T2 := Lib.hid (fun w => evTruth b w)
  generalize (a != 0) = p at *
  generalize (b != 0) = q at *
  cases p <;> cases q
  all_goals
    go_enter Tryz.func98, Tryz.ntmps98
    go_wp2_with (first | (go_at_call 15; (with_reducible first | refine (T1.out _).mono ?_ | refine (T2.out _).mono ?_); rintro e w' ⟨rfl, rfl⟩) | (go_at_call 92; (refine (evAnswer _ _).mono ?_); rintro e w' ⟨rfl, rfl⟩))
    go_ret2
    exact ⟨rfl, rfl⟩
theorem evC8 (a b : Int) (w : World) : Calls Tryz.prog 99 #[.int .i64 a, .int .i64 b] w fun e w' => e = .returned (.tuple #[.int .i64 (Ev.flg ((a != 0) || (b != 0))).1, .int .i64 (Ev.flg ((a != 0) || (b != 0))).2]) ∧ w = w' := by
  have T1 := Lib.hid (fun w => evTruth a w)
  have T2 := Lib.hid (fun w => evTruth b w)
  generalize (a != 0) = p at *
  generalize (b != 0) = q at *
  cases p <;> cases q
  all_goals
    go_enter Tryz.func99, Tryz.ntmps99
    go_wp2_with (first | (go_at_call 15; (with_reducible first | refine (T1.out _).mono ?_ | refine (T2.out _).mono ?_); rintro e w' ⟨rfl, rfl⟩) | (go_at_call 92; (refine (evAnswer _ _).mono ?_); rintro e w' ⟨rfl, rfl⟩))
    go_ret2
    exact ⟨rfl, rfl⟩
theorem evC9 (a b : Int) (w : World) : Calls Tryz.prog 100 #[.int .i64 a, .int .i64 b] w fun e w' => e = .returned (.tuple #[.int .i64 (Ev.flg ((a != 0) != (b != 0))).1, .int .i64 (Ev.flg ((a != 0) != (b != 0))).2]) ∧ w = w' := by
  have T1 := Lib.hid (fun w => evTruth a w)
  have T2 := Lib.hid (fun w => evTruth b w)
  generalize (a != 0) = p at *
  generalize (b != 0) = q at *
  cases p <;> cases q
  all_goals
    go_enter Tryz.func100, Tryz.ntmps100
    go_wp2_with (first | (go_at_call 15; (with_reducible first | refine (T1.out _).mono ?_ | refine (T2.out _).mono ?_); rintro e w' ⟨rfl, rfl⟩) | (go_at_call 92; (refine (evAnswer _ _).mono ?_); rintro e w' ⟨rfl, rfl⟩))
    go_ret2
    exact ⟨rfl, rfl⟩
def binT : Array Value := #[.nilFunc, .nilFunc, .nilFunc, .func (Fn.func 85) #[] #[], .func (Fn.func 86) #[] #[], .func (Fn.func 87) #[] #[], .func (Fn.func 88) #[] #[], .func (Fn.func 89) #[] #[], .nilFunc, .nilFunc, .nilFunc, .func (Fn.func 90) #[] #[], .nilFunc, .nilFunc, .nilFunc, .nilFunc, .nilFunc, .func (Fn.func 91) #[] #[], .func (Fn.func 93) #[] #[], .func (Fn.func 94) #[] #[], .func (Fn.func 95) #[] #[], .func (Fn.func 96) #[] #[], .func (Fn.func 97) #[] #[], .func (Fn.func 98) #[] #[], .func (Fn.func 99) #[] #[], .func (Fn.func 100) #[] #[]]
theorem info_bin : (Tryz.prog.info? 101).map (·.size) = some 26 := by kernel_rfl
section
variable {ops : Array Oper} {rest : List Oper} {dst : Option Tmp} {ty : TypeId} {pos : String} {after : Array Edge} {a : Act} {w : World} {Q : Exit → Act → World → Prop}
theorem st_bin (x y : Tmp) {R : Nat} {t : TypeId} {old : Array Value} (hx : a.eval (.tmp x) = .pointer (some ⟨R, 0, none⟩)) (hy : a.eval (.tmp y) = .agg binT) (X : Bx w R old t) (ho : old.size = 26) {w0 : World} (q : Qw w0 w) (hR : w0.heap.size ≤ R)
    (h : ∀ w', Bx w' R binT t → Qw w0 w' → wpList Tryz.prog ops Q rest (a.put dst undef) w') : wpList Tryz.prog ops Q (⟨dst, .store 101 (.tmp x) (.tmp y), ty, pos, after, none⟩ :: rest) a w :=
  wpList_store_row rfl 101 (.tmp x) (.tmp y) rfl R binT hx hy t old X info_bin ho (by kernel_rfl) (h _ (X.sr _) (q.sr hR _))
end
theorem ret_bin {fn : Func} {s : Nat} {a : Act} {w : World} {b : Nat} {t : TypeId} (hr : fn.results = #[.cell s 101]) (hs : a.tmps[s]?.getD undef = .pointer (some ⟨b, 0, none⟩)) (X : Bx w b binT t) :
    (results fn a.tmps).run Tryz.prog w = .ok (.agg binT) w := by
  have hl := run_loadVar_row (P := Tryz.prog) w b t 101 binT (0, 0) _ X Tryz.underlying101 rfl info_bin
  simp [results, hr, hs, Sem.run_bind, Sem.run_pure, asAddr, hl]
set_option maxRecDepth 100000 in
theorem evBinary (w : World) : Calls Tryz.prog 58 #[] w fun e w' => e = .returned (.agg binT) ∧ Qw w w' := by
  go_enter Tryz.func58, Tryz.ntmps58
  go_wp2_with (refine st_bin 0 1 rfl rfl (Bx.new _ _ _) rfl (Qw.al (Qw.refl w) _) (Nat.le_refl _) ?_; intro w2 X q)
  exact bodyPost_ret (ret_bin Tryz.results58 rfl X) rfl ⟨rfl, q⟩
end Go.Proofs.YtciglhecjkeogaaGreatDoor
set_option linter.unusedVariables false
set_option linter.unusedSimpArgs false
namespace Go.Proofs.YtciglhecjkeogaaGreatDoor
open Go.RowKit
inductive KidsB (w : World) (S : Nat → Prop) : Option Addr → Nat → List Sy.Ex → Prop where
  | nl (a : Option Addr) (cap : Nat) (h : cap ≤ 9223372036854775807) : KidsB w S a cap []
  | mk (b off cap : Nat) (ks : List Sy.Ex) (ad : Nat → Option Addr) (cc : Nat → Nat) (hS : S b) (h1 : ks.length ≤ cap) (h2 : cap ≤ 9223372036854775807)
    (hc : ∀ i (h : i < ks.length), w.cell? ⟨b, off + i * 3, none⟩ = some (.int .i64 ks[i].op) ∧ w.cell? ⟨b, off + i * 3 + 1, none⟩ = some (.int .i64 ks[i].n) ∧ w.cell? ⟨b, off + i * 3 + 2, none⟩ = some (.slice (ad i) ks[i].ks.length (cc i)))
    (hk : ∀ i (h : i < ks.length), KidsB w S (ad i) (cc i) ks[i].ks) : KidsB w S (some ⟨b, off, none⟩) cap ks
theorem KidsB.cap {w : World} {S : Nat → Prop} {a : Option Addr} {cap : Nat} {ks : List Sy.Ex} (h : KidsB w S a cap ks) : ks.length ≤ cap ∧ cap ≤ 9223372036854775807 := by
  cases h with
  | nl a cap h => exact ⟨Nat.zero_le _, h⟩
  | mk b off cap ks ad cc hS h1 h2 hc hk => exact ⟨h1, h2⟩
theorem cell_lt {w : World} {b o : Nat} {v : Value} (h : w.cell? ⟨b, o, none⟩ = some v) : b < w.heap.size := by
  rcases Nat.lt_or_ge b w.heap.size with g | g
  · exact g
  · simp [World.cell?, Array.getElem?_eq_none g] at h
theorem KidsB.go {w w' : World} {S T : Nat → Prop} (hb : ∀ b, S b → b < w.heap.size → w'.heap[b]? = w.heap[b]? ∧ T b) {a : Option Addr} {cap : Nat} {ks : List Sy.Ex} (h : KidsB w S a cap ks) : KidsB w' T a cap ks := by
  induction h with
  | nl a cap h => exact .nl a cap h
  | mk b off cap ks ad cc hS h1 h2 hc hk ih =>
    by_cases h0 : ks = []
    · subst h0; exact .nl _ _ h2
    have g := cell_lt (hc 0 (by cases ks with | nil => exact absurd rfl h0 | cons _ _ => simp)).1
    refine .mk b off cap ks ad cc (hb b hS g).2 h1 h2 (fun i hi => ?_) ih
    have k : ∀ o, w'.cell? ⟨b, o, none⟩ = w.cell? ⟨b, o, none⟩ := fun o => World.cell?_of_block (w := w) (hb b hS g).1
    rw [k, k, k]
    exact hc i hi
theorem KidsB.kept {w w' : World} {S : Nat → Prop} {a : Option Addr} {cap : Nat} {ks : List Sy.Ex} (h : KidsB w S a cap ks) (q : Qw w w') : KidsB w' S a cap ks := h.go fun b hS hb => ⟨q.block b hb, hS⟩
theorem KidsB.px {w w' : World} {P : Nat} {S : Nat → Prop} {a : Option Addr} {cap : Nat} {ks : List Sy.Ex} (h : KidsB w S a cap ks) (hS : ∀ b, S b → b ≠ P) (q : Px P w w') : KidsB w' S a cap ks := h.go fun b h hb => ⟨q.block b hb (hS b h), h⟩
theorem KidsB.mono {w : World} {S T : Nat → Prop} {a : Option Addr} {cap : Nat} {ks : List Sy.Ex} (h : KidsB w S a cap ks) (hT : ∀ b, S b → T b) : KidsB w T a cap ks := h.go fun b hS _ => ⟨rfl, hT b hS⟩
theorem KidsB.set {w : World} {S : Nat → Prop} {a : Option Addr} {cap : Nat} {ks : List Sy.Ex} (h : KidsB w S a cap ks) {p : Addr} (hp : ¬ S p.block) (u : Value) : KidsB (w.setCell p u) S a cap ks :=
  h.go fun b hS hb => ⟨Below.heap_setCell _ _ _ _ (fun e => hp (e ▸ hS)), hS⟩
theorem KidsB.one {w : World} {S : Nat → Prop} {G : Nat} {x : Sy.Ex} {t : TypeId} {ka : Option Addr} {kc : Nat} (X : Bx w G #[.int .i64 x.op, .int .i64 x.n, .slice ka x.ks.length kc] t) (hS : S G) (h : KidsB w S ka kc x.ks) : KidsB w S (some ⟨G, 0, none⟩) 1 [x] := by
  refine .mk G 0 1 [x] (fun _ => ka) (fun _ => kc) hS (Nat.le_refl _) (by decide) (fun i hi => ?_) (fun i hi => ?_)
  · obtain rfl : i = 0 := by simp at hi; exact hi
    exact ⟨X.cell' 0 _ rfl, X.cell' 1 _ rfl, X.cell' 2 _ rfl⟩
  · obtain rfl : i = 0 := by simp at hi; exact hi
    exact h
theorem KidsB.two {w : World} {S : Nat → Prop} {G : Nat} {x y : Sy.Ex} {t : TypeId} {ka kb : Option Addr} {kc kd : Nat} (X : Bx w G #[.int .i64 x.op, .int .i64 x.n, .slice ka x.ks.length kc, .int .i64 y.op, .int .i64 y.n, .slice kb y.ks.length kd] t) (hS : S G)
    (h : KidsB w S ka kc x.ks) (h' : KidsB w S kb kd y.ks) : KidsB w S (some ⟨G, 0, none⟩) 2 [x, y] := by
  refine .mk G 0 2 [x, y] (fun i => if i = 0 then ka else kb) (fun i => if i = 0 then kc else kd) hS (Nat.le_refl _) (by decide) (fun i hi => ?_) (fun i hi => ?_)
  · have : i = 0 ∨ i = 1 := by simp at hi; omega
    rcases this with rfl | rfl
    · exact ⟨X.cell' 0 _ rfl, X.cell' 1 _ rfl, X.cell' 2 _ rfl⟩
    · exact ⟨X.cell' 3 _ rfl, X.cell' 4 _ rfl, X.cell' 5 _ rfl⟩
  · have : i = 0 ∨ i = 1 := by simp at hi; omega
    rcases this with rfl | rfl
    · exact h
    · exact h'
def POk (P : Nat) (a : Option Addr) (cap : Nat) (ts : List Lx.Tok) (len : Nat) (w : World) (x : Sy.Ex) (j : Nat) (e : Ending) (w' : World) : Prop :=
  ∃ ka kc, e = .returned (.agg #[.int .i64 x.op, .int .i64 x.n, .slice ka x.ks.length kc]) ∧ KidsB w' (fun b => w.heap.size ≤ b) ka kc x.ks ∧ Par w' P a cap ts len j ∧ Px P w w'
def PBad (P : Nat) (ts : List Lx.Tok) (len : Nat) (w : World) (j : Nat) (e : Ending) (w' : World) : Prop := e = .panicked (failP (Sy.tp ts len j) 2) ∧ Px P w w'
def PR (P : Nat) (a : Option Addr) (cap : Nat) (ts : List Lx.Tok) (len : Nat) (w : World) (r : Sy.Rs Sy.Ex) (e : Ending) (w' : World) : Prop := match r with
  | .ok x j => POk P a cap ts len w x j e w'
  | .bad j => PBad P ts len w j e w'
theorem syCounts (n : Int) (m : Nat) (w : World) : Calls Tryz.prog 45 #[.int .i64 n, .int .i64 (m : Int)] w fun e w' => e = .returned (.bool (Sy.cnt n m)) ∧ w = w' := by
  have main : ∀ b, Sy.cnt n m = b → Calls Tryz.prog 45 #[.int .i64 n, .int .i64 (m : Int)] w fun e w' => e = .returned (.bool b) ∧ w = w' := by
    intro b hb
    unfold Sy.cnt at hb
    by_cases h1 : 1 ≤ n
    · by_cases h2 : n ≤ (m : Int)
      · obtain rfl : b = true := by rw [← hb]; simp [h1, h2]
        clear hb
        go_enter Tryz.func45, Tryz.ntmps45
        go_wp2
        go_ret
        exact ⟨rfl, rfl⟩
      · obtain rfl : b = false := by rw [← hb]; simp [h2]
        clear hb
        have h3 : (m : Int) < n := by omega
        go_enter Tryz.func45, Tryz.ntmps45
        go_wp2
        go_ret
        exact ⟨rfl, rfl⟩
    · obtain rfl : b = false := by rw [← hb]; simp [h1]
      clear hb
      go_enter Tryz.func45, Tryz.ntmps45
      go_wp2
      go_ret
      exact ⟨rfl, rfl⟩
  exact main _ rfl
theorem syIsWord (n : Int) (w : World) : Calls Tryz.prog 73 #[.int .i64 n] w fun e w' => e = .returned (.bool (Sy.isw n)) ∧ w = w' := by
  have main : ∀ b, Sy.isw n = b → Calls Tryz.prog 73 #[.int .i64 n] w fun e w' => e = .returned (.bool b) ∧ w = w' := by
    intro b hb
    unfold Sy.isw at hb
    by_cases h1 : 65 ≤ n
    · by_cases h2 : n ≤ 90
      · by_cases h3 : n = 78
        · obtain rfl : b = false := by rw [← hb]; simp [h3]
          subst h3
          clear hb
          go_enter Tryz.func73, Tryz.ntmps73
          go_wp2
          go_ret
          exact ⟨rfl, rfl⟩
        · by_cases h4 : n = 79
          · obtain rfl : b = false := by rw [← hb]; simp [h4]
            subst h4
            clear hb
            go_enter Tryz.func73, Tryz.ntmps73
            go_wp2
            go_ret
            exact ⟨rfl, rfl⟩
          · obtain rfl : b = true := by rw [← hb]; simp [h1, h2, h3, h4]
            have b3 : (n != 78) = true := by simpa using h3
            have b4 : (n != 79) = true := by simpa using h4
            clear hb
            go_enter Tryz.func73, Tryz.ntmps73
            go_wp2
            go_ret
            exact ⟨rfl, rfl⟩
      · obtain rfl : b = false := by rw [← hb]; simp [h2]
        clear hb
        go_enter Tryz.func73, Tryz.ntmps73
        go_wp2
        go_ret
        exact ⟨rfl, rfl⟩
    · obtain rfl : b = false := by rw [← hb]; simp [h1]
      clear hb
      go_enter Tryz.func73, Tryz.ntmps73
      go_wp2
      go_ret
      exact ⟨rfl, rfl⟩
  exact main _ rfl
theorem syLetterY {w : World} {P : Nat} {a : Option Addr} {cap : Nat} {ts : List Lx.Tok} {len i : Nat} (h : Par w P a cap ts len i) (c : Int) (hk : Sy.kd ts i = 1) (hn : Sy.tn ts i = c) :
    Calls Tryz.prog 41 #[.pointer (some ⟨P, 0, none⟩), .int .i64 c] w fun e w' => e = .returned (.bool true) ∧ Par w' P a cap ts len (i + 1) ∧ Px P w w' := by
  have hi := Sy.kd_lt hk (by decide)
  have hl := h.hl
  have H := Lib.hid h
  have e1 : Hid (((i + 1 : Nat) : Int) = (i : Int) + 1) := Lib.hid (by omega)
  have hv : tokV ts len i = .agg #[.int .i64 1, .int .i64 c, .int .i64 (Sy.tp ts len i : Nat), .string (bs (Sy.tx ts i))] := by unfold tokV; rw [hk, hn]
  replace hv := Lib.hid hv
  clear h hk hn
  have q0 : Hid (Qw w w) := Lib.hid (Qw.refl w)
  go_enter Tryz.func41, Tryz.ntmps41
  go_wp2_with (go_at_call 64; ((with_reducible refine (syNext (H.out.kept Qz)).mono ?_); rintro e w' ⟨rfl, q⟩; rw [hv.out]; have p1 : w'.cell? ⟨P, 1, none⟩ = some (.int .i64 (i : Int)) := (H.out.kept q).bx.cell' 1 _ rfl; have p2 := (H.out.kept q).bx.free 1; have pl := (H.out.kept q).bx.lt; replace q0 : Hid (Qw w w') := Lib.hid (Qw.trans Qz q); clear q))
  go_ret
  refine ⟨rfl, Par.kept (w := w'.setCell ⟨P, 1, none⟩ (.int .i64 ((i : Int) + 1))) ?_ ((Below.refl _ _).alloc (Nat.le_refl _) _), Pz⟩
  have := ((H.out.kept q0.out).set (i + 1) hi)
  rw [e1.out] at this; exact this
theorem syLetterN {w : World} {P : Nat} {a : Option Addr} {cap : Nat} {ts : List Lx.Tok} {len i : Nat} (h : Par w P a cap ts len i) (c : Int) (hk : Sy.kd ts i ≠ 1 ∨ Sy.tn ts i ≠ c) :
    Calls Tryz.prog 41 #[.pointer (some ⟨P, 0, none⟩), .int .i64 c] w fun e w' => e = .returned (.bool false) ∧ Qw w w' := by
  have H := Lib.hid h
  have hv : Hid (tokV ts len i = .agg #[.int .i64 (Sy.kd ts i), .int .i64 (Sy.tn ts i), .int .i64 (Sy.tp ts len i : Nat), .string (bs (Sy.tx ts i))]) := Lib.hid rfl
  clear h
  have q0 : Hid (Qw w w) := Lib.hid (Qw.refl w)
  generalize Sy.kd ts i = k at *
  generalize Sy.tn ts i = n at *
  by_cases h1 : k = 1
  · have h2 : n ≠ c := by omega
    have b2 : (n != c) = true := by simpa using h2
    subst h1
    clear hk h2
    go_enter Tryz.func41, Tryz.ntmps41
    go_wp2_with (go_at_call 64; ((with_reducible refine (syNext (H.out.kept Qz)).mono ?_); rintro e w' ⟨rfl, q⟩; rw [hv.out]; replace q0 : Hid (Qw w w') := Lib.hid (Qw.trans Qz q); clear q))
    go_ret
    exact ⟨rfl, Qz⟩
  · have b2 : (k != 1) = true := by simpa using h1
    clear hk h1
    go_enter Tryz.func41, Tryz.ntmps41
    go_wp2_with (go_at_call 64; ((with_reducible refine (syNext (H.out.kept Qz)).mono ?_); rintro e w' ⟨rfl, q⟩; rw [hv.out]; replace q0 : Hid (Qw w w') := Lib.hid (Qw.trans Qz q); clear q))
    go_ret
    exact ⟨rfl, Qz⟩
theorem syWholeY {w : World} {P : Nat} {a : Option Addr} {cap : Nat} {ts : List Lx.Tok} {len i : Nat} (h : Par w P a cap ts len i) (m : Nat) (hk : Sy.kd ts i = 2) (ho : whole (Sy.tn ts i) = true) (hc : Sy.cnt (wholev (Sy.tn ts i)) m = true) :
    Calls Tryz.prog 65 #[.pointer (some ⟨P, 0, none⟩), .int .i64 (m : Int)] w fun e w' => e = .returned (.int .i64 (wholev (Sy.tn ts i))) ∧ Par w' P a cap ts len (i + 1) ∧ Px P w w' := by
  have hi := Sy.kd_lt hk (by decide)
  have hl := h.hl
  have H := Lib.hid h
  have e1 : Hid (((i + 1 : Nat) : Int) = (i : Int) + 1) := Lib.hid (by omega)
  have hv : tokV ts len i = .agg #[.int .i64 2, .int .i64 (Sy.tn ts i), .int .i64 (Sy.tp ts len i : Nat), .string (bs (Sy.tx ts i))] := by unfold tokV; rw [hk]
  replace hv := Lib.hid hv
  have fw := fun w => fxWhole (Sy.tn ts i) w
  rw [ho] at fw
  have fc := fun w => syCounts (wholev (Sy.tn ts i)) m w
  rw [hc] at fc
  generalize wholev (Sy.tn ts i) = V at *
  generalize Sy.tn ts i = n at *
  replace fw := Lib.hid fw
  replace fc := Lib.hid fc
  clear h hk ho hc
  have q0 : Hid (Qw w w) := Lib.hid (Qw.refl w)
  go_enter Tryz.func65, Tryz.ntmps65
  go_wp2_with (first | (go_at_call 64; ((with_reducible refine (syNext (H.out.kept Qz)).mono ?_); rintro e w' ⟨rfl, q⟩; rw [hv.out]; have p1 : w'.cell? ⟨P, 1, none⟩ = some (.int .i64 (i : Int)) := (H.out.kept q).bx.cell' 1 _ rfl; have p2 := (H.out.kept q).bx.free 1; have pl := (H.out.kept q).bx.lt; replace q0 : Hid (Qw w w') := Lib.hid (Qw.trans Qz q); clear q)) | (go_at_call 77; ((with_reducible refine (fw.out _).mono ?_); rintro e w' ⟨rfl, rfl⟩)) | (go_at_call 45; ((with_reducible refine (fc.out _).mono ?_); rintro e w' ⟨rfl, rfl⟩)))
  go_ret
  refine ⟨rfl, Par.kept (w := w'.setCell ⟨P, 1, none⟩ (.int .i64 ((i : Int) + 1))) ?_ ((Below.refl _ _).alloc (Nat.le_refl _) _), Pz⟩
  have := ((H.out.kept q0.out).set (i + 1) hi)
  rw [e1.out] at this; exact this
theorem syWholeN {w : World} {P : Nat} {a : Option Addr} {cap : Nat} {ts : List Lx.Tok} {len i : Nat} (h : Par w P a cap ts len i) (m : Nat) (hk : Sy.kd ts i ≠ 2 ∨ whole (Sy.tn ts i) = false ∨ Sy.cnt (wholev (Sy.tn ts i)) m = false) :
    Calls Tryz.prog 65 #[.pointer (some ⟨P, 0, none⟩), .int .i64 (m : Int)] w fun e w' => e = .panicked (failP (Sy.tp ts len i) 2) ∧ Qw w w' := by
  have H := Lib.hid h
  have hv : Hid (tokV ts len i = .agg #[.int .i64 (Sy.kd ts i), .int .i64 (Sy.tn ts i), .int .i64 (Sy.tp ts len i : Nat), .string (bs (Sy.tx ts i))]) := Lib.hid rfl
  have fw := fun w => fxWhole (Sy.tn ts i) w
  have fc := fun w => syCounts (wholev (Sy.tn ts i)) m w
  clear h
  have q0 : Hid (Qw w w) := Lib.hid (Qw.refl w)
  generalize Sy.kd ts i = k at *
  by_cases h1 : k = 2
  · replace hk : whole (Sy.tn ts i) = false ∨ Sy.cnt (wholev (Sy.tn ts i)) m = false := hk.resolve_left (fun h => h h1)
    subst h1
    cases ho : whole (Sy.tn ts i)
    · rw [ho] at fw
      generalize wholev (Sy.tn ts i) = V at *
      generalize Sy.tn ts i = n at *
      replace fw := Lib.hid fw
      clear fc hk ho
      go_enter Tryz.func65, Tryz.ntmps65
      go_wp2_with (first | (go_at_call 64; ((with_reducible refine (syNext (H.out.kept Qz)).mono ?_); rintro e w' ⟨rfl, q⟩; rw [hv.out]; replace q0 : Hid (Qw w w') := Lib.hid (Qw.trans Qz q); clear q)) | (go_at_call 77; ((with_reducible refine (fw.out _).mono ?_); rintro e w' ⟨rfl, rfl⟩)) | (go_at_call 44; ((with_reducible refine (syUnexpected (H.out.kept Qz)).mono ?_); rintro e w' ⟨rfl, q⟩; replace q0 : Hid (Qw w w') := Lib.hid (Qw.trans Qz q); clear q)))
      exact ⟨rfl, rfl, q0.out⟩
    · have hc := hk.resolve_left (by rw [ho]; decide)
      rw [ho] at fw
      rw [hc] at fc
      generalize wholev (Sy.tn ts i) = V at *
      generalize Sy.tn ts i = n at *
      replace fw := Lib.hid fw
      replace fc := Lib.hid fc
      clear hk ho hc
      go_enter Tryz.func65, Tryz.ntmps65
      go_wp2_with (first | (go_at_call 64; ((with_reducible refine (syNext (H.out.kept Qz)).mono ?_); rintro e w' ⟨rfl, q⟩; rw [hv.out]; replace q0 : Hid (Qw w w') := Lib.hid (Qw.trans Qz q); clear q)) | (go_at_call 77; ((with_reducible refine (fw.out _).mono ?_); rintro e w' ⟨rfl, rfl⟩)) | (go_at_call 45; ((with_reducible refine (fc.out _).mono ?_); rintro e w' ⟨rfl, rfl⟩)) | (go_at_call 44; ((with_reducible refine (syUnexpected (H.out.kept Qz)).mono ?_); rintro e w' ⟨rfl, q⟩; replace q0 : Hid (Qw w w') := Lib.hid (Qw.trans Qz q); clear q)))
      exact ⟨rfl, rfl, q0.out⟩
  · have b2 : (k != 2) = true := by simpa using h1
    clear hk h1 fc
    generalize whole (Sy.tn ts i) = b at *
    generalize wholev (Sy.tn ts i) = V at *
    generalize Sy.tn ts i = n at *
    replace fw := Lib.hid fw
    go_enter Tryz.func65, Tryz.ntmps65
    go_wp2_with (first | (go_at_call 64; ((with_reducible refine (syNext (H.out.kept Qz)).mono ?_); rintro e w' ⟨rfl, q⟩; rw [hv.out]; replace q0 : Hid (Qw w w') := Lib.hid (Qw.trans Qz q); clear q)) | (go_at_call 77; ((with_reducible refine (fw.out _).mono ?_); rintro e w' ⟨rfl, rfl⟩)) | (go_at_call 44; ((with_reducible refine (syUnexpected (H.out.kept Qz)).mono ?_); rintro e w' ⟨rfl, q⟩; replace q0 : Hid (Qw w w') := Lib.hid (Qw.trans Qz q); clear q)))
    exact ⟨rfl, rfl, q0.out⟩
def PN (P : Nat) (a : Option Addr) (cap : Nat) (ts : List Lx.Tok) (len : Nat) (w : World) (r : Sy.Rs Int) (e : Ending) (w' : World) : Prop := match r with
  | .ok x j => e = .returned (.int .i64 x) ∧ Par w' P a cap ts len j ∧ Px P w w'
  | .bad j => PBad P ts len w j e w'
theorem syWhole {w : World} {P : Nat} {a : Option Addr} {cap : Nat} {ts : List Lx.Tok} {len i : Nat} (h : Par w P a cap ts len i) (hg : Sy.Good ts) (m : Nat) : Calls Tryz.prog 65 #[.pointer (some ⟨P, 0, none⟩), .int .i64 (m : Int)] w (PN P a cap ts len w (Sy.pN ts m i)) := by
  have key : (Sy.kd ts i = 2 ∧ Sy.isc (Sy.tn ts i) m = true) → (whole (Sy.tn ts i) = true ∧ wholev (Sy.tn ts i) = Sy.tn ts i / 1000000 ∧ Sy.cnt (wholev (Sy.tn ts i)) m = true) := by
    rintro ⟨h1, h2⟩
    have := Sy.num_ok hg h1
    unfold Sy.isc at h2
    simp only [Bool.and_eq_true, decide_eq_true_eq] at h2
    have hw : whole (Sy.tn ts i) = true := by unfold whole; rw [vld_t (by omega) (by omega), decide_eq_true h2.1.1]; rfl
    have hv : wholev (Sy.tn ts i) = Sy.tn ts i / 1000000 := by unfold wholev; rw [if_pos hw]
    exact ⟨hw, hv, by rw [hv]; unfold Sy.cnt; simp; omega⟩
  have key2 : ¬ (Sy.kd ts i = 2 ∧ Sy.isc (Sy.tn ts i) m = true) → (Sy.kd ts i ≠ 2 ∨ whole (Sy.tn ts i) = false ∨ Sy.cnt (wholev (Sy.tn ts i)) m = false) := by
    intro h1
    by_cases h2 : Sy.kd ts i = 2
    · right
      cases hw : whole (Sy.tn ts i)
      · exact .inl rfl
      · right
        have hv : wholev (Sy.tn ts i) = Sy.tn ts i / 1000000 := by unfold wholev; rw [if_pos hw]
        cases hc : Sy.cnt (wholev (Sy.tn ts i)) m
        · rfl
        · exfalso
          refine h1 ⟨h2, ?_⟩
          rw [hv] at hc
          unfold whole at hw
          unfold Sy.cnt at hc
          unfold Sy.isc
          simp at hw hc ⊢
          omega
    · exact .inl h2
  by_cases hy : Sy.kd ts i = 2 ∧ Sy.isc (Sy.tn ts i) m = true
  · obtain ⟨h1, h2, h3⟩ := key hy
    unfold Sy.pN
    rw [if_pos hy]
    refine (syWholeY h m hy.1 h1 h3).mono ?_
    rintro e w' ⟨rfl, hp, hq⟩
    exact ⟨by rw [h2], hp, hq⟩
  · unfold Sy.pN
    rw [if_neg hy]
    refine (syWholeN h m (key2 hy)).mono ?_
    rintro e w' ⟨rfl, hq⟩
    exact ⟨rfl, Px.of hq⟩
end Go.Proofs.YtciglhecjkeogaaGreatDoor

