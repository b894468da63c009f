
/- Package eval: the walks of what is made of one or two values. -/
import Derived.Test.YtkfipjlknfinpaaDoorEvP
import Derived.Test.YtkfipjlknfinpaaDoorL2a
import Derived.Test.YtkfipjlknfinpaaDoorCO
import Derived.Test.YtkfipjlknfinpaaDoorVAX
import Derived.IntWalk
import Derived.Deep.LoopGhost
set_option linter.unusedVariables false
set_option linter.unusedSimpArgs false
namespace Go.Proofs.YtkfipjlknfinpaaDoor
open Go.RowKit

theorem ret_iib {a b c d : Int} (h : a = b) (g : c = d) : Ending.returned (.tuple #[.int .i64 a, .int .i64 c]) = .returned (.tuple #[.int .i64 b, .int .i64 d]) := by rw [h, g]

theorem evQuotient (a b : Int) (a1 : -9223372036854775808 ≤ a) (a2 : a ≤ 9223372036854775807) (b1 : -9223372036854775808 ≤ b) (b2 : b ≤ 9223372036854775807) (w : World) :
    Calls Tryd.prog 55 #[.int .i64 a, .int .i64 b] w fun e w' => e = .returned (.tuple #[.int .i64 (Ev.quo a b).1, .int .i64 (Ev.quo a b).2]) ∧ Qw w w' := by
  have c1 := fun w => muldivW a 1000000 b 2 a1 a2 (by decide) (by decide) b1 b2 w
  show Calls Tryd.prog 55 #[.int .i64 a, .int .i64 b] w fun e w' => e = .returned (.tuple #[.int .i64 (tv (mdv a 1000000 b 2) (mdok a 1000000 b 2)), .int .i64 (te (mdv a 1000000 b 2) (mdok a 1000000 b 2))]) ∧ Qw w w'
  generalize mdv a 1000000 b 2 = n at *
  generalize mdok a 1000000 b 2 = ok at *
  have C1 := Lib.hid c1
  clear c1 a1 a2 b1 b2
  have q0 : Hid (Qw w w) := Lib.hid (Qw.refl w)
  cases ok
  · rw [show tv n false = 0 from rfl, show te n false = 3 from rfl]
    go_enter Tryd.func55, Tryd.ntmps55
    go_wp2_with (go_at_call 77; (with_reducible refine (C1.out _).mono ?_); rintro e w' ⟨rfl, q⟩; replace q0 : Hid (Qw w w') := Lib.hid (Qw.trans (by repeat (first | exact q0.out | exact Qw.refl _ | refine Qw.al ?_ _ | refine Qw.dr ?_ | refine Qw.dn ?_ _ | refine Qw.sc ?_ (by first | (simp; done) | omega | (have := q0.out.size; first | omega | (simp; omega))) _)) q); clear q)
    go_ret2
    exact ⟨rfl, q0.out⟩
  · cases h : vld n
    · have e1 : tv n true = 0 := by unfold tv; rw [h]; rfl
      have e2 : te n true = 3 := by unfold te; rw [h]; rfl
      rw [e1, e2]
      clear e1 e2
      go_enter Tryd.func55, Tryd.ntmps55
      go_wp2_with (first | (go_at_call 77; (with_reducible refine (C1.out _).mono ?_); rintro e w' ⟨rfl, q⟩; replace q0 : Hid (Qw w w') := Lib.hid (Qw.trans (by repeat (first | exact q0.out | exact Qw.refl _ | refine Qw.al ?_ _ | refine Qw.dr ?_ | refine Qw.dn ?_ _ | refine Qw.sc ?_ (by first | (simp; done) | omega | (have := q0.out.size; first | omega | (simp; omega))) _)) q); clear q) | (go_at_call 39; refine (fxValid _ _).mono ?_; rintro e w' ⟨rfl, rfl⟩))
      go_ret2
      exact ⟨rfl, q0.out⟩
    · have e1 : tv n true = n := by unfold tv; rw [h]; rfl
      have e2 : te n true = 0 := by unfold te; rw [h]; rfl
      rw [e1, e2]
      clear e1 e2
      go_enter Tryd.func55, Tryd.ntmps55
      go_wp2_with (first | (go_at_call 77; (with_reducible refine (C1.out _).mono ?_); rintro e w' ⟨rfl, q⟩; replace q0 : Hid (Qw w w') := Lib.hid (Qw.trans (by repeat (first | exact q0.out | exact Qw.refl _ | refine Qw.al ?_ _ | refine Qw.dr ?_ | refine Qw.dn ?_ _ | refine Qw.sc ?_ (by first | (simp; done) | omega | (have := q0.out.size; first | omega | (simp; omega))) _)) q); clear q) | (go_at_call 39; refine (fxValid _ _).mono ?_; rintro e w' ⟨rfl, rfl⟩))
      go_ret2
      exact ⟨rfl, q0.out⟩

theorem evScaled (a : Int) (a1 : -9223372036854775808 ≤ a) (a2 : a ≤ 9223372036854775807) (w : World) :
    Calls Tryd.prog 45 #[.int .i64 a] w fun e w' => e = .returned (.tuple #[.int .i64 (Ev.quo a 1073741824).1, .int .i64 (Ev.quo a 1073741824).2]) ∧ Qw w w' := by
  have C1 := Lib.hid (fun w => evQuotient a 1073741824 a1 a2 (by decide) (by decide) w)
  generalize (Ev.quo a 1073741824).1 = x at *
  generalize (Ev.quo a 1073741824).2 = y at *
  have q0 : Hid (Qw w w) := Lib.hid (Qw.refl w)
  go_enter Tryd.func45, Tryd.ntmps45
  go_wp2_with (go_at_call 55; (with_reducible refine (C1.out _).mono ?_); rintro e w' ⟨rfl, q⟩; replace q0 : Hid (Qw w w') := Lib.hid (Qw.trans (by repeat (first | exact q0.out | exact Qw.refl _ | refine Qw.al ?_ _ | refine Qw.dr ?_ | refine Qw.dn ?_ _ | refine Qw.sc ?_ (by first | (simp; done) | omega | (have := q0.out.size; first | omega | (simp; omega))) _)) q); clear q)
  go_ret2
  exact ⟨rfl, q0.out⟩

theorem evTangent (a b : Int) (a1 : -9223372036854775808 ≤ a) (a2 : a ≤ 9223372036854775807) (b1 : -9223372036854775808 ≤ b) (b2 : b ≤ 9223372036854775807) (w : World) :
    Calls Tryd.prog 46 #[.int .i64 a, .int .i64 b] w fun e w' => e = .returned (.tuple #[.int .i64 (if b = 0 then (0, 4) else Ev.quo a b).1, .int .i64 (if b = 0 then (0, 4) else Ev.quo a b).2]) ∧ Qw w w' := by
  have C1 := Lib.hid (fun w => evQuotient a b a1 a2 b1 b2 w)
  have q0 : Hid (Qw w w) := Lib.hid (Qw.refl w)
  by_cases h : b = 0
  · subst h
    rw [if_pos rfl]
    clear C1
    go_enter Tryd.func46, Tryd.ntmps46
    go_wp2_with fail
    go_ret2
    exact ⟨rfl, q0.out⟩
  · rw [if_neg h]
    have h1 : (b == 0) = false := beq_eq_false_iff_ne.2 h
    generalize (Ev.quo a b).1 = x at *
    generalize (Ev.quo a b).2 = y at *
    go_enter Tryd.func46, Tryd.ntmps46
    go_wp2_with (go_at_call 55; (with_reducible refine (C1.out _).mono ?_); rintro e w' ⟨rfl, q⟩; replace q0 : Hid (Qw w w') := Lib.hid (Qw.trans (by repeat (first | exact q0.out | exact Qw.refl _ | refine Qw.al ?_ _ | refine Qw.dr ?_ | refine Qw.dn ?_ _ | refine Qw.sc ?_ (by first | (simp; done) | omega | (have := q0.out.size; first | omega | (simp; omega))) _)) q); clear q)
    go_ret2
    exact ⟨rfl, q0.out⟩

theorem evAnswer (b : Bool) (w : World) :
    Calls Tryd.prog 66 #[.bool b] w fun e w' => e = .returned (.tuple #[.int .i64 (Ev.flg b).1, .int .i64 (Ev.flg b).2]) ∧ w = w' := by
  cases b
  · go_enter Tryd.func66, Tryd.ntmps66
    go_wp2_with fail
    go_ret2
    exact ⟨rfl, rfl⟩
  · go_enter Tryd.func66, Tryd.ntmps66
    go_wp2_with fail
    go_ret2
    exact ⟨rfl, rfl⟩

theorem evTruth (n : Int) (w : World) : Calls Tryd.prog 20 #[.int .i64 n] w fun e w' => e = .returned (.bool (n != 0)) ∧ w = w' := by
  go_enter Tryd.func20, Tryd.ntmps20
  go_wp2_with fail
  go_ret
  exact ⟨rfl, rfl⟩

theorem evVariable {w : World} {B L cap : Nat} {s : Vs.St} (h : Pst w B L cap s) (a : Int) :
    Calls Tryd.prog 43 #[.int .i64 a, .pointer (some ⟨B, 0, none⟩)] w fun e w' => e = .returned (.tuple #[.int .i64 (Ev.varv s a).1, .int .i64 (Ev.varv s a).2]) ∧ Qw w w' := by
  have H := Lib.hid h
  clear h
  have q0 : Hid (Qw w w) := Lib.hid (Qw.refl w)
  cases hw : whole a
  · rw [show Ev.varv s a = (0, 6) from if_neg (by rw [hw]; decide)]
    go_enter Tryd.func43, Tryd.ntmps43
    go_wp2_with (go_at_call 52; refine (fxWhole _ _).mono ?_; rintro e w' ⟨rfl, rfl⟩)
    go_ret2
    exact ⟨rfl, q0.out⟩
  · rw [show Ev.varv s a = (s.get (wholev a), Vs.gerr (wholev a)) from if_pos hw]
    go_enter Tryd.func43, Tryd.ntmps43
    go_wp2_with (first | (go_at_call 52; refine (fxWhole _ _).mono ?_; rintro e w' ⟨rfl, rfl⟩) | (go_at_call 15; (with_reducible refine (vaGet (H.out.kept (by repeat (first | exact q0.out | exact Qw.refl _ | refine Qw.al ?_ _ | refine Qw.dr ?_ | refine Qw.dn ?_ _ | refine Qw.sc ?_ (by first | (simp; done) | omega | (have := q0.out.size; first | omega | (simp; omega))) _))) _).mono ?_); rintro e w' ⟨rfl, q⟩; replace q0 : Hid (Qw w w') := Lib.hid (Qw.trans (by repeat (first | exact q0.out | exact Qw.refl _ | refine Qw.al ?_ _ | refine Qw.dr ?_ | refine Qw.dn ?_ _ | refine Qw.sc ?_ (by first | (simp; done) | omega | (have := q0.out.size; first | omega | (simp; omega))) _)) q); clear q))
    go_ret2
    exact ⟨rfl, q0.out⟩

/-- The greatest of four, as the builtin reckons it. -/
def mxe2 (a b : Int) : Int := if b > a then b else a
theorem run_max4 (P : Program) (ts : Array TypeId) (t : TypeId) (x y : Int) :
    ∃ M : Int, decide (1099511627776 < M) = Ev.big x y ∧ ∀ w, (Builtin.max_ ts t #[.int .i64 x, .int .i64 (-x), .int .i64 y, .int .i64 (-y)]).run P w = .ok (.int .i64 M) w := by
  refine ⟨mxe2 (mxe2 (mxe2 x (-x)) y) (-y), ?_, fun w => by simp [Builtin.max_, Builtin.max2, mxe2]⟩
  unfold Ev.big
  by_cases h : 1099511627776 < mxe2 (mxe2 (mxe2 x (-x)) y) (-y)
  · rw [decide_eq_true h]
    have : 1099511627776 < x ∨ x < -1099511627776 ∨ 1099511627776 < y ∨ y < -1099511627776 := by
      unfold mxe2 at h
      split at h <;> split at h <;> split at h <;> omega
    simp; omega
  · rw [decide_eq_false h]
    have : ¬ (1099511627776 < x ∨ x < -1099511627776 ∨ 1099511627776 < y ∨ y < -1099511627776) := by
      unfold mxe2 at h
      split at h <;> split at h <;> split at h <;> omega
    simp; omega
theorem hb_le {k : Nat} {x : Int} (h : Ev.Hb k x) (hk : k ≤ 10) : -1125899906842624 ≤ x ∧ x ≤ 1125899906842624 := by
  unfold Ev.Hb at h
  have p : (2 : Int) ^ k ≤ 2 ^ 10 := by
    have := Nat.pow_le_pow_right (show 2 > 0 by decide) hk
    exact_mod_cast this
  have e : (2 : Int) ^ 10 = 1024 := by decide
  generalize (2 : Int) ^ k = z at *
  omega
theorem int_div2 (x : Int) : x / 2 ^ 1 = x / 2 := by rw [show (2 : Int) ^ 1 = 2 from rfl]


set_option maxRecDepth 100000 in
set_option maxHeartbeats 4000000 in
theorem evDirection (a b : Int) (ha : Ev.Bd a) (hb : Ev.Bd b) (w : World) (ht : Tc w) :
    Calls Tryd.prog 64 #[.int .i64 a, .int .i64 b] w fun e w' => e = .returned (.tuple #[.int .i64 (Ev.dirv a b).1, .int .i64 (Ev.dirv a b).2]) ∧ Qw w w' := by
  have HT := Lib.hid ht
  clear ht
  have q0 : Hid (Qw w w) := Lib.hid (Qw.refl w)
  by_cases hz : a = 0 ∧ b = 0
  · obtain ⟨rfl, rfl⟩ := hz
    rw [show Ev.dirv 0 0 = (0, 4) from rfl]
    go_enter Tryd.func64, Tryd.ntmps64
    go_wp2_with fail
    go_ret2
    exact ⟨rfl, q0.out⟩
  · rw [show Ev.dirv a b = (Cm.angv (Ev.hal 10 a b).2 (Ev.hal 10 a b).1, 0) from if_neg hz]
    have ba := Ev.hb_ten ha
    have bb := Ev.hb_ten hb
    have hz1 : ((a == 0) = false) ∨ ((a == 0) = true ∧ (b == 0) = false) := by
      rcases Int.decEq a 0 with h | h
      · exact .inl (beq_eq_false_iff_ne.2 h)
      · exact .inr ⟨beq_iff_eq.2 h, beq_eq_false_iff_ne.2 (fun g => hz ⟨h, g⟩)⟩
    obtain ⟨r1, r2, hr⟩ : ∃ r1 r2, Ev.hal 10 a b = (r1, r2) := ⟨_, _, rfl⟩
    rw [hr]
    have CA := Lib.hid (fun w' (q : Qw w w') => co_angle r2 r1 w' (Tc.kept HT.out q))
    clear hz ha hb
    generalize Cm.angv r2 r1 = ag at *
    rcases hz1 with h0 | ⟨h0, h0'⟩
    all_goals
      go_enter Tryd.func64, Tryd.ntmps64
      go_wp2_with fail
      go_loopg [0, 1] 10 (fun g av bv wr => ∃ (k : Nat) (x y : Int), k ≤ 10 ∧ g = k ∧ av = .int .i64 x ∧ bv = .int .i64 y ∧ Ev.Hb k x ∧ Ev.Hb k y ∧ Ev.hal k x y = (r1, r2) ∧ Qw w wr)
      case atStart => exact ⟨10, a, b, Nat.le_refl _, rfl, rfl, rfl, ba, bb, hr, Qw.refl w⟩
      case round =>
        obtain ⟨k, x, y, hk, hgk, rfl, rfl, hx, hy, he, hQ⟩ := hrel
        have q0 := Lib.hid hQ
        obtain ⟨x1, x2⟩ := hb_le hx hk
        obtain ⟨y1, y2⟩ := hb_le hy hk
        have nx : IntKind.i64.wrap (-x) = -x := IntWalk.i64_in _ (by omega)
        have ny : IntKind.i64.wrap (-y) = -y := IntWalk.i64_in _ (by omega)
        obtain ⟨M, hM, rM⟩ := run_max4 Tryd.prog #[3, 3, 3, 3] 3 x y
        cases hbig : Ev.big x y with
        | false =>
          rw [hbig] at hM
          have e := Ev.hal_no (k := k) hbig
          rw [he] at e
          obtain ⟨rfl, rfl⟩ := Prod.mk.inj e
          clear hQ hbig he e hx hy ba bb hr
          go_wp2_with (go_at_call 83; (with_reducible refine (CA.out _ (by repeat (first | exact q0.out | exact Qw.refl _ | refine Qw.al ?_ _ | refine Qw.dr ?_ | refine Qw.dn ?_ _ | refine Qw.sc ?_ (by first | (simp; done) | omega | (have := q0.out.size; first | omega | (simp; omega))) _))).mono ?_); rintro e w' ⟨rfl, q⟩; replace q0 : Hid (Qw w w') := Lib.hid (Qw.trans (by repeat (first | exact q0.out | exact Qw.refl _ | refine Qw.al ?_ _ | refine Qw.dr ?_ | refine Qw.dn ?_ _ | refine Qw.sc ?_ (by first | (simp; done) | omega | (have := q0.out.size; first | omega | (simp; omega))) _)) q); clear q)
          go_ret2
          exact ⟨rfl, q0.out⟩
        | true =>
          rw [hbig] at hM
          cases k with
          | zero => rw [Ev.hb_zero hx hy] at hbig; cases hbig
          | succ k =>
            have e := Ev.hal_yes (k := k) hbig
            rw [he] at e
            have bx := Ev.hb_half hx
            have by' := Ev.hb_half hy
            have s1 : x / 2 ^ 1 = x / 2 := int_div2 x
            have s2 : y / 2 ^ 1 = y / 2 := int_div2 y
            clear hQ hbig he hx hy ba bb hr
            go_wp2_with fail
            go_roundg k
            case measure => omega
            case rel => exact ⟨k, x / 2, y / 2, by omega, rfl, by go_num, by go_num, bx, by', e.symm, q0.out⟩
end Go.Proofs.YtkfipjlknfinpaaDoor
