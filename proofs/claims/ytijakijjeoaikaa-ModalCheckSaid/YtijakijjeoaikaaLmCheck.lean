
/- ModalCheck: Check accepts the blocks that the specification accepts, and gives its error for the others.
   Conditions: none; every input. -/
import Derived.Test.YtijakijjeoaikaaRows
import Derived.Test.YtijakijjeoaikaaFrameM
import Derived.Test.YtijakijjeoaikaaMaA
import Derived.Test.YtijakijjeoaikaaMrC
import Derived.Test.YtijakijjeoaikaaMvE
set_option linter.unusedVariables false
set_option linter.unusedSimpArgs false
namespace Go.Proofs.Ytijakijjeoaikaa
open Go.ChangeShapes Go.WideShapes Go.ChangeAt Go.RowKit

theorem qw_app {w w1 w2 : World} {B : Nat} {v : Value} {l : Vs.Ar} (q : Qw w w1) (g : w1.grownBy w2 v.ownBlock) (o : OwnM B w1 v l) (hB : w.heap.size ≤ B) : Qw w w2 :=
  ⟨g.os.trans q.os, g.tape.trans q.tape, g.output.trans q.output, Nat.le_trans q.size g.size, fun k hk => (g.block k (by have := q.size; omega) (fun e => by have := (o.lt e.symm).1; omega)).trans (q.block k hk)⟩
set_option maxRecDepth 100000 in
set_option maxHeartbeats 4000000 in
theorem walk_modalCheck (v0 : Value) (u0 : Vs.Ar) (v1 : Value) (u1 : List Int) (w : World) (hu0 : ValsB w.heap.size w v0 u0) (hu1 : IntsB w.heap.size w v1 u1) : Calls Try.prog 5 #[v0, v1] w fun e w' => e = .returned (.bool true) ∧ Below w.heap.size w w' := by
  have fw := fewM hu0
  have li := lightF v1 u1 _ w hu1
  have NW := Lib.hid (newF v1 u1 w hu1)
  have HU := Lib.hid hu0
  have HW := Lib.hid hu0.wdd
  have CK := Lib.hid (fun w' (q : Qw w w') => mdCheck (hu0.kept q (Nat.le_refl _)) q.size)
  have CR := Lib.hid (fun w' (q : Qw w w') => mrCheck (hu0.kept q (Nat.le_refl _)) q.size)
  have q0 : Hid (Qw w w) := Lib.hid (Qw.refl w)
  by_cases hf : u0.length ≤ 40
  · rw [decide_eq_true hf] at fw
    by_cases hl : u1.length ≤ 120
    · rw [decide_eq_true hl] at li
      have FW := Lib.hid fw
      have LI := Lib.hid li
      have hf' := Lib.hid hf
      clear fw li hl hu0 hu1 hf
      go_enter Try.func5, Try.ntmps5
      go_wp2_with (first | (go_at_call 13; ((with_reducible refine (FW.out).mono ?_); rintro e w' ⟨rfl, rfl⟩)) | (go_at_call 14; ((with_reducible refine (LI.out).mono ?_); rintro e w' ⟨rfl, rfl⟩)) | (go_at_call 17; ((with_reducible refine (NW.out).mono ?_); rintro e w1 ⟨rfl, t1, q1⟩; have T1 := Lib.hid t1; have Q1 := Lib.hid q1; clear t1 q1)) | (go_at_call 16; ((with_reducible refine (valsX T1.out Q1.out (Qw.refl _) (tape_lt T1.out)).mono ?_); rintro e w2 ⟨⟨B, sv, l, rfl, o, b1, b2, n, ll⟩, q2⟩; have O2 := Lib.hid o; have N2 := Lib.hid n; have Q2 := Lib.hid q2; clear o n q2 T1 Q1)) | (go_at_call 15; ((with_reducible refine (awakeM _).mono ?_); rintro e w3 ⟨rfl, q⟩; have Q3 := Lib.hid (Qw.trans Q2.out q); have O3 := Lib.hid (O2.out.go (fun g _ hg => q.block g hg)); have b3 : B ≤ w3.heap.size := Nat.le_trans b2 q.size; clear q)) | (go_at_call 27; (first | ((with_reducible refine (CK.out _ Q3.out).mono ?_); rintro e w4 ⟨rfl, q⟩; have Q4 := Lib.hid (Qw.trans Q3.out q); have O4 := Lib.hid (O3.out.go (fun g _ hg => q.block g hg)); have b4 : B ≤ w4.heap.size := Nat.le_trans b3 q.size; clear q) | ((with_reducible refine (mdCheck (O8.out.valsW (N2.out.wdd.app HW.out)) (Nat.le_refl _)).mono ?_); rintro e w9 ⟨rfl, q⟩; have Q9 := Lib.hid (Qw.trans Q8.out q); have O9 := Lib.hid (K8.out.go (fun g _ hg => q.block g hg)); have b9 : B ≤ w9.heap.size := Nat.le_trans b8 q.size; obtain ⟨v10, w10, hr10, o10, g10, _⟩ := app_vals 22 O9.out (HU.out.kept Q9.out (Nat.le_refl _)) (by have := hf'.out; omega) b9; have R10 := Lib.hid hr10; have O10 := Lib.hid o10; have Q10 := Lib.hid (qw_app Q9.out g10 O9.out (Nat.le_of_lt b1)); clear q hr10 o10 g10) | ((with_reducible refine (mdCheck (O5.out.vals N2.out) (Nat.le_refl _)).mono ?_); rintro e w6 ⟨rfl, q⟩; have Q6 := Lib.hid (Qw.trans Q5.out q); have O6 := Lib.hid (O5.out.go (fun g _ hg => q.block g hg)); have b6 : B ≤ w6.heap.size := Nat.le_trans b5 q.size; clear q))) | (go_at_call 28; (first | ((with_reducible refine (CR.out _ Q4.out).mono ?_); rintro e w5 ⟨rfl, q⟩; have Q5 := Lib.hid (Qw.trans Q4.out q); have O5 := Lib.hid (O4.out.go (fun g _ hg => q.block g hg)); have b5 : B ≤ w5.heap.size := Nat.le_trans b4 q.size; clear q) | ((with_reducible refine (mrCheck (O10.out.valsW (N2.out.wdd.app HW.out)) (Nat.le_refl _)).mono ?_); rintro e w11 ⟨rfl, q⟩; have Q11 := Lib.hid (Qw.trans Q10.out q); clear q) | ((with_reducible refine (mrCheck (O6.out.vals N2.out) (Nat.le_refl _)).mono ?_); rintro e w7 ⟨rfl, q⟩; have Q7 := Lib.hid (Qw.trans Q6.out q); have O7 := Lib.hid (O6.out.go (fun g _ hg => q.block g hg)); have b7 : B ≤ w7.heap.size := Nat.le_trans b6 q.size; obtain ⟨v8, w8, hr8, o8, g8, _⟩ := app_vals 22 O7.out (HU.out.kept Q7.out (Nat.le_refl _)) (by have := hf'.out; omega) b7; have R8 := Lib.hid hr8; have O8 := Lib.hid o8; have K8 := Lib.hid (app_keep 22 O7.out (HU.out.kept Q7.out (Nat.le_refl _)) (by have := hf'.out; omega) hr8 o8); have Q8 := Lib.hid (qw_app Q7.out g8 O7.out (Nat.le_of_lt b1)); have b8 : B ≤ w8.heap.size := Nat.le_trans b7 g8.size; clear q hr8 o8 g8))) | (refine gd_append 34 35 rfl rfl rfl R8.out ?_; clear R8) | (refine gd_append 38 39 rfl rfl rfl R10.out ?_; clear R10))
      go_ret
      exact ⟨rfl, Q11.out⟩
    · rw [decide_eq_false hl] at li
      have FW := Lib.hid fw
      have LI := Lib.hid li
      clear fw li hl hu0 hu1 hf NW
      go_enter Try.func5, Try.ntmps5
      go_wp2_with (first | (go_at_call 13; ((with_reducible refine (FW.out).mono ?_); rintro e w' ⟨rfl, rfl⟩)) | (go_at_call 14; ((with_reducible refine (LI.out).mono ?_); rintro e w' ⟨rfl, rfl⟩)) | (go_at_call 15; ((with_reducible refine (awakeM _).mono ?_); rintro e w' ⟨rfl, q⟩; replace q0 : Hid (Qw w w') := Lib.hid (Qw.trans q0.out q); clear q)))
      go_ret
      exact ⟨rfl, q0.out⟩
  · rw [decide_eq_false hf] at fw
    have FW := Lib.hid fw
    clear fw li hu0 hu1 hf NW
    go_enter Try.func5, Try.ntmps5
    go_wp2_with (first | (go_at_call 13; ((with_reducible refine (FW.out).mono ?_); rintro e w' ⟨rfl, rfl⟩)) | (go_at_call 15; ((with_reducible refine (awakeM _).mono ?_); rintro e w' ⟨rfl, q⟩; replace q0 : Hid (Qw w w') := Lib.hid (Qw.trans q0.out q); clear q)))
    go_ret
    exact ⟨rfl, q0.out⟩

/-! ### the row -/
theorem own_modalCheck : ownKnob Try.prog.godebug = none := by kernel_rfl
set_option maxRecDepth 100000 in
theorem lifted_modalCheck (os : Os) (started : os.Started) (H : Type) (enc : TypeId × Value → H) :
    ReturnsInHanded {} Try.checked os 5 .any (Rows.modalCheckSpec.pre6 enc Try.prog Try.f5 Rows.modalCheckRow.domain false) (Rows.modalCheckSpec.post enc Try.prog Try.f5 false true false false) := by
  refine returnsInHanded_of_change (C := Try.checked) own_modalCheck started (by kernel_rfl) Try.func5
    (ChangeSpec.witness6 (enc := enc) (C := Try.checked) false ⟨#[], #[.slice none 0 0, .slice none 0 0], []⟩ 8 (by kernel_rfl) (by kernel_rfl) (by kernel_rfl) (by kernel_rfl)) ?_
  intro W base args ds gs before hval0 hW hcnd _
  have hval : ∀ (j : Nat) t v, Try.f5.params[j]? = some t → args[j]? = some v → Value.okWide Try.prog W .any base t v := hval0
  have hW' := hW
  obtain ⟨p, q, hA0, hV, rfl, hfz, hnd⟩ := hW
  have hA : DataW.TrodAll enc Try.prog W 0 (fun _ => true) true Try.f5.params.toList args.toList ds p := hA0
  rw [Try.params5] at hA hval
  obtain ⟨v0, vs0, d0, ds0, p0, q0, hargs, rfl, rfl, h0, r0⟩ := trodAll_cons hA
  obtain ⟨v1, vs1, d1, ds1, p1, q1, rfl, rfl, rfl, h1, r1⟩ := trodAll_cons r0
  obtain ⟨rfl, rfl, rfl⟩ := trodAll_nil r1
  obtain rfl : args = #[v0, v1] := by cases args; simp_all
  obtain ⟨rfl, rfl⟩ := trodVars_none hV
  obtain ⟨u0, hu0⟩ := inM_vals (hval 0 22 v0 rfl rfl) h0
  obtain ⟨u1, hu1⟩ := inM_ints (hval 1 23 v1 rfl rfl) h1
  clear hA0 hval0
  simp only [List.append_nil] at hW'
  refine (walk_modalCheck v0 u0 v1 u1 W hu0 hu1).mono fun e W' ⟨he, bel⟩ => ?_
  subst he
  exact ⟨_, rfl, _, _, _, [], _, [], hW', trodAll_mk1 (shut_bool Try.underlying4 _), (trodAll_cons_mk (outM_vals h0 bel (fun x hx => hW'.lt x (by first | exact hx | simp [hx]))) (trodAll_cons_mk (outM_ints h1 bel (fun x hx => hW'.lt x (by first | exact hx | simp [hx]))) trodAll_mk0)), rfl, Below.frame bel _, fun h => by cases h⟩

/-- The statement. -/
theorem modalCheck_holds : Rows.ModalCheckSaid :=
  OpenClaim.holds_of_wide 5 Try.f5 rfl rfl rfl rfl rfl rfl rfl ⟨rfl, rfl, rfl, rfl, rfl⟩ rfl rfl rfl rfl rfl (by kernel_rfl) Try.func5 (by kernel_rfl)
    (of_decide_eq_true (by kernel_rfl)) (by unfold Func.isWrapper; first | (rw [if_pos (by decide +kernel)]; kernel_rfl) | (rw [if_neg (by decide +kernel)]; exact ⟨rfl, rfl⟩))
    (fun os started H enc _ => lifted_modalCheck os started H enc)

end Go.Proofs.Ytijakijjeoaikaa
