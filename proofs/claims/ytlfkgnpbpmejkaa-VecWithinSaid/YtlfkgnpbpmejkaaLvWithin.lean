
/- VecWithin: Within reports which vectors are within the limits, for any vector.
   Conditions: none; every input. -/
import Derived.Test.YtlfkgnpbpmejkaaFrameV
import Derived.Test.YtlfkgnpbpmejkaaVmB
import Derived.Test.YtlfkgnpbpmejkaaVrB
import Derived.Test.YtlfkgnpbpmejkaaVmC
import Derived.Deep.RegionHeld3
set_option linter.unusedVariables false
set_option linter.unusedSimpArgs false
namespace Go.Proofs.Ytlfkgnpbpmejkaa
open Go.ChangeShapes Go.WideShapes Go.ChangeAt Go.RowKit

set_option maxRecDepth 100000 in
set_option maxHeartbeats 1000000 in
theorem walk_vecWithin (x : Int) (x1 : -9223372036854775808 ≤ x) (x2 : x ≤ 9223372036854775807) (y : Int) (y1 : -9223372036854775808 ≤ y) (y2 : y ≤ 9223372036854775807) (z : Int) (z1 : -9223372036854775808 ≤ z) (z2 : z ≤ 9223372036854775807) (d : Int) (d1 : -9223372036854775808 ≤ d) (d2 : d ≤ 9223372036854775807) (w : World) : Calls Try.prog 3 #[.agg #[.int .i64 x, .int .i64 y, .int .i64 z], .int .i64 d] w fun e w' => e = .returned (.bool true) ∧ Below w.heap.size w w' := by
  have k0 := fun w => betweenW x (-1048577) 1048577 x1 x2 (by decide) (by decide) (by decide) (by decide) w
  obtain ⟨m01, m02⟩ := btw_bd x (-1048577) 1048577 (by decide)
  generalize -1048577 + x % (1048577 - -1048577 + 1) = m0 at *
  have k1 := fun w => betweenW d (-1048576) 1048576 d1 d2 (by decide) (by decide) (by decide) (by decide) w
  obtain ⟨m11, m12⟩ := btw_bd d (-1048576) 1048576 (by decide)
  generalize -1048576 + d % (1048576 - -1048576 + 1) = m1 at *
  have k2 := fun w => modW z 3 z1 z2 (by decide) (by decide) w
  obtain ⟨m21, m22⟩ : 0 ≤ z % 3 ∧ z % 3 < 3 := by omega
  generalize z % 3 = m2 at *
  have c0 := fun w => vc_within x y z x1 x2 y1 y2 z1 z2 w
  have d0 := fun w => vr_within x y z x1 x2 y1 y2 z1 z2 w
  have c1 := fun w => vc_within m0 m1 m2 (by omega) (by omega) (by omega) (by omega) (by omega) (by omega) w
  have d1 := fun w => vr_within m0 m1 m2 (by omega) (by omega) (by omega) (by omega) (by omega) (by omega) w
  have c2 : ∀ w, Calls Try.prog 17 #[.agg #[.int .i64 1048576, .int .i64 (-1048576), .int .i64 0]] w fun e w' => e = .returned (.bool true) ∧ Qw w w' := fun w => vc_within 1048576 (-1048576) 0 (by decide) (by decide) (by decide) (by decide) (by decide) (by decide) w
  have c3 : ∀ w, Calls Try.prog 17 #[.agg #[.int .i64 0, .int .i64 0, .int .i64 (-1048577)]] w fun e w' => e = .returned (.bool false) ∧ Qw w w' := fun w => vc_within 0 0 (-1048577) (by decide) (by decide) (by decide) (by decide) (by decide) (by decide) w
  generalize wth x y z = r0 at *
  generalize wth m0 m1 m2 = r1 at *
  have aw := fun w => awakeV w
  have K0 := Lib.hid k0
  have K1 := Lib.hid k1
  have K2 := Lib.hid k2
  have C0 := Lib.hid c0
  have D0 := Lib.hid d0
  have C1 := Lib.hid c1
  have D1 := Lib.hid d1
  have C2 := Lib.hid c2
  have C3 := Lib.hid c3
  have AW := Lib.hid aw
  clear k0 k1 k2 c0 d0 c1 d1 c2 c3 aw
  go_enter Try.func3, Try.ntmps3
  go_upto_region 1 with fail
  refine code_of (fun w' => Bx w' w.heap.size #[.int .i64 x, .int .i64 y, .int .i64 z] 23 ∧ Qw w w') ⟨(Bx.new _ _ _), ((Below.refl _ _).alloc (by simp) _)⟩ ?_
  rintro w1 ⟨X, p⟩
  have hlt := X.lt
  go_region_held3 (fun w' => w'.cell? ⟨w.heap.size, 0, none⟩ = some (.int .i64 x) ∧ w'.cell? ⟨w.heap.size, 2, none⟩ = some (.int .i64 z)) (first | exact ⟨X.cell' 0 _ rfl, X.cell' 2 _ rfl⟩ | exact ⟨(X.alloc _).cell' 0 _ rfl, (X.alloc _).cell' 2 _ rfl⟩ | exact ⟨((((X.alloc _).other (by simp; omega) _).other (by simp; omega) _).other (by simp; omega) _).cell' 0 _ rfl, ((((X.alloc _).other (by simp; omega) _).other (by simp; omega) _).other (by simp; omega) _).cell' 2 _ rfl⟩) (first | (go_at_call 14; ((with_reducible refine (K0.out _).mono ?_); rintro e w' ⟨rfl, rfl⟩)) | (go_at_call 14; ((with_reducible refine (K1.out _).mono ?_); rintro e w' ⟨rfl, rfl⟩)) | (go_at_call 15; ((with_reducible refine (K2.out _).mono ?_); rintro e w' ⟨rfl, rfl⟩)))
  all_goals clear hlt
  all_goals
    go_upto_region 2 with fail
    refine code_of (fun w' => Bx w' w.heap.size #[.int .i64 x, .int .i64 y, .int .i64 z] 23 ∧ Bx w' w1.heap.size #[.int .i64 m0, .int .i64 m1, .int .i64 m2] 23 ∧ Qw w w') ⟨(X.alloc _), (Bx.new _ _ _), ((p.alloc p.size _).drew)⟩ ?_
    clear X p
    rintro w2 ⟨X, N, p⟩
    have x_0 := X.kcell 0 (.int .i64 x) rfl
    have x_1 := X.kcell 1 (.int .i64 y) rfl
    have x_2 := X.kcell 2 (.int .i64 z) rfl
    have n_0 := N.kcell 0 (.int .i64 m0) rfl
    have n_1 := N.kcell 1 (.int .i64 m1) rfl
    have n_2 := N.kcell 2 (.int .i64 m2) rfl
    refine region_kept (by kernel_rfl) (by kernel_rfl) ?_
    repeat (go_big_quiet_step (first | (go_at_call 16; with_reducible exact Kept.call (AW.out _)) | (go_at_call 17; with_reducible exact Kept.call (C0.out _)) | (go_at_call 17; with_reducible exact Kept.call (C1.out _)) | (go_at_call 17; with_reducible exact Kept.call (C2.out _)) | (go_at_call 17; with_reducible exact Kept.call (C3.out _)) | (go_at_call 18; with_reducible exact Kept.call (D0.out _)) | (go_at_call 18; with_reducible exact Kept.call (D1.out _))))
    refine wpQuiet_nil ?_
    intro w3 q
    clear x_0 x_1 x_2 n_0 n_1 n_2
    replace X := X.kept q
    replace N := N.kept q
    replace p := p.trans q
    clear q
    go_wp2
    go_ret
    exact ⟨rfl, p⟩

/-! ### the row -/
theorem own_vecWithin : ownKnob Try.prog.godebug = none := by kernel_rfl
set_option maxRecDepth 100000 in
theorem lifted_vecWithin (os : Os) (started : os.Started) (H : Type) (enc : TypeId × Value → H) :
    ReturnsInHanded {} Try.checked os 3 .any (Rows.vecWithinSpec.pre6 enc Try.prog Try.f3 Rows.vecWithinRow.domain false) (Rows.vecWithinSpec.post enc Try.prog Try.f3 false true false false) := by
  refine returnsInHanded_of_change (C := Try.checked) own_vecWithin started (by kernel_rfl) Try.func3
    (ChangeSpec.witness6 (enc := enc) (C := Try.checked) false ⟨#[], #[.agg #[.int .i64 0, .int .i64 0, .int .i64 0], .int .i64 0], []⟩ 8 (by kernel_rfl) (by kernel_rfl) (by kernel_rfl) (by kernel_rfl)) ?_
  intro W base args ds gs before hval0 hW hcnd _
  have hval : ∀ (j : Nat) t v, Try.f3.params[j]? = some t → args[j]? = some v → Value.okWide Try.prog W .any base t v := hval0
  have hW' := hW
  obtain ⟨p, q, hA0, hV, rfl, hfz, hnd⟩ := hW
  have hA : DataW.TrodAll enc Try.prog W 0 (fun _ => true) true Try.f3.params.toList args.toList ds p := hA0
  rw [Try.params3] at hA hval
  obtain ⟨v0, vs0, d0, ds0, p0, q0, hargs, rfl, rfl, h0, r0⟩ := trodAll_cons hA
  obtain ⟨v1, vs1, d1, ds1, p1, q1, rfl, rfl, rfl, h1, r1⟩ := trodAll_cons r0
  obtain ⟨rfl, rfl, rfl⟩ := trodAll_nil r1
  obtain rfl : args = #[v0, v1] := by cases args; simp_all
  obtain ⟨rfl, rfl⟩ := trodVars_none hV
  obtain ⟨a0_0, a0_1, a0_2, rfl, rfl, rfl, w0_0, w0_1, w0_2⟩ := open_vec (hval 0 23 v0 rfl rfl) h0
  obtain ⟨x0_0, y0_0⟩ := i64_of_wf w0_0
  obtain ⟨x0_1, y0_1⟩ := i64_of_wf w0_1
  obtain ⟨x0_2, y0_2⟩ := i64_of_wf w0_2
  obtain ⟨a1_0, rfl, rfl, rfl, w1_0⟩ := open_int Try.underlying3 (hval 1 3 v1 rfl rfl) h1
  obtain ⟨x1_0, y1_0⟩ := i64_of_wf w1_0
  clear hA0 hval0
  simp only [List.append_nil] at hW'
  refine (walk_vecWithin a0_0 x0_0 y0_0 a0_1 x0_1 y0_1 a0_2 x0_2 y0_2 a1_0 x1_0 y1_0 W).mono fun e W' ⟨he, bel⟩ => ?_
  subst he
  exact ⟨_, rfl, _, _, _, [], _, [], hW', trodAll_mk1 (shut_bool Try.underlying4 _), (trodAll_cons_mk (shut_vec w0_0 w0_1 w0_2) (trodAll_cons_mk (shut_int Try.underlying3 w1_0) trodAll_mk0)), rfl, Below.frame bel _, fun h => by cases h⟩

/-- The statement. -/
theorem vecWithin_holds : Rows.VecWithinSaid :=
  OpenClaim.holds_of_wide 3 Try.f3 rfl rfl rfl rfl rfl rfl rfl ⟨rfl, rfl, rfl, rfl, rfl⟩ rfl rfl rfl rfl rfl (by kernel_rfl) Try.func3 (by kernel_rfl)
    (of_decide_eq_true (by kernel_rfl)) (by unfold Func.isWrapper; first | (rw [if_pos (by decide +kernel)]; kernel_rfl) | (rw [if_neg (by decide +kernel)]; exact ⟨rfl, rfl⟩))
    (fun os started H enc _ => lifted_vecWithin os started H enc)

end Go.Proofs.Ytlfkgnpbpmejkaa
