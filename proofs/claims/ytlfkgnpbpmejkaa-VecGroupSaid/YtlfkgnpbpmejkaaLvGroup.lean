
/- VecGroup: sums commute, associate and can be undone.
   Conditions: none; every input. -/
import Derived.Test.YtlfkgnpbpmejkaaFrameV
import Derived.Test.YtlfkgnpbpmejkaaVmB
import Derived.Test.YtlfkgnpbpmejkaaVrB
import Derived.Test.YtlfkgnpbpmejkaaVmC
set_option linter.unusedVariables false
set_option linter.unusedSimpArgs false
namespace Go.Proofs.Ytlfkgnpbpmejkaa
open Go.ChangeShapes Go.WideShapes Go.ChangeAt Go.RowKit

set_option maxRecDepth 100000 in
set_option maxHeartbeats 1000000 in
theorem walk_vecGroup (x : Int) (x1 : -9223372036854775808 ≤ x) (x2 : x ≤ 9223372036854775807) (y : Int) (y1 : -9223372036854775808 ≤ y) (y2 : y ≤ 9223372036854775807) (z : Int) (z1 : -9223372036854775808 ≤ z) (z2 : z ≤ 9223372036854775807) (a : Int) (a1 : -9223372036854775808 ≤ a) (a2 : a ≤ 9223372036854775807) (b : Int) (b1 : -9223372036854775808 ≤ b) (b2 : b ≤ 9223372036854775807) (c : Int) (c1 : -9223372036854775808 ≤ c) (c2 : c ≤ 9223372036854775807) (r : Int) (r1 : -9223372036854775808 ≤ r) (r2 : r ≤ 9223372036854775807) (s : Int) (s1 : -9223372036854775808 ≤ s) (s2 : s ≤ 9223372036854775807) (t : Int) (t1 : -9223372036854775808 ≤ t) (t2 : t ≤ 9223372036854775807) (w : World) : Calls Try.prog 9 #[.agg #[.int .i64 x, .int .i64 y, .int .i64 z], .agg #[.int .i64 a, .int .i64 b, .int .i64 c], .agg #[.int .i64 r, .int .i64 s, .int .i64 t]] w fun e w' => e = .returned (.bool true) ∧ Below w.heap.size w w' := by
  have k0 := fun w => vectorW x y z x1 x2 y1 y2 z1 z2 w
  have k1 := fun w => vectorW a b c a1 a2 b1 b2 c1 c2 w
  have k2 := fun w => vectorW r s t r1 r2 s1 s2 t1 t2 w
  obtain ⟨m01, m02⟩ := sm_bd x
  generalize sm x = m0 at *
  obtain ⟨m11, m12⟩ := sm_bd y
  generalize sm y = m1 at *
  obtain ⟨m21, m22⟩ := sm_bd z
  generalize sm z = m2 at *
  obtain ⟨m31, m32⟩ := sm_bd a
  generalize sm a = m3 at *
  obtain ⟨m41, m42⟩ := sm_bd b
  generalize sm b = m4 at *
  obtain ⟨m51, m52⟩ := sm_bd c
  generalize sm c = m5 at *
  obtain ⟨m61, m62⟩ := sm_bd r
  generalize sm r = m6 at *
  obtain ⟨m71, m72⟩ := sm_bd s
  generalize sm s = m7 at *
  obtain ⟨m81, m82⟩ := sm_bd t
  generalize sm t = m8 at *
  have c0 := fun w => vc_add m0 m1 m2 m3 m4 m5 m01 m02 m11 m12 m21 m22 m31 m32 m41 m42 m51 m52 w
  have c1 := fun w => vc_sub m0 m1 m2 m3 m4 m5 m01 m02 m11 m12 m21 m22 m31 m32 m41 m42 m51 m52 w
  have c2 := fun w => vc_add m3 m4 m5 m0 m1 m2 m31 m32 m41 m42 m51 m52 m01 m02 m11 m12 m21 m22 w
  have c3 := fun w => vc_sub m0 m1 m2 m0 m1 m2 m01 m02 m11 m12 m21 m22 m01 m02 m11 m12 m21 m22 w
  have c4 := fun w => vc_dot m0 m1 m2 m6 m7 m8 m01 m02 m11 m12 m21 m22 m61 m62 m71 m72 m81 m82 w
  have c5 := fun w => vc_dot m3 m4 m5 m6 m7 m8 m31 m32 m41 m42 m51 m52 m61 m62 m71 m72 m81 m82 w
  rw [Int.add_comm m3 m0, Int.add_comm m4 m1, Int.add_comm m5 m2] at c2
  rw [Int.sub_self, Int.sub_self, Int.sub_self] at c3
  obtain ⟨p01, p02⟩ := sq_bd m01 m02 m61 m62
  obtain ⟨p11, p12⟩ := sq_bd m11 m12 m71 m72
  obtain ⟨p21, p22⟩ := sq_bd m21 m22 m81 m82
  obtain ⟨p31, p32⟩ := sq_bd m31 m32 m61 m62
  obtain ⟨p41, p42⟩ := sq_bd m41 m42 m71 m72
  obtain ⟨p51, p52⟩ := sq_bd m51 m52 m81 m82
  have g0 := Int.add_mul m0 m3 m6
  have g1 := Int.add_mul m1 m4 m7
  have g2 := Int.add_mul m2 m5 m8
  have E1 : -52776558133248 ≤ m0 * m6 + m1 * m7 + m2 * m8 := by omega
  have E2 : m0 * m6 + m1 * m7 + m2 * m8 ≤ 52776558133248 := by omega
  have F1 : -52776558133248 ≤ m3 * m6 + m4 * m7 + m5 * m8 := by omega
  have F2 : m3 * m6 + m4 * m7 + m5 * m8 ≤ 52776558133248 := by omega
  obtain ⟨U0, e0⟩ : ∃ k, (m0 + m3) * m6 = k := ⟨_, rfl⟩
  rw [e0] at g0
  have U01 : -35184372088832 ≤ U0 := by omega
  have U02 : U0 ≤ 35184372088832 := by omega
  obtain ⟨U1, e1⟩ : ∃ k, (m1 + m4) * m7 = k := ⟨_, rfl⟩
  rw [e1] at g1
  have U11 : -35184372088832 ≤ U1 := by omega
  have U12 : U1 ≤ 35184372088832 := by omega
  obtain ⟨U2, e2⟩ : ∃ k, (m2 + m5) * m8 = k := ⟨_, rfl⟩
  rw [e2] at g2
  have U21 : -35184372088832 ≤ U2 := by omega
  have U22 : U2 ≤ 35184372088832 := by omega
  have eg : (m0 * m6 + m1 * m7 + m2 * m8) + (m3 * m6 + m4 * m7 + m5 * m8) = U0 + U1 + U2 := by omega
  clear g0 g1 g2 p01 p02 p11 p12 p21 p22 p31 p32 p41 p42 p51 p52
  generalize m0 * m6 + m1 * m7 + m2 * m8 = E at *
  generalize m3 * m6 + m4 * m7 + m5 * m8 = G at *
  have aw := fun w => awakeV w
  have K0 := Lib.hid k0
  have K1 := Lib.hid k1
  have K2 := Lib.hid k2
  have C0 := Lib.hid c0
  have C1 := Lib.hid c1
  have C2 := Lib.hid c2
  have C3 := Lib.hid c3
  have C4 := Lib.hid c4
  have C5 := Lib.hid c5
  have AW := Lib.hid aw
  clear k0 k1 k2 c0 c1 c2 c3 c4 c5 aw
  go_enter Try.func9, Try.ntmps9
  go_upto_region 1 with fail
  refine code_of (fun w' => Bx w' w.heap.size #[.int .i64 x, .int .i64 y, .int .i64 z] 23 ∧ Bx w' (w.heap.size + 1) #[.int .i64 a, .int .i64 b, .int .i64 c] 23 ∧ Bx w' (w.heap.size + 1 + 1) #[.int .i64 r, .int .i64 s, .int .i64 t] 23 ∧ Qw w w') ⟨(((Bx.new _ _ _).alloc _).alloc _), (by have := ((Bx.new (World.alloc w (.cells #[.int .i64 x, .int .i64 y, .int .i64 z] 23)) #[.int .i64 a, .int .i64 b, .int .i64 c] 23).alloc (.cells #[.int .i64 r, .int .i64 s, .int .i64 t] 23)); simpa using this), (by have := (Bx.new (World.alloc (World.alloc w (.cells #[.int .i64 x, .int .i64 y, .int .i64 z] 23)) (.cells #[.int .i64 a, .int .i64 b, .int .i64 c] 23)) #[.int .i64 r, .int .i64 s, .int .i64 t] 23); simpa using this), ((((Below.refl _ _).alloc (by simp) _).alloc (by simp) _).alloc (by simp; omega) _)⟩ ?_
  rintro w1 ⟨X, Y, Z, p⟩
  have x_0 := X.kcell 0 (.int .i64 x) rfl
  have x_1 := X.kcell 1 (.int .i64 y) rfl
  have x_2 := X.kcell 2 (.int .i64 z) rfl
  have y_0 := Y.kcell 0 (.int .i64 a) rfl
  have y_1 := Y.kcell 1 (.int .i64 b) rfl
  have y_2 := Y.kcell 2 (.int .i64 c) rfl
  have z_0 := Z.kcell 0 (.int .i64 r) rfl
  have z_1 := Z.kcell 1 (.int .i64 s) rfl
  have z_2 := Z.kcell 2 (.int .i64 t) rfl
  refine region_kept_tail 6 (by kernel_rfl) (by kernel_rfl) ?_
  simp only [List.take_succ_cons, List.take_zero, List.drop_succ_cons, List.drop_zero]
  repeat (go_big_quiet_step (first | (go_at_call 19; with_reducible exact Kept.call (K0.out _)) | (go_at_call 19; with_reducible exact Kept.call (K1.out _)) | (go_at_call 19; with_reducible exact Kept.call (K2.out _))))
  refine wpQuiet_nil ?_
  intro w2 q
  clear x_0 x_1 x_2 y_0 y_1 y_2 z_0 z_1 z_2
  replace X := X.kept q
  replace Y := Y.kept q
  replace Z := Z.kept q
  replace p := p.trans q
  clear q
  have x_0 := X.cell' 0 (.int .i64 x) rfl
  have x_f0 := X.free 0
  have x_1 := X.cell' 1 (.int .i64 y) rfl
  have x_f1 := X.free 1
  have x_2 := X.cell' 2 (.int .i64 z) rfl
  have x_f2 := X.free 2
  have y_0 := Y.cell' 0 (.int .i64 a) rfl
  have y_f0 := Y.free 0
  have y_1 := Y.cell' 1 (.int .i64 b) rfl
  have y_f1 := Y.free 1
  have y_2 := Y.cell' 2 (.int .i64 c) rfl
  have y_f2 := Y.free 2
  have z_0 := Z.cell' 0 (.int .i64 r) rfl
  have z_f0 := Z.free 0
  have z_1 := Z.cell' 1 (.int .i64 s) rfl
  have z_f1 := Z.free 1
  have z_2 := Z.cell' 2 (.int .i64 t) rfl
  have z_f2 := Z.free 2
  go_upto_region 2 with fail
  clear x_0 x_f0 x_1 x_f1 x_2 x_f2 y_0 y_f0 y_1 y_f1 y_2 y_f2 z_0 z_f0 z_1 z_f1 z_2 z_f2
  refine code_of (fun w' => Bx w' w.heap.size #[.int .i64 m0, .int .i64 m1, .int .i64 m2] 23 ∧ Bx w' (w.heap.size + 1) #[.int .i64 m3, .int .i64 m4, .int .i64 m5] 23 ∧ Bx w' (w.heap.size + 1 + 1) #[.int .i64 m6, .int .i64 m7, .int .i64 m8] 23 ∧ Qw w w') ⟨(((((((((X.set 0 _).set 1 _).set 2 _).other (by first | (simp; done) | (simp; omega)) _).other (by first | (simp; done) | (simp; omega)) _).other (by first | (simp; done) | (simp; omega)) _).other (by first | (simp; done) | (simp; omega)) _).other (by first | (simp; done) | (simp; omega)) _).other (by first | (simp; done) | (simp; omega)) _), (((((((((Y.other (by first | (simp; done) | (simp; omega)) _).other (by first | (simp; done) | (simp; omega)) _).other (by first | (simp; done) | (simp; omega)) _).set 0 _).set 1 _).set 2 _).other (by first | (simp; done) | (simp; omega)) _).other (by first | (simp; done) | (simp; omega)) _).other (by first | (simp; done) | (simp; omega)) _), (((((((((Z.other (by first | (simp; done) | (simp; omega)) _).other (by first | (simp; done) | (simp; omega)) _).other (by first | (simp; done) | (simp; omega)) _).other (by first | (simp; done) | (simp; omega)) _).other (by first | (simp; done) | (simp; omega)) _).other (by first | (simp; done) | (simp; omega)) _).set 0 _).set 1 _).set 2 _), (((((((((p.setCell (by first | (simp; done) | (simp; omega)) _).setCell (by first | (simp; done) | (simp; omega)) _).setCell (by first | (simp; done) | (simp; omega)) _).setCell (by first | (simp; done) | (simp; omega)) _).setCell (by first | (simp; done) | (simp; omega)) _).setCell (by first | (simp; done) | (simp; omega)) _).setCell (by first | (simp; done) | (simp; omega)) _).setCell (by first | (simp; done) | (simp; omega)) _).setCell (by first | (simp; done) | (simp; omega)) _)⟩ ?_
  clear X Y Z p
  rintro w3 ⟨X, Y, Z, p⟩
  have x_0 := X.cell' 0 (.int .i64 m0) rfl
  have x_1 := X.cell' 1 (.int .i64 m1) rfl
  have x_2 := X.cell' 2 (.int .i64 m2) rfl
  have y_0 := Y.cell' 0 (.int .i64 m3) rfl
  have y_1 := Y.cell' 1 (.int .i64 m4) rfl
  have y_2 := Y.cell' 2 (.int .i64 m5) rfl
  have z_0 := Z.cell' 0 (.int .i64 m6) rfl
  have z_1 := Z.cell' 1 (.int .i64 m7) rfl
  have z_2 := Z.cell' 2 (.int .i64 m8) rfl
  go_wp2_with fail
  refine (C0.out _).mono ?_
  rintro e w4 ⟨rfl, q⟩
  clear x_0 x_1 x_2 y_0 y_1 y_2 z_0 z_1 z_2
  replace X := X.kept q
  replace Y := Y.kept q
  replace Z := Z.kept q
  replace p := p.trans q
  clear q
  go_upto_region 3 with fail
  refine code_of (fun w' => Bx w' w.heap.size #[.int .i64 m0, .int .i64 m1, .int .i64 m2] 23 ∧ Bx w' (w.heap.size + 1) #[.int .i64 m3, .int .i64 m4, .int .i64 m5] 23 ∧ Bx w' (w.heap.size + 1 + 1) #[.int .i64 m6, .int .i64 m7, .int .i64 m8] 23 ∧ Bx w' w4.heap.size #[.int .i64 (m0 + m3), .int .i64 (m1 + m4), .int .i64 (m2 + m5)] 23 ∧ Qw w w') ⟨(X.alloc _), (Y.alloc _), (Z.alloc _), (Bx.new _ _ _), (p.alloc p.size _)⟩ ?_
  clear X Y Z p
  rintro w5 ⟨X, Y, Z, S, p⟩
  have x_0 := X.cell' 0 (.int .i64 m0) rfl
  have x_1 := X.cell' 1 (.int .i64 m1) rfl
  have x_2 := X.cell' 2 (.int .i64 m2) rfl
  have y_0 := Y.cell' 0 (.int .i64 m3) rfl
  have y_1 := Y.cell' 1 (.int .i64 m4) rfl
  have y_2 := Y.cell' 2 (.int .i64 m5) rfl
  have z_0 := Z.cell' 0 (.int .i64 m6) rfl
  have z_1 := Z.cell' 1 (.int .i64 m7) rfl
  have z_2 := Z.cell' 2 (.int .i64 m8) rfl
  have s_0 := S.cell' 0 (.int .i64 (m0 + m3)) rfl
  have s_1 := S.cell' 1 (.int .i64 (m1 + m4)) rfl
  have s_2 := S.cell' 2 (.int .i64 (m2 + m5)) rfl
  go_wp2_with fail
  refine (C1.out _).mono ?_
  rintro e w6 ⟨rfl, q⟩
  clear x_0 x_1 x_2 y_0 y_1 y_2 z_0 z_1 z_2 s_0 s_1 s_2
  replace X := X.kept q
  replace Y := Y.kept q
  replace Z := Z.kept q
  replace S := S.kept q
  replace p := p.trans q
  clear q
  go_upto_region 4 with fail
  refine code_of (fun w' => Bx w' w.heap.size #[.int .i64 m0, .int .i64 m1, .int .i64 m2] 23 ∧ Bx w' (w.heap.size + 1) #[.int .i64 m3, .int .i64 m4, .int .i64 m5] 23 ∧ Bx w' (w.heap.size + 1 + 1) #[.int .i64 m6, .int .i64 m7, .int .i64 m8] 23 ∧ Bx w' w4.heap.size #[.int .i64 (m0 + m3), .int .i64 (m1 + m4), .int .i64 (m2 + m5)] 23 ∧ Bx w' w6.heap.size #[.int .i64 (m0 - m3), .int .i64 (m1 - m4), .int .i64 (m2 - m5)] 23 ∧ Qw w w') ⟨(X.alloc _), (Y.alloc _), (Z.alloc _), (S.alloc _), (Bx.new _ _ _), (p.alloc p.size _)⟩ ?_
  clear X Y Z S p
  rintro w7 ⟨X, Y, Z, S, D, p⟩
  have x_0 := X.kcell 0 (.int .i64 m0) rfl
  have x_1 := X.kcell 1 (.int .i64 m1) rfl
  have x_2 := X.kcell 2 (.int .i64 m2) rfl
  have y_0 := Y.kcell 0 (.int .i64 m3) rfl
  have y_1 := Y.kcell 1 (.int .i64 m4) rfl
  have y_2 := Y.kcell 2 (.int .i64 m5) rfl
  have z_0 := Z.kcell 0 (.int .i64 m6) rfl
  have z_1 := Z.kcell 1 (.int .i64 m7) rfl
  have z_2 := Z.kcell 2 (.int .i64 m8) rfl
  have s_0 := S.kcell 0 (.int .i64 (m0 + m3)) rfl
  have s_1 := S.kcell 1 (.int .i64 (m1 + m4)) rfl
  have s_2 := S.kcell 2 (.int .i64 (m2 + m5)) rfl
  have d_0 := D.kcell 0 (.int .i64 (m0 - m3)) rfl
  have d_1 := D.kcell 1 (.int .i64 (m1 - m4)) rfl
  have d_2 := D.kcell 2 (.int .i64 (m2 - m5)) rfl
  simp only [List.append_eq, List.cons_append, List.nil_append]
  refine region_kept_fast (by kernel_rfl) (by as_aux_lemma => kernel_rfl) ?_
  repeat (go_big_quiet_step (first | (go_at_call 16; with_reducible exact Kept.call (AW.out _)) | (go_at_call 20; with_reducible exact Kept.call (C2.out _)) | (go_at_call 22; with_reducible exact Kept.call (C3.out _)) | (go_at_call 24; with_reducible exact Kept.call (C4.out _)) | (go_at_call 24; with_reducible exact Kept.call (C5.out _))))
  refine wpQuiet_nil ?_
  intro w8 q
  clear x_0 x_1 x_2 y_0 y_1 y_2 z_0 z_1 z_2 s_0 s_1 s_2 d_0 d_1 d_2
  replace X := X.kept q
  replace Y := Y.kept q
  replace Z := Z.kept q
  replace S := S.kept q
  replace D := D.kept q
  replace p := p.trans q
  clear q
  go_wp2
  go_ret
  exact ⟨rfl, p⟩

/-! ### the row -/
theorem own_vecGroup : ownKnob Try.prog.godebug = none := by kernel_rfl
set_option maxRecDepth 100000 in
theorem lifted_vecGroup (os : Os) (started : os.Started) (H : Type) (enc : TypeId × Value → H) :
    ReturnsInHanded {} Try.checked os 9 .any (Rows.vecGroupSpec.pre6 enc Try.prog Try.f9 Rows.vecGroupRow.domain false) (Rows.vecGroupSpec.post enc Try.prog Try.f9 false true false false) := by
  refine returnsInHanded_of_change (C := Try.checked) own_vecGroup started (by kernel_rfl) Try.func9
    (ChangeSpec.witness6 (enc := enc) (C := Try.checked) false ⟨#[], #[.agg #[.int .i64 0, .int .i64 0, .int .i64 0], .agg #[.int .i64 0, .int .i64 0, .int .i64 0], .agg #[.int .i64 0, .int .i64 0, .int .i64 0]], []⟩ 8 (by kernel_rfl) (by kernel_rfl) (by kernel_rfl) (by kernel_rfl)) ?_
  intro W base args ds gs before hval0 hW hcnd _
  have hval : ∀ (j : Nat) t v, Try.f9.params[j]? = some t → args[j]? = some v → Value.okWide Try.prog W .any base t v := hval0
  have hW' := hW
  obtain ⟨p, q, hA0, hV, rfl, hfz, hnd⟩ := hW
  have hA : DataW.TrodAll enc Try.prog W 0 (fun _ => true) true Try.f9.params.toList args.toList ds p := hA0
  rw [Try.params9] at hA hval
  obtain ⟨v0, vs0, d0, ds0, p0, q0, hargs, rfl, rfl, h0, r0⟩ := trodAll_cons hA
  obtain ⟨v1, vs1, d1, ds1, p1, q1, rfl, rfl, rfl, h1, r1⟩ := trodAll_cons r0
  obtain ⟨v2, vs2, d2, ds2, p2, q2, rfl, rfl, rfl, h2, r2⟩ := trodAll_cons r1
  obtain ⟨rfl, rfl, rfl⟩ := trodAll_nil r2
  obtain rfl : args = #[v0, v1, v2] := by cases args; simp_all
  obtain ⟨rfl, rfl⟩ := trodVars_none hV
  obtain ⟨a0_0, a0_1, a0_2, rfl, rfl, rfl, w0_0, w0_1, w0_2⟩ := open_vec (hval 0 23 v0 rfl rfl) h0
  obtain ⟨x0_0, y0_0⟩ := i64_of_wf w0_0
  obtain ⟨x0_1, y0_1⟩ := i64_of_wf w0_1
  obtain ⟨x0_2, y0_2⟩ := i64_of_wf w0_2
  obtain ⟨a1_0, a1_1, a1_2, rfl, rfl, rfl, w1_0, w1_1, w1_2⟩ := open_vec (hval 1 23 v1 rfl rfl) h1
  obtain ⟨x1_0, y1_0⟩ := i64_of_wf w1_0
  obtain ⟨x1_1, y1_1⟩ := i64_of_wf w1_1
  obtain ⟨x1_2, y1_2⟩ := i64_of_wf w1_2
  obtain ⟨a2_0, a2_1, a2_2, rfl, rfl, rfl, w2_0, w2_1, w2_2⟩ := open_vec (hval 2 23 v2 rfl rfl) h2
  obtain ⟨x2_0, y2_0⟩ := i64_of_wf w2_0
  obtain ⟨x2_1, y2_1⟩ := i64_of_wf w2_1
  obtain ⟨x2_2, y2_2⟩ := i64_of_wf w2_2
  clear hA0 hval0
  simp only [List.append_nil] at hW'
  refine (walk_vecGroup a0_0 x0_0 y0_0 a0_1 x0_1 y0_1 a0_2 x0_2 y0_2 a1_0 x1_0 y1_0 a1_1 x1_1 y1_1 a1_2 x1_2 y1_2 a2_0 x2_0 y2_0 a2_1 x2_1 y2_1 a2_2 x2_2 y2_2 W).mono fun e W' ⟨he, bel⟩ => ?_
  subst he
  exact ⟨_, rfl, _, _, _, [], _, [], hW', trodAll_mk1 (shut_bool Try.underlying4 _), (trodAll_cons_mk (shut_vec w0_0 w0_1 w0_2) (trodAll_cons_mk (shut_vec w1_0 w1_1 w1_2) (trodAll_cons_mk (shut_vec w2_0 w2_1 w2_2) trodAll_mk0))), rfl, Below.frame bel _, fun h => by cases h⟩

/-- The statement. -/
theorem vecGroup_holds : Rows.VecGroupSaid :=
  OpenClaim.holds_of_wide 9 Try.f9 rfl rfl rfl rfl rfl rfl rfl ⟨rfl, rfl, rfl, rfl, rfl⟩ rfl rfl rfl rfl rfl (by kernel_rfl) Try.func9 (by kernel_rfl)
    (of_decide_eq_true (by kernel_rfl)) (by unfold Func.isWrapper; first | (rw [if_pos (by decide +kernel)]; kernel_rfl) | (rw [if_neg (by decide +kernel)]; exact ⟨rfl, rfl⟩))
    (fun os started H enc _ => lifted_vecGroup os started H enc)

end Go.Proofs.Ytlfkgnpbpmejkaa
