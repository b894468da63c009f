
/- ModalConflicts: two codes conflict exactly if they belong to one group, or to those that exclude each other.
   Conditions: none; every input. -/
import Derived.Test.YtijakijjeoaikaaRows
import Derived.Test.YtijakijjeoaikaaFrameM
import Derived.Test.YtijakijjeoaikaaMaA
set_option linter.unusedVariables false
set_option linter.unusedSimpArgs false
namespace Go.Proofs.Ytijakijjeoaikaa
open Go.ChangeShapes Go.WideShapes Go.ChangeAt Go.RowKit


theorem whole_mul (c : Int) (h0 : 0 ≤ c) (h1 : c < 100) : whole (c * 1000000) = true ∧ wholev (c * 1000000) = c := by
  have e : whole (c * 1000000) = true := by
    unfold whole
    rw [vld_t (by omega) (by omega), decide_eq_true (show c * 1000000 % 1000000 = 0 by omega)]
    rfl
  refine ⟨e, ?_⟩
  unfold wholev
  rw [if_pos e]
  omega
theorem code_mul (l c : Int) (hl : l = 71 ∨ l = 77) (h0 : 0 ≤ c) (h1 : c < 100) : Md.isC (l, c * 1000000) = true ∧ Md.gof (l, c * 1000000) = Md.grp l c := by
  have e : Md.isC (l, c * 1000000) = true := by rw [(md_code _ _).2, if_pos hl]; exact (whole_mul c h0 h1).1
  refine ⟨e, ?_⟩
  unfold Md.gof
  rw [if_pos e, (whole_mul c h0 h1).2]
theorem cke_mul (pre : Vs.Ar) (l c : Int) (hl : l = 71 ∨ l = 77) (h0 : 0 ≤ c) (h1 : c < 100) : Md.cke pre (l, c * 1000000) = if Md.grp l c = 0 then 6 else if Md.hg pre (Md.grp l c) = true then 8 else 0 := by
  have k := code_mul l c hl h0 h1
  unfold Md.cke
  rw [if_neg (by rw [vld_t (by omega) (by omega)]; simp; omega), if_pos hl, k.2, k.1]
  simp
/-- The error of a block of two codes of one letter. -/
theorem chk_two (l c d : Int) (hl : l = 71 ∨ l = 77) (c0 : 0 ≤ c) (c1 : c < 100) (d0 : 0 ≤ d) (d1 : d < 100) :
    Md.chk [(l, c * 1000000), (l, d * 1000000)] = if Md.grp l c = 0 ∨ Md.grp l d = 0 then 6 else if Md.grp l c = Md.grp l d ∨ (max (Md.grp l c) (Md.grp l d) = 14 ∧ (min (Md.grp l c) (Md.grp l d) = 1 ∨ min (Md.grp l c) (Md.grp l d) = 13)) then 8 else 0 := by
  have kc := (code_mul l c hl c0 c1).2
  have kd := (code_mul l d hl d0 d1).2
  have e1 := cke_mul [] l c hl c0 c1
  have e2 := cke_mul [(l, c * 1000000)] l d hl d0 d1
  have h1 : Md.hg [] (Md.grp l c) = false := rfl
  have h2 : Md.hg [(l, c * 1000000)] (Md.grp l d) = decide (Md.grp l c = Md.grp l d) := by unfold Md.hg; simp [kc]
  have h3 : ∀ g, Md.hg [(l, c * 1000000), (l, d * 1000000)] g = (decide (Md.grp l c = g) || decide (Md.grp l d = g)) := fun g => by unfold Md.hg; simp [kc, kd]
  have b1 := Md.grp_bd l c
  have b2 := Md.grp_bd l d
  rw [h1] at e1
  rw [h2] at e2
  unfold Md.chk Md.chf
  rw [e1]
  unfold Md.chf
  rw [List.nil_append, e2]
  unfold Md.chf Md.cend
  rw [List.singleton_append, h3, h3, h3]
  generalize Md.grp l c = x at *
  generalize Md.grp l d = y at *
  clear e1 e2 h1 h2 h3 kc kd
  by_cases hx : x = 0
  · simp [hx]
  · by_cases hy : y = 0
    · simp [hx, hy]
    · by_cases hxy : x = y
      · subst hxy; simp [hx]
      · simp only [hx, hy, hxy, if_false, decide_false, ne_eq, not_true_eq_false, Bool.false_eq_true, or_self, false_or, Bool.or_eq_true, decide_eq_true_eq]
        split <;> split <;> first | rfl | omega
set_option maxRecDepth 100000 in
set_option maxHeartbeats 4000000 in
theorem conf_walk (c d : Int) (c0 : 0 ≤ c) (c1 : c < 100) (d0 : 0 ≤ d) (d1 : d < 100) (g : Bool) (l : Int) (hl : l = if g = true then 71 else 77) (C D : Int) (MC : ∀ w, Calls Try.prog 18 #[.int .i64 C, .int .i64 100] w fun e w' => e = .returned (.int .i64 c) ∧ w = w') (MD : ∀ w, Calls Try.prog 18 #[.int .i64 D, .int .i64 100] w fun e w' => e = .returned (.int .i64 d) ∧ w = w') (w : World) :
    Calls Try.prog 11 #[.int .i64 C, .int .i64 D, .bool g] w fun e w' => e = .returned (.bool true) ∧ Below w.heap.size w w' := by
  have hl2 : l = 71 ∨ l = 77 := by cases g <;> simp at hl <;> omega
  have G1 := Lib.hid (fun w => mdGroup l c w)
  have G2 := Lib.hid (fun w => mdGroup l d w)
  have ck : ∀ w : World, Calls Try.prog 27 #[.slice (some ⟨w.heap.size, 0, none⟩) 2 2] (w.alloc (.cells #[.int .i64 l, .int .i64 (c * 1000000), .int .i64 l, .int .i64 (d * 1000000)] 50)) fun e w' => e = .returned (.int .i64 (if Md.grp l c = 0 ∨ Md.grp l d = 0 then 6 else if Md.grp l c = Md.grp l d ∨ (max (Md.grp l c) (Md.grp l d) = 14 ∧ (min (Md.grp l c) (Md.grp l d) = 1 ∨ min (Md.grp l c) (Md.grp l d) = 13)) then 8 else 0)) ∧ Qw (w.alloc (.cells #[.int .i64 l, .int .i64 (c * 1000000), .int .i64 l, .int .i64 (d * 1000000)] 50)) w' := fun w => by
    have := mdCheck (vals_two w l (c * 1000000) l (d * 1000000) 50 (by omega) (by omega) (by omega) (by omega)) (Nat.le_refl _)
    rw [chk_two l c d hl2 c0 c1 d0 d1] at this
    exact this
  have b1 := Md.grp_bd l c
  have b2 := Md.grp_bd l d
  have MC' := Lib.hid MC
  have MD' := Lib.hid MD
  clear MC MD hl2
  generalize Md.grp l c = x at *
  generalize Md.grp l d = y at *
  have q0 : Hid (Qw w w) := Lib.hid (Qw.refl w)
  obtain ⟨b10, b11⟩ := b1
  obtain ⟨b20, b21⟩ := b2
  by_cases hx : x = 0
  · rw [if_pos (.inl hx)] at ck
    have CK := Lib.hid ck
    subst hx
    clear ck
    cases g
    all_goals
      simp only [if_true, if_false, Bool.false_eq_true] at hl
      subst hl
      go_enter Try.func11, Try.ntmps11
      go_wp2_with (first | (go_at_call 18; (first | ((with_reducible refine (MC'.out _).mono ?_); rintro e w' ⟨rfl, rfl⟩) | ((with_reducible refine (MD'.out _).mono ?_); rintro e w' ⟨rfl, rfl⟩))) | (go_at_call 19; (first | ((with_reducible refine (G1.out _).mono ?_); rintro e w' ⟨rfl, rfl⟩) | ((with_reducible refine (G2.out _).mono ?_); rintro e w' ⟨rfl, rfl⟩))) | (go_at_call 27; ((with_reducible refine (CK.out _).mono ?_); rintro e w5 ⟨rfl, q⟩; have Q5 := Lib.hid (Qw.trans (Qw.al (Qw.refl w) _) q); clear q)) | (go_at_call 15; ((with_reducible refine (awakeM _).mono ?_); rintro e w6 ⟨rfl, q⟩; have Q6 := Lib.hid (Qw.trans Q5.out q); clear q)))
      go_ret
      exact ⟨rfl, Q6.out⟩
  by_cases hy : y = 0
  · rw [if_pos (.inr hy)] at ck
    have CK := Lib.hid ck
    subst hy
    have zx : (x == 0) = false := beq_eq_false_iff_ne.2 hx
    clear ck hx
    cases g
    all_goals
      simp only [if_true, if_false, Bool.false_eq_true] at hl
      subst hl
      go_enter Try.func11, Try.ntmps11
      go_wp2_with (first | (go_at_call 18; (first | ((with_reducible refine (MC'.out _).mono ?_); rintro e w' ⟨rfl, rfl⟩) | ((with_reducible refine (MD'.out _).mono ?_); rintro e w' ⟨rfl, rfl⟩))) | (go_at_call 19; (first | ((with_reducible refine (G1.out _).mono ?_); rintro e w' ⟨rfl, rfl⟩) | ((with_reducible refine (G2.out _).mono ?_); rintro e w' ⟨rfl, rfl⟩))) | (go_at_call 27; ((with_reducible refine (CK.out _).mono ?_); rintro e w5 ⟨rfl, q⟩; have Q5 := Lib.hid (Qw.trans (Qw.al (Qw.refl w) _) q); clear q)) | (go_at_call 15; ((with_reducible refine (awakeM _).mono ?_); rintro e w6 ⟨rfl, q⟩; have Q6 := Lib.hid (Qw.trans Q5.out q); clear q)))
      go_ret
      exact ⟨rfl, Q6.out⟩
  rw [if_neg (by omega)] at ck
  have zx : (x == 0) = false := beq_eq_false_iff_ne.2 hx
  have zy : (y == 0) = false := beq_eq_false_iff_ne.2 hy
  by_cases hxy : x = y
  · rw [if_pos (.inl hxy)] at ck
    have CK := Lib.hid ck
    subst hxy
    clear ck hx hy
    cases g
    all_goals
      simp only [if_true, if_false, Bool.false_eq_true] at hl
      subst hl
      go_enter Try.func11, Try.ntmps11
      go_wp2_with (first | (go_at_call 18; (first | ((with_reducible refine (MC'.out _).mono ?_); rintro e w' ⟨rfl, rfl⟩) | ((with_reducible refine (MD'.out _).mono ?_); rintro e w' ⟨rfl, rfl⟩))) | (go_at_call 19; (first | ((with_reducible refine (G1.out _).mono ?_); rintro e w' ⟨rfl, rfl⟩) | ((with_reducible refine (G2.out _).mono ?_); rintro e w' ⟨rfl, rfl⟩))) | (go_at_call 27; ((with_reducible refine (CK.out _).mono ?_); rintro e w5 ⟨rfl, q⟩; have Q5 := Lib.hid (Qw.trans (Qw.al (Qw.refl w) _) q); clear q)) | (go_at_call 15; ((with_reducible refine (awakeM _).mono ?_); rintro e w6 ⟨rfl, q⟩; have Q6 := Lib.hid (Qw.trans Q5.out q); clear q)))
      go_ret
      exact ⟨rfl, Q6.out⟩
  have zxy : (x == y) = false := beq_eq_false_iff_ne.2 hxy
  by_cases h14 : max x y = 14
  · have z14 : (max x y == 14) = true := by simpa using h14
    by_cases h1 : min x y = 1
    · have z1 : (min x y == 1) = true := by simpa using h1
      rw [if_pos (.inr ⟨h14, .inl h1⟩)] at ck
      have CK := Lib.hid ck
      clear ck hx hy hxy h14 h1
      cases g
      all_goals
        simp only [if_true, if_false, Bool.false_eq_true] at hl
        subst hl
        go_enter Try.func11, Try.ntmps11
        go_wp2_with (first | (go_at_call 18; (first | ((with_reducible refine (MC'.out _).mono ?_); rintro e w' ⟨rfl, rfl⟩) | ((with_reducible refine (MD'.out _).mono ?_); rintro e w' ⟨rfl, rfl⟩))) | (go_at_call 19; (first | ((with_reducible refine (G1.out _).mono ?_); rintro e w' ⟨rfl, rfl⟩) | ((with_reducible refine (G2.out _).mono ?_); rintro e w' ⟨rfl, rfl⟩))) | (go_at_call 27; ((with_reducible refine (CK.out _).mono ?_); rintro e w5 ⟨rfl, q⟩; have Q5 := Lib.hid (Qw.trans (Qw.al (Qw.refl w) _) q); clear q)) | (go_at_call 15; ((with_reducible refine (awakeM _).mono ?_); rintro e w6 ⟨rfl, q⟩; have Q6 := Lib.hid (Qw.trans Q5.out q); clear q)))
        go_ret
        exact ⟨rfl, Q6.out⟩
    · have z1 : (min x y == 1) = false := beq_eq_false_iff_ne.2 h1
      by_cases h13 : min x y = 13
      · have z13 : (min x y == 13) = true := by simpa using h13
        rw [if_pos (.inr ⟨h14, .inr h13⟩)] at ck
        have CK := Lib.hid ck
        clear ck hx hy hxy h14 h1 h13
        cases g
        all_goals
          simp only [if_true, if_false, Bool.false_eq_true] at hl
          subst hl
          go_enter Try.func11, Try.ntmps11
          go_wp2_with (first | (go_at_call 18; (first | ((with_reducible refine (MC'.out _).mono ?_); rintro e w' ⟨rfl, rfl⟩) | ((with_reducible refine (MD'.out _).mono ?_); rintro e w' ⟨rfl, rfl⟩))) | (go_at_call 19; (first | ((with_reducible refine (G1.out _).mono ?_); rintro e w' ⟨rfl, rfl⟩) | ((with_reducible refine (G2.out _).mono ?_); rintro e w' ⟨rfl, rfl⟩))) | (go_at_call 27; ((with_reducible refine (CK.out _).mono ?_); rintro e w5 ⟨rfl, q⟩; have Q5 := Lib.hid (Qw.trans (Qw.al (Qw.refl w) _) q); clear q)) | (go_at_call 15; ((with_reducible refine (awakeM _).mono ?_); rintro e w6 ⟨rfl, q⟩; have Q6 := Lib.hid (Qw.trans Q5.out q); clear q)))
          go_ret
          exact ⟨rfl, Q6.out⟩
      · have z13 : (min x y == 13) = false := beq_eq_false_iff_ne.2 h13
        rw [if_neg (by omega)] at ck
        have CK := Lib.hid ck
        clear ck hx hy hxy h14 h1 h13
        cases g
        all_goals
          simp only [if_true, if_false, Bool.false_eq_true] at hl
          subst hl
          go_enter Try.func11, Try.ntmps11
          go_wp2_with (first | (go_at_call 18; (first | ((with_reducible refine (MC'.out _).mono ?_); rintro e w' ⟨rfl, rfl⟩) | ((with_reducible refine (MD'.out _).mono ?_); rintro e w' ⟨rfl, rfl⟩))) | (go_at_call 19; (first | ((with_reducible refine (G1.out _).mono ?_); rintro e w' ⟨rfl, rfl⟩) | ((with_reducible refine (G2.out _).mono ?_); rintro e w' ⟨rfl, rfl⟩))) | (go_at_call 27; ((with_reducible refine (CK.out _).mono ?_); rintro e w5 ⟨rfl, q⟩; have Q5 := Lib.hid (Qw.trans (Qw.al (Qw.refl w) _) q); clear q)) | (go_at_call 15; ((with_reducible refine (awakeM _).mono ?_); rintro e w6 ⟨rfl, q⟩; have Q6 := Lib.hid (Qw.trans Q5.out q); clear q)))
          go_ret
          exact ⟨rfl, Q6.out⟩
  · have z14 : (max x y == 14) = false := beq_eq_false_iff_ne.2 h14
    rw [if_neg (by omega)] at ck
    have CK := Lib.hid ck
    clear ck hx hy hxy h14
    cases g
    all_goals
      simp only [if_true, if_false, Bool.false_eq_true] at hl
      subst hl
      go_enter Try.func11, Try.ntmps11
      go_wp2_with (first | (go_at_call 18; (first | ((with_reducible refine (MC'.out _).mono ?_); rintro e w' ⟨rfl, rfl⟩) | ((with_reducible refine (MD'.out _).mono ?_); rintro e w' ⟨rfl, rfl⟩))) | (go_at_call 19; (first | ((with_reducible refine (G1.out _).mono ?_); rintro e w' ⟨rfl, rfl⟩) | ((with_reducible refine (G2.out _).mono ?_); rintro e w' ⟨rfl, rfl⟩))) | (go_at_call 27; ((with_reducible refine (CK.out _).mono ?_); rintro e w5 ⟨rfl, q⟩; have Q5 := Lib.hid (Qw.trans (Qw.al (Qw.refl w) _) q); clear q)) | (go_at_call 15; ((with_reducible refine (awakeM _).mono ?_); rintro e w6 ⟨rfl, q⟩; have Q6 := Lib.hid (Qw.trans Q5.out q); clear q)))
      go_ret
      exact ⟨rfl, Q6.out⟩
theorem walk_modalConflicts (c : Int) (c1 : -9223372036854775808 ≤ c) (c2 : c ≤ 9223372036854775807) (d : Int) (d1 : -9223372036854775808 ≤ d) (d2 : d ≤ 9223372036854775807) (g : Bool) (w : World) : Calls Try.prog 11 #[.int .i64 c, .int .i64 d, .bool g] w fun e w' => e = .returned (.bool true) ∧ Below w.heap.size w w' :=
  conf_walk (c % 100) (d % 100) (by omega) (by omega) (by omega) (by omega) g _ rfl c d (fun w => modW c 100 c1 c2 (by decide) (by decide) w) (fun w => modW d 100 d1 d2 (by decide) (by decide) w) w

/-! ### the row -/
theorem own_modalConflicts : ownKnob Try.prog.godebug = none := by kernel_rfl
set_option maxRecDepth 100000 in
theorem lifted_modalConflicts (os : Os) (started : os.Started) (H : Type) (enc : TypeId × Value → H) :
    ReturnsInHanded {} Try.checked os 11 .any (Rows.modalConflictsSpec.pre6 enc Try.prog Try.f11 Rows.modalConflictsRow.domain false) (Rows.modalConflictsSpec.post enc Try.prog Try.f11 false true false false) := by
  refine returnsInHanded_of_change (C := Try.checked) own_modalConflicts started (by kernel_rfl) Try.func11
    (ChangeSpec.witness6 (enc := enc) (C := Try.checked) false ⟨#[], #[.int .i64 0, .int .i64 0, .bool false], []⟩ 8 (by kernel_rfl) (by kernel_rfl) (by kernel_rfl) (by kernel_rfl)) ?_
  intro W base args ds gs before hval0 hW hcnd _
  have hval : ∀ (j : Nat) t v, Try.f11.params[j]? = some t → args[j]? = some v → Value.okWide Try.prog W .any base t v := hval0
  have hW' := hW
  obtain ⟨p, q, hA0, hV, rfl, hfz, hnd⟩ := hW
  have hA : DataW.TrodAll enc Try.prog W 0 (fun _ => true) true Try.f11.params.toList args.toList ds p := hA0
  rw [Try.params11] at hA hval
  obtain ⟨v0, vs0, d0, ds0, p0, q0, hargs, rfl, rfl, h0, r0⟩ := trodAll_cons hA
  obtain ⟨v1, vs1, d1, ds1, p1, q1, rfl, rfl, rfl, h1, r1⟩ := trodAll_cons r0
  obtain ⟨v2, vs2, d2, ds2, p2, q2, rfl, rfl, rfl, h2, r2⟩ := trodAll_cons r1
  obtain ⟨rfl, rfl, rfl⟩ := trodAll_nil r2
  obtain rfl : args = #[v0, v1, v2] := by cases args; simp_all
  obtain ⟨rfl, rfl⟩ := trodVars_none hV
  obtain ⟨a0, rfl, rfl, rfl, w0⟩ := open_int Try.underlying3 (hval 0 3 v0 rfl rfl) h0
  obtain ⟨x0, y0⟩ := wfM w0
  obtain ⟨a1, rfl, rfl, rfl, w1⟩ := open_int Try.underlying3 (hval 1 3 v1 rfl rfl) h1
  obtain ⟨x1, y1⟩ := wfM w1
  obtain ⟨a2, rfl, rfl, rfl⟩ := open_bool Try.underlying4 (hval 2 4 v2 rfl rfl) h2
  clear hA0 hval0
  simp only [List.append_nil] at hW'
  refine (walk_modalConflicts a0 x0 y0 a1 x1 y1 a2 W).mono fun e W' ⟨he, bel⟩ => ?_
  subst he
  exact ⟨_, rfl, _, _, _, [], _, [], hW', trodAll_mk1 (shut_bool Try.underlying4 _), (trodAll_cons_mk (shut_int Try.underlying3 w0) (trodAll_cons_mk (shut_int Try.underlying3 w1) (trodAll_cons_mk (shut_bool Try.underlying4 _) trodAll_mk0))), rfl, Below.frame bel _, fun h => by cases h⟩

/-- The statement. -/
theorem modalConflicts_holds : Rows.ModalConflictsSaid :=
  OpenClaim.holds_of_wide 11 Try.f11 rfl rfl rfl rfl rfl rfl rfl ⟨rfl, rfl, rfl, rfl, rfl⟩ rfl rfl rfl rfl rfl (by kernel_rfl) Try.func11 (by kernel_rfl)
    (of_decide_eq_true (by kernel_rfl)) (by unfold Func.isWrapper; first | (rw [if_pos (by decide +kernel)]; kernel_rfl) | (rw [if_neg (by decide +kernel)]; exact ⟨rfl, rfl⟩))
    (fun os started H enc _ => lifted_modalConflicts os started H enc)

end Go.Proofs.Ytijakijjeoaikaa
