
/- ModalGroups: Group, Has and Find tell what the specification tells.
   Conditions: none; every input. -/
import Derived.Test.YtijakijjeoaikaaRows
import Derived.Test.YtijakijjeoaikaaFrameM
import Derived.Test.YtijakijjeoaikaaMaA
import Derived.Test.YtijakijjeoaikaaMrC
import Derived.Test.YtijakijjeoaikaaMvE
set_option linter.unusedVariables false
set_option linter.unusedSimpArgs false
namespace Go.Proofs.Ytijakijjeoaikaa
open Go.ChangeShapes Go.WideShapes Go.ChangeAt Go.RowKit

theorem three_at (x y z : Int) (i : Nat) (h : i < 3) : ∃ d, (#[.int .i64 x, .int .i64 y, .int .i64 z] : Array Value)[i]? = some (.int .i64 d) := by
  match i, h with
  | 0, _ => exact ⟨_, rfl⟩
  | 1, _ => exact ⟨_, rfl⟩
  | 2, _ => exact ⟨_, rfl⟩
set_option maxRecDepth 100000 in
set_option maxHeartbeats 4000000 in
theorem walk_modalGroups (lt : Int) (lt1 : -9223372036854775808 ≤ lt) (lt2 : lt ≤ 9223372036854775807) (cd : Int) (cd1 : -9223372036854775808 ≤ cd) (cd2 : cd ≤ 9223372036854775807) (v0 : Value) (u0 : Vs.Ar) (v1 : Value) (u1 : List Int) (w : World) (hu0 : ValsB w.heap.size w v0 u0) (hu1 : IntsB w.heap.size w v1 u1) : Calls Try.prog 3 #[.int .i64 lt, .int .i64 cd, v0, v1] w fun e w' => e = .returned (.bool true) ∧ Below w.heap.size w w' := by
  have fw := fewM hu0
  have li := lightF v1 u1 _ w hu1
  have NW := Lib.hid (newF v1 u1 w hu1)
  have MO := Lib.hid (fun w => modW cd 110 cd1 cd2 (by decide) (by decide) w)
  have ML := Lib.hid (fun w => modW lt 26 lt1 lt2 (by decide) (by decide) w)
  have mb : 0 ≤ lt % 26 ∧ lt % 26 < 26 := by omega
  generalize cd % 110 = c at *
  generalize lt % 26 = ml at *
  obtain ⟨mb0, mb1⟩ := mb
  have RH := Lib.hid (fun w' (q : Qw w w') (a b : Int) => mdHas (hu0.kept q (Nat.le_refl _)) q.size a b)
  have RR := Lib.hid (fun w' (q : Qw w w') (a b : Int) => mrHas (hu0.kept q (Nat.le_refl _)) q.size a b)
  have q0 : Hid (Qw w w) := Lib.hid (Qw.refl w)
  by_cases hf : u0.length ≤ 40
  · rw [decide_eq_true hf] at fw
    by_cases hl : u1.length ≤ 120
    · rw [decide_eq_true hl] at li
      have FW := Lib.hid fw
      have LI := Lib.hid li
      clear fw li hl hu0 hu1 hf
      go_enter Try.func3, Try.ntmps3
      go_wp2_with (first | (go_at_call 13; ((with_reducible refine (FW.out).mono ?_); rintro e w' ⟨rfl, rfl⟩)) | (go_at_call 14; ((with_reducible refine (LI.out).mono ?_); rintro e w' ⟨rfl, rfl⟩)) | (go_at_call 17; ((with_reducible refine (NW.out).mono ?_); rintro e w1 ⟨rfl, t1, q1⟩; have T1 := Lib.hid t1; have Q1 := Lib.hid q1; clear t1 q1)) | (go_at_call 16; ((with_reducible refine (valsX T1.out Q1.out (Qw.refl _) (tape_lt T1.out)).mono ?_); rintro e w2 ⟨⟨B, sv, l, rfl, o, b1, b2, n, ll⟩, q2⟩; have O2 := Lib.hid o; have N2 := Lib.hid n; have Q2 := Lib.hid q2; clear o n q2 T1 Q1)) | (go_at_call 18; ((with_reducible refine (MO.out _).mono ?_); rintro e w' ⟨rfl, rfl⟩)))
      have OX := Lib.hid (O2.out.go (w' := w2.alloc (.cells #[.int .i64 71, .int .i64 77, .int .i64 lt] 3)) (fun g _ hg => Below.heap_alloc w2 _ g hg))
      have BX := Lib.hid (Bx.new w2 #[.int .i64 71, .int .i64 77, .int .i64 lt] 3)
      have QX := Lib.hid (Qw.al Q2.out (.cells #[.int .i64 71, .int .i64 77, .int .i64 lt] 3))
      generalize w2.heap.size = D at *
      clear O2 Q2 FW LI NW
      go_loopw [38] (fun iv wr => ∃ i : Nat, i ≤ 3 ∧ iv = .int .i64 (i : Int) ∧ Hid (OwnM B wr sv l) ∧ Hid (Bx wr D #[.int .i64 71, .int .i64 77, .int .i64 lt] 3) ∧ Hid (Qw w wr)) (fun iv _ => 3 - (intOf iv).toNat)
      case atStart => exact ⟨0, by omega, rfl, OX, BX, QX⟩
      case round =>
        clear OX BX QX
        obtain ⟨i, hi, rfl, HO, HX, HQ⟩ := hrel
        have VH := Lib.hid (fun w' (q : Qw wr w') (a b : Int) => mdHas ((HO.out.go (fun g _ hg => q.block g hg)).vals N2.out) (Nat.le_refl _) a b)
        have VR := Lib.hid (fun w' (q : Qw wr w') (a b : Int) => mrHas ((HO.out.go (fun g _ hg => q.block g hg)).vals N2.out) (Nat.le_refl _) a b)
        have VF := Lib.hid (fun w' (q : Qw wr w') (a : Int) => mdFind ((HO.out.go (fun g _ hg => q.block g hg)).vals N2.out) (Nat.le_refl _) a)
        have VE := Lib.hid (fun w' (q : Qw wr w') (a : Int) => mrFind ((HO.out.go (fun g _ hg => q.block g hg)).vals N2.out) (Nat.le_refl _) a)
        have QR : Hid (Qw wr wr) := Lib.hid (Qw.refl wr)
        by_cases hlt : i < 3
        · obtain ⟨d, hd⟩ := three_at 71 77 lt i hlt
          have cx := HX.out.cell' i _ hd
          have hl1 : (i : Int) < 3 := by omega
          have RH2 := Lib.hid (fun w' (q : Qw wr w') (a b : Int) => RH.out w' (Qw.trans HQ.out q) a b)
          have RR2 := Lib.hid (fun w' (q : Qw wr w') (a b : Int) => RR.out w' (Qw.trans HQ.out q) a b)
          clear hd
          go_wp2_with (first | (go_at_call 19; ((with_reducible refine (mdGroup _ _ _).mono ?_); rintro e w' ⟨rfl, rfl⟩)) | (go_at_call 20; ((with_reducible refine (mrGroup _ _ _).mono ?_); rintro e w' ⟨rfl, q⟩; replace QR : Hid (Qw wr w') := Lib.hid (Qw.trans QR.out q); clear q)) | (go_at_call 21; (first | ((with_reducible refine (VH.out _ QR.out _ _).mono ?_); rintro e w' ⟨rfl, q⟩; replace QR : Hid (Qw wr w') := Lib.hid (Qw.trans QR.out q); clear q) | ((with_reducible refine (RH2.out _ QR.out _ _).mono ?_); rintro e w' ⟨rfl, q⟩; replace QR : Hid (Qw wr w') := Lib.hid (Qw.trans QR.out q); clear q))) | (go_at_call 22; (first | ((with_reducible refine (VR.out _ QR.out _ _).mono ?_); rintro e w' ⟨rfl, rfl⟩) | ((with_reducible refine (RR2.out _ QR.out _ _).mono ?_); rintro e w' ⟨rfl, rfl⟩))))
          go_roundw
          case rel => exact ⟨i + 1, by omega, by go_num, Lib.hid (HO.out.go (fun g _ hg => QR.out.block g hg)), Lib.hid (HX.out.kept QR.out), Lib.hid (Qw.trans HQ.out QR.out)⟩
          case measure => simp [intOf]; omega
        · obtain rfl : i = 3 := by omega
          clear hlt
          go_wp2_with (first | (go_at_call 23; ((with_reducible refine (VF.out _ QR.out _).mono ?_); rintro e w' ⟨rfl, q⟩; replace QR : Hid (Qw wr w') := Lib.hid (Qw.trans QR.out q); clear q)) | (go_at_call 24; ((with_reducible refine (VE.out _ QR.out _).mono ?_); rintro e w' ⟨rfl, rfl⟩)) | (go_at_call 18; ((with_reducible refine (ML.out _).mono ?_); rintro e w' ⟨rfl, rfl⟩)) | (go_at_call 15; ((with_reducible refine (awakeM _).mono ?_); rintro e w' ⟨rfl, q⟩; replace QR : Hid (Qw wr w') := Lib.hid (Qw.trans QR.out q); clear q)))
          go_ret
          exact ⟨rfl, Qw.trans HQ.out QR.out⟩
    · rw [decide_eq_false hl] at li
      have FW := Lib.hid fw
      have LI := Lib.hid li
      clear fw li hl hu0 hu1 hf NW
      go_enter Try.func3, Try.ntmps3
      go_wp2_with (first | (go_at_call 13; ((with_reducible refine (FW.out).mono ?_); rintro e w' ⟨rfl, rfl⟩)) | (go_at_call 14; ((with_reducible refine (LI.out).mono ?_); rintro e w' ⟨rfl, rfl⟩)) | (go_at_call 15; ((with_reducible refine (awakeM _).mono ?_); rintro e w' ⟨rfl, q⟩; replace q0 : Hid (Qw w w') := Lib.hid (Qw.trans q0.out q); clear q)))
      go_ret
      exact ⟨rfl, q0.out⟩
  · rw [decide_eq_false hf] at fw
    have FW := Lib.hid fw
    clear fw li hu0 hu1 hf NW
    go_enter Try.func3, Try.ntmps3
    go_wp2_with (first | (go_at_call 13; ((with_reducible refine (FW.out).mono ?_); rintro e w' ⟨rfl, rfl⟩)) | (go_at_call 15; ((with_reducible refine (awakeM _).mono ?_); rintro e w' ⟨rfl, q⟩; replace q0 : Hid (Qw w w') := Lib.hid (Qw.trans q0.out q); clear q)))
    go_ret
    exact ⟨rfl, q0.out⟩

/-! ### the row -/
theorem own_modalGroups : ownKnob Try.prog.godebug = none := by kernel_rfl
set_option maxRecDepth 100000 in
theorem lifted_modalGroups (os : Os) (started : os.Started) (H : Type) (enc : TypeId × Value → H) :
    ReturnsInHanded {} Try.checked os 3 .any (Rows.modalGroupsSpec.pre6 enc Try.prog Try.f3 Rows.modalGroupsRow.domain false) (Rows.modalGroupsSpec.post enc Try.prog Try.f3 false true false false) := by
  refine returnsInHanded_of_change (C := Try.checked) own_modalGroups started (by kernel_rfl) Try.func3
    (ChangeSpec.witness6 (enc := enc) (C := Try.checked) false ⟨#[], #[.int .i64 0, .int .i64 0, .slice none 0 0, .slice none 0 0], []⟩ 8 (by kernel_rfl) (by kernel_rfl) (by kernel_rfl) (by kernel_rfl)) ?_
  intro W base args ds gs before hval0 hW hcnd _
  have hval : ∀ (j : Nat) t v, Try.f3.params[j]? = some t → args[j]? = some v → Value.okWide Try.prog W .any base t v := hval0
  have hW' := hW
  obtain ⟨p, q, hA0, hV, rfl, hfz, hnd⟩ := hW
  have hA : DataW.TrodAll enc Try.prog W 0 (fun _ => true) true Try.f3.params.toList args.toList ds p := hA0
  rw [Try.params3] at hA hval
  obtain ⟨v0, vs0, d0, ds0, p0, q0, hargs, rfl, rfl, h0, r0⟩ := trodAll_cons hA
  obtain ⟨v1, vs1, d1, ds1, p1, q1, rfl, rfl, rfl, h1, r1⟩ := trodAll_cons r0
  obtain ⟨v2, vs2, d2, ds2, p2, q2, rfl, rfl, rfl, h2, r2⟩ := trodAll_cons r1
  obtain ⟨v3, vs3, d3, ds3, p3, q3, rfl, rfl, rfl, h3, r3⟩ := trodAll_cons r2
  obtain ⟨rfl, rfl, rfl⟩ := trodAll_nil r3
  obtain rfl : args = #[v0, v1, v2, v3] := by cases args; simp_all
  obtain ⟨rfl, rfl⟩ := trodVars_none hV
  obtain ⟨a0, rfl, rfl, rfl, w0⟩ := open_int Try.underlying3 (hval 0 3 v0 rfl rfl) h0
  obtain ⟨x0, y0⟩ := wfM w0
  obtain ⟨a1, rfl, rfl, rfl, w1⟩ := open_int Try.underlying3 (hval 1 3 v1 rfl rfl) h1
  obtain ⟨x1, y1⟩ := wfM w1
  obtain ⟨u2, hu2⟩ := inM_vals (hval 2 22 v2 rfl rfl) h2
  obtain ⟨u3, hu3⟩ := inM_ints (hval 3 23 v3 rfl rfl) h3
  clear hA0 hval0
  simp only [List.append_nil] at hW'
  refine (walk_modalGroups a0 x0 y0 a1 x1 y1 v2 u2 v3 u3 W hu2 hu3).mono fun e W' ⟨he, bel⟩ => ?_
  subst he
  exact ⟨_, rfl, _, _, _, [], _, [], hW', trodAll_mk1 (shut_bool Try.underlying4 _), (trodAll_cons_mk (shut_int Try.underlying3 w0) (trodAll_cons_mk (shut_int Try.underlying3 w1) (trodAll_cons_mk (outM_vals h2 bel (fun x hx => hW'.lt x (by first | exact hx | simp [hx]))) (trodAll_cons_mk (outM_ints h3 bel (fun x hx => hW'.lt x (by first | exact hx | simp [hx]))) trodAll_mk0)))), rfl, Below.frame bel _, fun h => by cases h⟩

/-- The statement. -/
theorem modalGroups_holds : Rows.ModalGroupsSaid :=
  OpenClaim.holds_of_wide 3 Try.f3 rfl rfl rfl rfl rfl rfl rfl ⟨rfl, rfl, rfl, rfl, rfl⟩ rfl rfl rfl rfl rfl (by kernel_rfl) Try.func3 (by kernel_rfl)
    (of_decide_eq_true (by kernel_rfl)) (by unfold Func.isWrapper; first | (rw [if_pos (by decide +kernel)]; kernel_rfl) | (rw [if_neg (by decide +kernel)]; exact ⟨rfl, rfl⟩))
    (fun os started H enc _ => lifted_modalGroups os started H enc)

end Go.Proofs.Ytijakijjeoaikaa
