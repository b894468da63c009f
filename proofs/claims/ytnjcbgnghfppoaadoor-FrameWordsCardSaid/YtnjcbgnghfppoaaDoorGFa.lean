import Derived.Test.YtnjcbgnghfppoaaDoorGTc
import Derived.Test.YtnjcbgnghfppoaaDoorGO
import Derived.Test.YtnjcbgnghfppoaaDoorGQ
import Derived.Test.YtnjcbgnghfppoaaDoorGI

/- The sanity check of the laws of layer 12. -/
set_option linter.unusedVariables false
set_option linter.unusedSimpArgs false
namespace Go.Proofs.YtnjcbgnghfppoaaDoor
open Go.RowKit

theorem built_aw : ∀ l, l = [(1, Value.int .i64 54), (2, .agg #[.int .i64 10, .int .i64 0, .int .i64 0])] → Tryd.prog.built FT l = some (frc (f0 54 10 0 0 0 0 0 0)) := by rintro l rfl; kernel_rfl
def awm : Md.S := { Md.S.zero with pl := 17, di := 90, un := 21, po := 16 }
theorem built_awm : ∀ l, l = [(1, Value.int .i64 17), (2, .int .i64 90), (3, .int .i64 21), (10, .int .i64 16)] → Tryd.prog.built MT l = some (mdc awm) := by rintro l rfl; kernel_rfl
section
variable {ops : Array Oper} {rest : List Oper} {dst : Option Tmp} {ty : TypeId} {pos : String} {after : Array Edge} {a : Act} {w w0 : World} {Q : Exit → Act → World → Prop}
theorem bu_aw (i : Tmp) (h2 : a.eval (.tmp i) = .agg #[.int .i64 10, .int .i64 0, .int .i64 0])
    (h : wpList Tryd.prog ops Q rest (a.put dst (.agg (frc (f0 54 10 0 0 0 0 0 0)))) w) : wpList Tryd.prog ops Q (⟨dst, .build FT #[(1, .const (.int .i64 54)), (2, .tmp i)], ty, pos, after, none⟩ :: rest) a w := by
  have e : Tryd.prog.built FT ((#[(1, .const (.int .i64 54)), (2, .tmp i)] : Array (Nat × Operand)).map fun (i, x) => (i, a.eval x)).toList = some (frc (f0 54 10 0 0 0 0 0 0)) := built_aw _ (by have e1 : a.eval (.const (.int .i64 54)) = .int .i64 54 := rfl; simp [h2, e1])
  refine wpList_build rfl FT _ rfl (by rw [e]; rfl) ?_
  rw [e]
  exact h
theorem bu_awm (h : wpList Tryd.prog ops Q rest (a.put dst (.agg (mdc awm))) w) : wpList Tryd.prog ops Q (⟨dst, .build MT #[(1, .const (.int .i64 17)), (2, .const (.int .i64 90)), (3, .const (.int .i64 21)), (10, .const (.int .i64 16))], ty, pos, after, none⟩ :: rest) a w := by
  have e : Tryd.prog.built MT ((#[(1, .const (.int .i64 17)), (2, .const (.int .i64 90)), (3, .const (.int .i64 21)), (10, .const (.int .i64 16))] : Array (Nat × Operand)).map fun (i, x) => (i, a.eval x)).toList = some (mdc awm) := built_awm _ (by simp [Act.eval])
  refine wpList_build rfl MT _ rfl (by rw [e]; rfl) ?_
  rw [e]
  exact h
end
theorem aw_gd : Fm.Gd (f0 54 10 0 0 0 0 0 0) := f0_gd (by decide) (by decide) (by decide) (by decide) (by decide) (by decide) (by decide) (by decide) (by decide)
theorem aw_to : Fm.toV (f0 54 10 0 0 0 0 0 0) 1 2 3 (Fm.mx (f0 54 10 0 0 0 0 0 0) 1 2 3) = 11 ∧ Fm.toV (f0 54 10 0 0 0 0 0 0) 1 2 3 (Fm.my (f0 54 10 0 0 0 0 0 0) 1 2 3) = 2 ∧ Fm.toV (f0 54 10 0 0 0 0 0 0) 1 2 3 (Fm.mz (f0 54 10 0 0 0 0 0 0) 1 2 3) = 3 ∧ Fm.toE (f0 54 10 0 0 0 0 0 0) 1 2 3 = 0 := by decide +kernel
theorem aw_tg : Tg.val [(88, 5000000), (89, 90000000)] 17 90 21 16 0 0 0 (Tg.cd [(88, 5000000), (89, 90000000)] 17 90 21 16 0 0) = 0 ∧ Tg.val [(88, 5000000), (89, 90000000)] 17 90 21 16 0 0 0 (Tg.cd [(88, 5000000), (89, 90000000)] 17 90 21 16 1 0) = 5000 ∧ Tg.val [(88, 5000000), (89, 90000000)] 17 90 21 16 0 0 0 (Tg.cd [(88, 5000000), (89, 90000000)] 17 90 21 16 2 0) = 0 ∧
    Tg.has [(88, 5000000), (89, 90000000)] 17 90 21 16 0 0 0 = true ∧ Tg.err [(88, 5000000), (89, 90000000)] 17 90 21 16 0 0 0 = 0 := by decide +kernel
set_option maxRecDepth 100000 in
set_option maxHeartbeats 4000000 in
theorem awake12 (w : World) (T : Tc w) : Calls Tryd.prog 12 #[] w fun e w' => e = .returned (.bool true) ∧ Qw w w' := by
  have ct : ∀ w' : World, Qw w w' → Calls Tryd.prog 20 #[.agg (frc (f0 54 10 0 0 0 0 0 0)), .agg #[.int .i64 1, .int .i64 2, .int .i64 3]] w' fun e w'' => e = .returned (.tuple #[.agg #[.int .i64 11, .int .i64 2, .int .i64 3], .int .i64 0]) ∧ Qw w' w'' := fun w' q => by
    have := fmToAny _ aw_gd 1 2 3 (by decide) (by decide) (by decide) (by decide) (by decide) (by decide) w' (T.kept q)
    rwa [aw_to.1, aw_to.2.1, aw_to.2.2.1, aw_to.2.2.2] at this
  have cg : ∀ w' : World, Qw w w' → Calls Tryd.prog 27 #[.agg (mdc awm), .slice (some ⟨w'.heap.size, 0, none⟩) 2 2, .agg #[.int .i64 0, .int .i64 0, .int .i64 0]] (w'.alloc (.cells #[.int .i64 88, .int .i64 5000000, .int .i64 89, .int .i64 90000000] 58)) fun e w'' => e = .returned (.tuple #[.agg #[.int .i64 0, .int .i64 5000, .int .i64 0], .bool true, .int .i64 0]) ∧ Qw (w'.alloc (.cells #[.int .i64 88, .int .i64 5000000, .int .i64 89, .int .i64 90000000] 58)) w'' := fun w' q => by
    have := tgTarget (vals_two w' 88 5000000 89 90000000 58 (by decide) (by decide) (by decide) (by decide)) (Nat.le_refl _) awm (by decide) (by decide) (T.kept (Qw.al q _)) 0 0 0 (by decide) (by decide) (by decide) (by decide) (by decide) (by decide)
    rw [show awm.pl = 17 from rfl, show awm.di = 90 from rfl, show awm.un = 21 from rfl, show awm.po = 16 from rfl, aw_tg.1, aw_tg.2.1, aw_tg.2.2.1, aw_tg.2.2.2.1, aw_tg.2.2.2.2] at this
    exact this
  have CT := Lib.hid ct
  have CG := Lib.hid cg
  clear ct cg T
  go_enter Tryd.func12, Tryd.ntmps12
  go_upto_region 2 with (first | (refine bu_aw 7 rfl ?_) | (go_at_call 20; ((with_reducible refine (CT.out _ (Qw.refl w)).mono ?_); rintro e w1 ⟨rfl, q⟩; have Q1 := Lib.hid q; clear q)))
  refine code_of (fun w' => Bx w' w1.heap.size #[.int .i64 11, .int .i64 2, .int .i64 3] 23 ∧ Qw w w') ⟨Bx.new _ _ _, Qw.al Q1.out _⟩ ?_
  clear Q1
  generalize w1.heap.size = A at *
  rintro w2 ⟨AX, q2⟩
  have A0 := Lib.hid (fun (w' : World) (q : Qw w2 w') => AX.kept q)
  have Q2 := Lib.hid q2
  clear AX q2
  go_upto_region 3 with (first | (refine bu_awm ?_) | (go_at_call 27; ((with_reducible refine (CG.out _ Q2.out).mono ?_); rintro e w3 ⟨rfl, q⟩; have q3 := Qw.trans (Qw.al (Qw.refl w2) (.cells #[.int .i64 88, .int .i64 5000000, .int .i64 89, .int .i64 90000000] 58)) q; have Q3 := Lib.hid q3; have lA := (A0.out _ q3).lt; have a0 := (A0.out _ q3).cell' 0 (.int .i64 11) rfl; have a1 := (A0.out _ q3).cell' 1 (.int .i64 2) rfl; have a2 := (A0.out _ q3).cell' 2 (.int .i64 3) rfl; clear q q3)))
  go_wp2
  go_ret
  exact ⟨rfl, Qw.al (Qw.trans Q2.out Q3.out) _⟩
end Go.Proofs.YtnjcbgnghfppoaaDoor
