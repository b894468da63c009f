
/- Package eval: the functions that the table of operators holds, and the table. -/
import Derived.Test.YtkfipjlknfinpaaGreatDoorEvA
import Derived.Test.YtkfipjlknfinpaaGreatDoorVAX
set_option linter.unusedVariables false
set_option linter.unusedSimpArgs false
namespace Go.Proofs.YtkfipjlknfinpaaGreatDoor
open Go.RowKit

theorem evC1 (a b : Int) (w : World) : Calls Tryz.prog 76 #[.int .i64 a, .int .i64 b] w fun e w' => e = .returned (.tuple #[.int .i64 (Ev.flg (a == b)).1, .int .i64 (Ev.flg (a == b)).2]) ∧ w = w' := by
  go_enter Tryz.func76, Tryz.ntmps76
  go_wp2_with (go_at_call 77; (refine (evAnswer _ _).mono ?_); rintro e w' ⟨rfl, rfl⟩)
  go_ret2
  exact ⟨rfl, rfl⟩

theorem evC2 (a b : Int) (w : World) : Calls Tryz.prog 78 #[.int .i64 a, .int .i64 b] w fun e w' => e = .returned (.tuple #[.int .i64 (Ev.flg (a != b)).1, .int .i64 (Ev.flg (a != b)).2]) ∧ w = w' := by
  go_enter Tryz.func78, Tryz.ntmps78
  go_wp2_with (go_at_call 77; (refine (evAnswer _ _).mono ?_); rintro e w' ⟨rfl, rfl⟩)
  go_ret2
  exact ⟨rfl, rfl⟩

theorem evC3 (a b : Int) (w : World) : Calls Tryz.prog 79 #[.int .i64 a, .int .i64 b] w fun e w' => e = .returned (.tuple #[.int .i64 (Ev.flg (decide (b < a))).1, .int .i64 (Ev.flg (decide (b < a))).2]) ∧ w = w' := by
  go_enter Tryz.func79, Tryz.ntmps79
  go_wp2_with (go_at_call 77; (refine (evAnswer _ _).mono ?_); rintro e w' ⟨rfl, rfl⟩)
  go_ret2
  exact ⟨rfl, rfl⟩

theorem evC4 (a b : Int) (w : World) : Calls Tryz.prog 80 #[.int .i64 a, .int .i64 b] w fun e w' => e = .returned (.tuple #[.int .i64 (Ev.flg (decide (b ≤ a))).1, .int .i64 (Ev.flg (decide (b ≤ a))).2]) ∧ w = w' := by
  go_enter Tryz.func80, Tryz.ntmps80
  go_wp2_with (go_at_call 77; (refine (evAnswer _ _).mono ?_); rintro e w' ⟨rfl, rfl⟩)
  go_ret2
  exact ⟨rfl, rfl⟩

theorem evC5 (a b : Int) (w : World) : Calls Tryz.prog 81 #[.int .i64 a, .int .i64 b] w fun e w' => e = .returned (.tuple #[.int .i64 (Ev.flg (decide (a < b))).1, .int .i64 (Ev.flg (decide (a < b))).2]) ∧ w = w' := by
  go_enter Tryz.func81, Tryz.ntmps81
  go_wp2_with (go_at_call 77; (refine (evAnswer _ _).mono ?_); rintro e w' ⟨rfl, rfl⟩)
  go_ret2
  exact ⟨rfl, rfl⟩

theorem evC6 (a b : Int) (w : World) : Calls Tryz.prog 82 #[.int .i64 a, .int .i64 b] w fun e w' => e = .returned (.tuple #[.int .i64 (Ev.flg (decide (a ≤ b))).1, .int .i64 (Ev.flg (decide (a ≤ b))).2]) ∧ w = w' := by
  go_enter Tryz.func82, Tryz.ntmps82
  go_wp2_with (go_at_call 77; (refine (evAnswer _ _).mono ?_); rintro e w' ⟨rfl, rfl⟩)
  go_ret2
  exact ⟨rfl, rfl⟩

theorem evC7 (a b : Int) (w : World) : Calls Tryz.prog 83 #[.int .i64 a, .int .i64 b] w fun e w' => e = .returned (.tuple #[.int .i64 (Ev.flg ((a != 0) && (b != 0))).1, .int .i64 (Ev.flg ((a != 0) && (b != 0))).2]) ∧ w = w' := by
  have T1 := Lib.hid (fun w => evTruth a w)
  have T2 := Lib.hid (fun w => evTruth b w)
  generalize (a != 0) = p at *
  generalize (b != 0) = q at *
  cases p <;> cases q
  all_goals
    go_enter Tryz.func83, Tryz.ntmps83
    go_wp2_with (first | (go_at_call 21; (with_reducible first | refine (T1.out _).mono ?_ | refine (T2.out _).mono ?_); rintro e w' ⟨rfl, rfl⟩) | (go_at_call 77; (refine (evAnswer _ _).mono ?_); rintro e w' ⟨rfl, rfl⟩))
    go_ret2
    exact ⟨rfl, rfl⟩

theorem evC8 (a b : Int) (w : World) : Calls Tryz.prog 84 #[.int .i64 a, .int .i64 b] w fun e w' => e = .returned (.tuple #[.int .i64 (Ev.flg ((a != 0) || (b != 0))).1, .int .i64 (Ev.flg ((a != 0) || (b != 0))).2]) ∧ w = w' := by
  have T1 := Lib.hid (fun w => evTruth a w)
  have T2 := Lib.hid (fun w => evTruth b w)
  generalize (a != 0) = p at *
  generalize (b != 0) = q at *
  cases p <;> cases q
  all_goals
    go_enter Tryz.func84, Tryz.ntmps84
    go_wp2_with (first | (go_at_call 21; (with_reducible first | refine (T1.out _).mono ?_ | refine (T2.out _).mono ?_); rintro e w' ⟨rfl, rfl⟩) | (go_at_call 77; (refine (evAnswer _ _).mono ?_); rintro e w' ⟨rfl, rfl⟩))
    go_ret2
    exact ⟨rfl, rfl⟩

theorem evC9 (a b : Int) (w : World) : Calls Tryz.prog 85 #[.int .i64 a, .int .i64 b] w fun e w' => e = .returned (.tuple #[.int .i64 (Ev.flg ((a != 0) != (b != 0))).1, .int .i64 (Ev.flg ((a != 0) != (b != 0))).2]) ∧ w = w' := by
  have T1 := Lib.hid (fun w => evTruth a w)
  have T2 := Lib.hid (fun w => evTruth b w)
  generalize (a != 0) = p at *
  generalize (b != 0) = q at *
  cases p <;> cases q
  all_goals
    go_enter Tryz.func85, Tryz.ntmps85
    go_wp2_with (first | (go_at_call 21; (with_reducible first | refine (T1.out _).mono ?_ | refine (T2.out _).mono ?_); rintro e w' ⟨rfl, rfl⟩) | (go_at_call 77; (refine (evAnswer _ _).mono ?_); rintro e w' ⟨rfl, rfl⟩))
    go_ret2
    exact ⟨rfl, rfl⟩

/-- The table of operators. -/
def binT : Array Value := #[.nilFunc, .nilFunc, .nilFunc, .func (Fn.func 70) #[] #[], .func (Fn.func 71) #[] #[], .func (Fn.func 72) #[] #[], .func (Fn.func 73) #[] #[], .func (Fn.func 74) #[] #[], .nilFunc, .nilFunc, .nilFunc, .func (Fn.func 75) #[] #[], .nilFunc, .nilFunc, .nilFunc, .nilFunc, .nilFunc, .func (Fn.func 76) #[] #[], .func (Fn.func 78) #[] #[], .func (Fn.func 79) #[] #[], .func (Fn.func 80) #[] #[], .func (Fn.func 81) #[] #[], .func (Fn.func 82) #[] #[], .func (Fn.func 83) #[] #[], .func (Fn.func 84) #[] #[], .func (Fn.func 85) #[] #[]]
theorem info_bin : (Tryz.prog.info? 76).map (·.size) = some 26 := by kernel_rfl
section
variable {ops : Array Oper} {rest : List Oper} {dst : Option Tmp} {ty : TypeId} {pos : String} {after : Array Edge} {a : Act} {w : World} {Q : Exit → Act → World → Prop}
theorem st_bin (x y : Tmp) {R : Nat} {t : TypeId} {old : Array Value} (hx : a.eval (.tmp x) = .pointer (some ⟨R, 0, none⟩)) (hy : a.eval (.tmp y) = .agg binT) (X : Bx w R old t) (ho : old.size = 26) {w0 : World} (q : Qw w0 w) (hR : w0.heap.size ≤ R)
    (h : ∀ w', Bx w' R binT t → Qw w0 w' → wpList Tryz.prog ops Q rest (a.put dst undef) w') : wpList Tryz.prog ops Q (⟨dst, .store 76 (.tmp x) (.tmp y), ty, pos, after, none⟩ :: rest) a w :=
  wpList_store_row rfl 76 (.tmp x) (.tmp y) rfl R binT hx hy t old X info_bin ho (by kernel_rfl) (h _ (X.sr _) (q.sr hR _))
end
theorem ret_bin {fn : Func} {s : Nat} {a : Act} {w : World} {b : Nat} {t : TypeId} (hr : fn.results = #[.cell s 76]) (hs : a.tmps[s]?.getD undef = .pointer (some ⟨b, 0, none⟩)) (X : Bx w b binT t) :
    (results fn a.tmps).run Tryz.prog w = .ok (.agg binT) w := by
  have hl := run_loadVar_row (P := Tryz.prog) w b t 76 binT (0, 0) _ X Tryz.underlying76 rfl info_bin
  simp [results, hr, hs, Sem.run_bind, Sem.run_pure, asAddr, hl]
set_option maxRecDepth 100000 in
theorem evBinary (w : World) : Calls Tryz.prog 49 #[] w fun e w' => e = .returned (.agg binT) ∧ Qw w w' := by
  go_enter Tryz.func49, Tryz.ntmps49
  go_wp2_with (refine st_bin 0 1 rfl rfl (Bx.new _ _ _) rfl (Qw.al (Qw.refl w) _) (Nat.le_refl _) ?_; intro w2 X q)
  exact bodyPost_ret (ret_bin Tryz.results49 rfl X) rfl ⟨rfl, q⟩
end Go.Proofs.YtkfipjlknfinpaaGreatDoor
