
/- Package eval: the functions that the table of operators holds, and the table. -/
import Derived.Test.YtkfipjlknfinpaaDoorEvA
import Derived.Test.YtkfipjlknfinpaaDoorVAX
set_option linter.unusedVariables false
set_option linter.unusedSimpArgs false
namespace Go.Proofs.YtkfipjlknfinpaaDoor
open Go.RowKit

theorem evC1 (a b : Int) (w : World) : Calls Tryd.prog 65 #[.int .i64 a, .int .i64 b] w fun e w' => e = .returned (.tuple #[.int .i64 (Ev.flg (a == b)).1, .int .i64 (Ev.flg (a == b)).2]) ∧ w = w' := by
  go_enter Tryd.func65, Tryd.ntmps65
  go_wp2_with (go_at_call 66; (refine (evAnswer _ _).mono ?_); rintro e w' ⟨rfl, rfl⟩)
  go_ret2
  exact ⟨rfl, rfl⟩

theorem evC2 (a b : Int) (w : World) : Calls Tryd.prog 67 #[.int .i64 a, .int .i64 b] w fun e w' => e = .returned (.tuple #[.int .i64 (Ev.flg (a != b)).1, .int .i64 (Ev.flg (a != b)).2]) ∧ w = w' := by
  go_enter Tryd.func67, Tryd.ntmps67
  go_wp2_with (go_at_call 66; (refine (evAnswer _ _).mono ?_); rintro e w' ⟨rfl, rfl⟩)
  go_ret2
  exact ⟨rfl, rfl⟩

theorem evC3 (a b : Int) (w : World) : Calls Tryd.prog 68 #[.int .i64 a, .int .i64 b] w fun e w' => e = .returned (.tuple #[.int .i64 (Ev.flg (decide (b < a))).1, .int .i64 (Ev.flg (decide (b < a))).2]) ∧ w = w' := by
  go_enter Tryd.func68, Tryd.ntmps68
  go_wp2_with (go_at_call 66; (refine (evAnswer _ _).mono ?_); rintro e w' ⟨rfl, rfl⟩)
  go_ret2
  exact ⟨rfl, rfl⟩

theorem evC4 (a b : Int) (w : World) : Calls Tryd.prog 69 #[.int .i64 a, .int .i64 b] w fun e w' => e = .returned (.tuple #[.int .i64 (Ev.flg (decide (b ≤ a))).1, .int .i64 (Ev.flg (decide (b ≤ a))).2]) ∧ w = w' := by
  go_enter Tryd.func69, Tryd.ntmps69
  go_wp2_with (go_at_call 66; (refine (evAnswer _ _).mono ?_); rintro e w' ⟨rfl, rfl⟩)
  go_ret2
  exact ⟨rfl, rfl⟩

theorem evC5 (a b : Int) (w : World) : Calls Tryd.prog 70 #[.int .i64 a, .int .i64 b] w fun e w' => e = .returned (.tuple #[.int .i64 (Ev.flg (decide (a < b))).1, .int .i64 (Ev.flg (decide (a < b))).2]) ∧ w = w' := by
  go_enter Tryd.func70, Tryd.ntmps70
  go_wp2_with (go_at_call 66; (refine (evAnswer _ _).mono ?_); rintro e w' ⟨rfl, rfl⟩)
  go_ret2
  exact ⟨rfl, rfl⟩

theorem evC6 (a b : Int) (w : World) : Calls Tryd.prog 71 #[.int .i64 a, .int .i64 b] w fun e w' => e = .returned (.tuple #[.int .i64 (Ev.flg (decide (a ≤ b))).1, .int .i64 (Ev.flg (decide (a ≤ b))).2]) ∧ w = w' := by
  go_enter Tryd.func71, Tryd.ntmps71
  go_wp2_with (go_at_call 66; (refine (evAnswer _ _).mono ?_); rintro e w' ⟨rfl, rfl⟩)
  go_ret2
  exact ⟨rfl, rfl⟩

theorem evC7 (a b : Int) (w : World) : Calls Tryd.prog 72 #[.int .i64 a, .int .i64 b] w fun e w' => e = .returned (.tuple #[.int .i64 (Ev.flg ((a != 0) && (b != 0))).1, .int .i64 (Ev.flg ((a != 0) && (b != 0))).2]) ∧ w = w' := by
  have T1 := Lib.hid (fun w => evTruth a w)
  have T2 := Lib.hid (fun w => evTruth b w)
  generalize (a != 0) = p at *
  generalize (b != 0) = q at *
  cases p <;> cases q
  all_goals
    go_enter Tryd.func72, Tryd.ntmps72
    go_wp2_with (first | (go_at_call 20; (with_reducible first | refine (T1.out _).mono ?_ | refine (T2.out _).mono ?_); rintro e w' ⟨rfl, rfl⟩) | (go_at_call 66; (refine (evAnswer _ _).mono ?_); rintro e w' ⟨rfl, rfl⟩))
    go_ret2
    exact ⟨rfl, rfl⟩

theorem evC8 (a b : Int) (w : World) : Calls Tryd.prog 73 #[.int .i64 a, .int .i64 b] w fun e w' => e = .returned (.tuple #[.int .i64 (Ev.flg ((a != 0) || (b != 0))).1, .int .i64 (Ev.flg ((a != 0) || (b != 0))).2]) ∧ w = w' := by
  have T1 := Lib.hid (fun w => evTruth a w)
  have T2 := Lib.hid (fun w => evTruth b w)
  generalize (a != 0) = p at *
  generalize (b != 0) = q at *
  cases p <;> cases q
  all_goals
    go_enter Tryd.func73, Tryd.ntmps73
    go_wp2_with (first | (go_at_call 20; (with_reducible first | refine (T1.out _).mono ?_ | refine (T2.out _).mono ?_); rintro e w' ⟨rfl, rfl⟩) | (go_at_call 66; (refine (evAnswer _ _).mono ?_); rintro e w' ⟨rfl, rfl⟩))
    go_ret2
    exact ⟨rfl, rfl⟩

theorem evC9 (a b : Int) (w : World) : Calls Tryd.prog 74 #[.int .i64 a, .int .i64 b] w fun e w' => e = .returned (.tuple #[.int .i64 (Ev.flg ((a != 0) != (b != 0))).1, .int .i64 (Ev.flg ((a != 0) != (b != 0))).2]) ∧ w = w' := by
  have T1 := Lib.hid (fun w => evTruth a w)
  have T2 := Lib.hid (fun w => evTruth b w)
  generalize (a != 0) = p at *
  generalize (b != 0) = q at *
  cases p <;> cases q
  all_goals
    go_enter Tryd.func74, Tryd.ntmps74
    go_wp2_with (first | (go_at_call 20; (with_reducible first | refine (T1.out _).mono ?_ | refine (T2.out _).mono ?_); rintro e w' ⟨rfl, rfl⟩) | (go_at_call 66; (refine (evAnswer _ _).mono ?_); rintro e w' ⟨rfl, rfl⟩))
    go_ret2
    exact ⟨rfl, rfl⟩

/-- The table of operators. -/
def binT : Array Value := #[.nilFunc, .nilFunc, .nilFunc, .func (Fn.func 59) #[] #[], .func (Fn.func 60) #[] #[], .func (Fn.func 61) #[] #[], .func (Fn.func 62) #[] #[], .func (Fn.func 63) #[] #[], .nilFunc, .nilFunc, .nilFunc, .func (Fn.func 64) #[] #[], .nilFunc, .nilFunc, .nilFunc, .nilFunc, .nilFunc, .func (Fn.func 65) #[] #[], .func (Fn.func 67) #[] #[], .func (Fn.func 68) #[] #[], .func (Fn.func 69) #[] #[], .func (Fn.func 70) #[] #[], .func (Fn.func 71) #[] #[], .func (Fn.func 72) #[] #[], .func (Fn.func 73) #[] #[], .func (Fn.func 74) #[] #[]]
theorem info_bin : (Tryd.prog.info? 77).map (·.size) = some 26 := by kernel_rfl
section
variable {ops : Array Oper} {rest : List Oper} {dst : Option Tmp} {ty : TypeId} {pos : String} {after : Array Edge} {a : Act} {w : World} {Q : Exit → Act → World → Prop}
theorem st_bin (x y : Tmp) {R : Nat} {t : TypeId} {old : Array Value} (hx : a.eval (.tmp x) = .pointer (some ⟨R, 0, none⟩)) (hy : a.eval (.tmp y) = .agg binT) (X : Bx w R old t) (ho : old.size = 26) {w0 : World} (q : Qw w0 w) (hR : w0.heap.size ≤ R)
    (h : ∀ w', Bx w' R binT t → Qw w0 w' → wpList Tryd.prog ops Q rest (a.put dst undef) w') : wpList Tryd.prog ops Q (⟨dst, .store 77 (.tmp x) (.tmp y), ty, pos, after, none⟩ :: rest) a w :=
  wpList_store_row rfl 77 (.tmp x) (.tmp y) rfl R binT hx hy t old X info_bin ho (by kernel_rfl) (h _ (X.sr _) (q.sr hR _))
end
theorem ret_bin {fn : Func} {s : Nat} {a : Act} {w : World} {b : Nat} {t : TypeId} (hr : fn.results = #[.cell s 77]) (hs : a.tmps[s]?.getD undef = .pointer (some ⟨b, 0, none⟩)) (X : Bx w b binT t) :
    (results fn a.tmps).run Tryd.prog w = .ok (.agg binT) w := by
  have hl := run_loadVar_row (P := Tryd.prog) w b t 77 binT (0, 0) _ X Tryd.underlying77 rfl info_bin
  simp [results, hr, hs, Sem.run_bind, Sem.run_pure, asAddr, hl]
set_option maxRecDepth 100000 in
theorem evBinary (w : World) : Calls Tryd.prog 51 #[] w fun e w' => e = .returned (.agg binT) ∧ Qw w w' := by
  go_enter Tryd.func51, Tryd.ntmps51
  go_wp2_with (refine st_bin 0 1 rfl rfl (Bx.new _ _ _) rfl (Qw.al (Qw.refl w) _) (Nat.le_refl _) ?_; intro w2 X q)
  exact bodyPost_ret (ret_bin Tryd.results51 rfl X) rfl ⟨rfl, q⟩
end Go.Proofs.YtkfipjlknfinpaaDoor
