
/- What the frames of the rows share whose list of variables holds the table of the steps' angles. -/
import Derived.Test.YtkkgjcjjjbikfaaDoorCards
import Derived.Test.YtkkgjcjjjbikfaaDoorTie
import Derived.ProofKit
import Derived.OpenShut
import Derived.Deep.DeepHandedRow
import Derived.Lib.LaidTab
import Derived.Stop.LaidErr
import Derived.Test.YtkkgjcjjjbikfaaDoorCrD
set_option linter.unusedVariables false
set_option linter.unusedSimpArgs false
namespace Go.Proofs.YtkkgjcjjjbikfaaDoor
open Go.ChangeShapes Go.WideShapes Go.ChangeAt Go.RowKit

theorem i64_wfC {a : Int} (h : (Lit.int .i64 a).wf = true) : -9223372036854775808 ≤ a ∧ a ≤ 9223372036854775807 := by
  simp [Lit.wf, IntKind.min, IntKind.max, IntKind.signed, IntKind.bits] at h
  omega

theorem ownC : ownKnob Tryd.prog.godebug = none := by kernel_rfl
theorem gSteps : Tryd.prog.globalNamed "cnc/cordic.steps" = some 2 := by kernel_rfl
theorem gStepsType : (Tryd.prog.globals[2]?).map (·.type) = some 54 := by kernel_rfl
theorem gStepsCells : Tryd.prog.cellsOf 54 = 26 := by kernel_rfl
theorem gIntCellsC : Tryd.prog.cellsOf 3 = 1 := by kernel_rfl
theorem tabData_steps : (Rows.laid_cnc_cordic_steps : DataW Unit) = Lib.tabData .i64 Cm.tabT := by kernel_rfl

/-- The table that the rows list. -/
def tabsC : List (String × DataW Unit) := [("cnc/cordic.steps", Rows.laid_cnc_cordic_steps)]

/-- What the list gives. -/
theorem tableC {W : World} (h : laidMetH Tryd.prog tabsC W) : Tc W := by
  have h1 : laidMet Tryd.prog tabsC W := h
  unfold tabsC at h1
  rw [tabData_steps] at h1
  have h2 := Lib.tabIs_of_head (rest := []) gSteps gStepsType Tryd.underlying54 Tryd.underlying3 gIntCellsC gStepsCells h1
  have hc : ∀ i : Nat, i < 26 → W.cell? ⟨2, i, none⟩ = some (.int .i64 (Cm.T i)) := fun i hi => h2.cell gSteps i hi
  refine ⟨?_, hc⟩
  have c := hc 0 (by decide)
  rcases Nat.lt_or_ge 2 W.heap.size with h | h
  · exact h
  · simp [World.cell?, Array.getElem?_eq_none h] at c

/-- The values of a table. -/
def cellsC : DataW Unit → Array Value
  | .agg l => (l.map fun x => match x with
    | .lit (.int k n) => .int k n
    | _ => .bool false).toArray
  | _ => #[]

/-- A world in which the table lies as its initialiser lays it. -/
noncomputable def laidWorldC (os : Os) : World :=
  let h0 := (World.holding Tryd.prog os ⟨#[], #[], []⟩).heap
  let put (x : DataW Unit) (o : Obj) : Obj := match o with
    | .cells _ t frozen => .cells (cellsC x) t frozen
    | o => o
  { World.holding Tryd.prog os ⟨#[], #[], []⟩ with heap := h0.modify 2 (put Rows.laid_cnc_cordic_steps) }

theorem laid_metC (os : Os) (args : Array Value) : laidMet Tryd.prog tabsC ((laidWorldC os).forCall (fun _ _ => 0) ⟨#[], args, []⟩).memory :=
  laidMet_of_run' 8 (by kernel_rfl) (by kernel_rfl)

theorem btwC (v l h : Int) (lh : l ≤ h) : l ≤ l + v % (h - l + 1) ∧ l + v % (h - l + 1) ≤ h := by
  have a := Int.emod_nonneg v (show h - l + 1 ≠ 0 by omega)
  have b := Int.emod_lt_of_pos v (show 0 < h - l + 1 by omega)
  omega

/-! ### the sanity check of the laws -/

theorem aw1 : Cm.sc 90000000 = (0, 1073741824) := by decide +kernel
theorem aw2 : rotv 5 0 (-90000000) = (0, -5) ∧ rotok 5 0 = true := by decide +kernel
theorem aw3 : Cm.angv 0 (-3) = 270000000 ∧ Cm.aok 0 (-3) = true := by decide +kernel

set_option maxRecDepth 100000 in
theorem awakeC (w : World) (ht : Tc w) : Calls Tryd.prog 18 #[] w fun e w' => e = .returned (.bool true) ∧ Qw w w' := by
  have c1 := fun w ht => co_sincos 90000000 (by decide) (by decide) w ht
  have c2 := fun w ht => co_rotate 5 0 (-90000000) (by decide) (by decide) w ht
  have c3 := fun w ht => co_angle 0 (-3) w ht
  rw [aw1] at c1
  rw [aw2.1, aw2.2] at c2
  rw [aw3.1, aw3.2] at c3
  have HT := Lib.hid ht
  have C1 := Lib.hid c1
  have C2 := Lib.hid c2
  have C3 := Lib.hid c3
  have q0 := Qw.refl w
  clear c1 c2 c3 ht
  go_enter Tryd.func18, Tryd.ntmps18
  go_wp2_with (first | (go_at_call 14; ((with_reducible refine (C1.out _ (HT.out.kept q0)).mono ?_); rintro e w' ⟨rfl, h⟩; replace q0 := Qw.trans q0 h; clear h)) | (go_at_call 19; ((with_reducible refine (C2.out _ (HT.out.kept q0)).mono ?_); rintro e w' ⟨rfl, h⟩; replace q0 := Qw.trans q0 h; clear h)) | (go_at_call 21; ((with_reducible refine (C3.out _ (HT.out.kept q0)).mono ?_); rintro e w' ⟨rfl, h⟩; replace q0 := Qw.trans q0 h; clear h)))
  go_ret
  exact ⟨rfl, q0⟩

end Go.Proofs.YtkkgjcjjjbikfaaDoor
