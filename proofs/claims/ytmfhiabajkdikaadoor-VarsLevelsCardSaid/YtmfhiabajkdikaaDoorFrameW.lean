
/- What the frames of the rows share whose list of variables holds the table of the letters. -/
import Derived.Test.YtmfhiabajkdikaaDoorCards
import Derived.Test.YtmfhiabajkdikaaDoorTie
import Derived.ProofKit
import Derived.OpenShut
import Derived.Deep.DeepHandedRow
import Derived.Lib.LaidTab
import Derived.Stop.LaidErr
import Derived.Test.YtmfhiabajkdikaaDoorVlA
import Derived.Carry
import Derived.ChangeMaps5
import Derived.Deep.Slices
import Derived.Deep.Fields
import Derived.ChangeSame
set_option linter.unusedVariables false
set_option linter.unusedSimpArgs false
namespace Go.Proofs.YtmfhiabajkdikaaDoor
open Go.ChangeShapes Go.WideShapes Go.ChangeAt Go.RowKit

theorem i64_wfW {a : Int} (h : (Lit.int .i64 a).wf = true) : -9223372036854775808 ≤ a ∧ a ≤ 9223372036854775807 := by
  simp [Lit.wf, IntKind.min, IntKind.max, IntKind.signed, IntKind.bits] at h
  omega

theorem ownW : ownKnob Tryd.prog.godebug = none := by kernel_rfl
theorem gTab : Tryd.prog.globalNamed "cnc/vars.letters" = some 0 := by kernel_rfl
theorem gTabType : (Tryd.prog.globals[0]?).map (·.type) = some 63 := by kernel_rfl
theorem gTabCells : Tryd.prog.cellsOf 63 = 91 := by kernel_rfl
theorem gIntCellsW : Tryd.prog.cellsOf 3 = 1 := by kernel_rfl
theorem tabData_letters : (Rows.laid_cnc_vars_letters : DataW Unit) = Lib.tabData .i64 Vs.tab := by kernel_rfl

/-- The table that the rows list. -/
def tabsW : List (String × DataW Unit) := [("cnc/vars.letters", Rows.laid_cnc_vars_letters)]

/-- What the list gives. -/
theorem tableW {W : World} (h : laidMetH Tryd.prog tabsW W) : Tl W := by
  have h1 : laidMet Tryd.prog tabsW W := h
  unfold tabsW at h1
  rw [tabData_letters] at h1
  have h2 := Lib.tabIs_of_head (rest := []) gTab gTabType Tryd.underlying63 Tryd.underlying3 gIntCellsW gTabCells h1
  have hc : ∀ i : Nat, i < 91 → W.cell? ⟨0, i, none⟩ = some (.int .i64 (Vs.tab.getD i 0)) := fun i hi => h2.cell gTab i hi
  refine ⟨?_, hc⟩
  have c := hc 0 (by decide)
  rcases Nat.lt_or_ge 0 W.heap.size with h | h
  · exact h
  · simp [World.cell?, Array.getElem?_eq_none h] at c

/-- The values of a table. -/
def cellsW : DataW Unit → Array Value
  | .agg l => (l.map fun x => match x with
    | .lit (.int k n) => .int k n
    | _ => .bool false).toArray
  | _ => #[]

/-- A world in which the table lies as its initialiser lays it. -/
noncomputable def laidWorldW (os : Os) : World :=
  let h0 := (World.holding Tryd.prog os ⟨#[], #[], []⟩).heap
  let put (x : DataW Unit) (o : Obj) : Obj := match o with
    | .cells _ t frozen => .cells (cellsW x) t frozen
    | o => o
  { World.holding Tryd.prog os ⟨#[], #[], []⟩ with heap := h0.modify 0 (put Rows.laid_cnc_vars_letters) }

theorem laid_metW (os : Os) (args : Array Value) : laidMet Tryd.prog tabsW ((laidWorldW os).forCall (fun _ _ => 0) ⟨#[], args, []⟩).memory :=
  laidMet_of_run' 8 (by kernel_rfl) (by kernel_rfl)


end Go.Proofs.YtmfhiabajkdikaaDoor
