
/- What the frames of the rows share whose list of variables holds the table of powers of ten. -/
import Derived.Test.YthfgpmdgklphkaaDoorCards
import Derived.Test.YthfgpmdgklphkaaDoorTie
import Derived.ProofKit
import Derived.OpenShut
import Derived.Deep.DeepHandedRow
import Derived.Lib.LaidTab
import Derived.Stop.LaidErr
import Derived.Test.YthfgpmdgklphkaaDoorFxH
set_option linter.unusedVariables false
set_option linter.unusedSimpArgs false
namespace Go.Proofs.YthfgpmdgklphkaaDoor
open Go.ChangeShapes Go.WideShapes Go.ChangeAt Go.RowKit

theorem i64_of_wf {a : Int} (h : (Lit.int .i64 a).wf = true) : -9223372036854775808 ≤ a ∧ a ≤ 9223372036854775807 := by
  simp [Lit.wf, IntKind.min, IntKind.max, IntKind.signed, IntKind.bits] at h
  omega

theorem ownL : ownKnob Tryd.prog.godebug = none := by kernel_rfl
theorem gPow : Tryd.prog.globalNamed "internal/strconv.uint64pow10" = some 2 := by kernel_rfl
theorem gPowType : (Tryd.prog.globals[2]?).map (·.type) = some 97 := by kernel_rfl
theorem gPowCells : Tryd.prog.cellsOf 97 = 20 := by kernel_rfl
theorem gU64Cells : Tryd.prog.cellsOf 59 = 1 := by kernel_rfl
theorem tabData_pow : (Rows.laid_internal_strconv_uint64pow10 : DataW Unit) = Lib.tabData .u64 Lib.pow10Tab := by kernel_rfl

/-- The tables that the rows list. -/
def tabs : List (String × DataW Unit) := [("math/bits.deBruijn32tab", Rows.laid_math_bits_deBruijn32tab), ("math/bits.deBruijn64tab", Rows.laid_math_bits_deBruijn64tab), ("internal/strconv.uint64pow10", Rows.laid_internal_strconv_uint64pow10)]

/-- What the list gives. -/
theorem tableL {W : World} (h : laidMetH Tryd.prog tabs W) : Tb W := by
  have h1 : laidMet Tryd.prog tabs W := h
  have h2 := h1.tail.tail
  rw [tabData_pow] at h2
  exact Lib.tabBelow_of_tabIs (Lib.tabIs_of_head (rest := []) gPow gPowType Tryd.underlying97 Tryd.underlying59 gU64Cells gPowCells h2)

/-- The values of a table. -/
def cellsD : DataW Unit → Array Value
  | .agg l => (l.map fun x => match x with
    | .lit (.int k n) => .int k n
    | _ => .bool false).toArray
  | _ => #[]

/-- A world in which the tables lie as their initialisers lay them. -/
noncomputable def laidWorldL (os : Os) : World :=
  let h0 := (World.holding Tryd.prog os ⟨#[], #[], []⟩).heap
  let put (x : DataW Unit) (o : Obj) : Obj := match o with
    | .cells _ t frozen => .cells (cellsD x) t frozen
    | o => o
  let h1 := h0.modify 3 (put Rows.laid_math_bits_deBruijn32tab)
  let h2 := h1.modify 4 (put Rows.laid_math_bits_deBruijn64tab)
  let h3 := h2.modify 2 (put Rows.laid_internal_strconv_uint64pow10)
  { World.holding Tryd.prog os ⟨#[], #[], []⟩ with heap := h3 }

theorem laid_metL (os : Os) (args : Array Value) : laidMet Tryd.prog tabs ((laidWorldL os).forCall (fun _ _ => 0) ⟨#[], args, []⟩).memory :=
  laidMet_of_run' 8 (by kernel_rfl) (by kernel_rfl)

end Go.Proofs.YthfgpmdgklphkaaDoor
