/-
  No cell of these rows narrows 'for every input' (looked for: loops, veiled, ifaces, maps, wideKeys, modest, calm, conditions, laid).
  DERIVED. THE GIVEN ROWS OF THIS SEAT. 10 by the template 'for every input the law returns true; each argument reads behind the call as it read before'; 0 by the template 'total and deterministic' (their statements: YtijakijjeoaikaaTotals.lean).
  GIVEN WITH THE SEED: the statements are not yours to turn. If you find one false, say at which input.
  Laid BY PROGRAM, IN A SANDBOX (cutbox-rows.mjs): the forced cells as the released guide's own fill.sh prints them over the translation f4d3df62c33c2ba9… (all of the seat's roots in one cut). By AI agents, Wed Nov 11 2026. No macro, syntax, notation, axiom, sorry.
-/
import Derived.Test.YtijakijjeoaikaaChecked
import GoSem.Claim
import GoSem.ClaimJoined
import GoSem.ClaimMapViews
import Derived.JoinedTies
import Derived.KernelRfl
namespace Go.Proofs.Ytijakijjeoaikaa
/- THE CELL 'sum', in the pinned program and in every row, IS THE sha256 OF THE DUMP (.gsa) THAT YtijakijjeoaikaaProg.lean LOADS. Nothing in Lean hashes anything: it is a label: what it is worth is what the hold of that sum in a sandbox is worth. -/
noncomputable def Try.pinned : Pinned := { name := "ytijakijjeoaikaa", sum := "f4d3df62c33c2ba97585f9a24d60bd9589785d50ecedf5c20498ddbf7673ed31", checked := Try.checked }
namespace Rows
def none {H : Type} : Left H := { results := [], args := [] }

/-- 'cnclaw11.ModalGroups': WHATEVER THE INPUT: true; the input reads as it did. -/
def modalGroupsSpec : ChangeSpec := { name := "modalGroups", fn := fun _ => fun
  | [d1, d2, d3, d4] => { results := [.lit (.bool true)], args := [d1, d2, d3, d4] }
  | _ => none }
def modalGroupsRow : OpenClaim := { program := "ytijakijjeoaikaa", sum := "f4d3df62c33c2ba97585f9a24d60bd9589785d50ecedf5c20498ddbf7673ed31", func := "cnc/cnclaw11.ModalGroups", spec := "modalGroups", unfollowed := true, recurses := true, named := ["math/bits.divideError", "math/bits.overflowError"], apart := false }
def ModalGroupsSaid : Prop := modalGroupsRow.holds Try.pinned (OpenSpec.ofChange modalGroupsSpec)

/-- ITS FALSE NEIGHBOUR: 'it returns false'. Refute it at one input. -/
def modalGroupsWrong : ChangeSpec := { name := "modalGroups", fn := fun _ => fun
  | [d1, d2, d3, d4] => { results := [.lit (.bool false)], args := [d1, d2, d3, d4] }
  | _ => none }
def ModalGroupsWrongFalsely : Prop := modalGroupsRow.holds Try.pinned (OpenSpec.ofChange modalGroupsWrong)

/-- 'cnclaw11.ModalStart': WHATEVER THE INPUT: true; the input reads as it did. -/
def modalStartSpec : ChangeSpec := { name := "modalStart", fn := fun _ => fun
  | [] => { results := [.lit (.bool true)], args := [] }
  | _ => none }
def modalStartRow : OpenClaim := { program := "ytijakijjeoaikaa", sum := "f4d3df62c33c2ba97585f9a24d60bd9589785d50ecedf5c20498ddbf7673ed31", func := "cnc/cnclaw11.ModalStart", spec := "modalStart", unfollowed := true, recurses := true, named := ["math/bits.divideError", "math/bits.overflowError"], apart := false }
def ModalStartSaid : Prop := modalStartRow.holds Try.pinned (OpenSpec.ofChange modalStartSpec)

/-- ITS FALSE NEIGHBOUR: 'it returns false'. Refute it at one input. -/
def modalStartWrong : ChangeSpec := { name := "modalStart", fn := fun _ => fun
  | [] => { results := [.lit (.bool false)], args := [] }
  | _ => none }
def ModalStartWrongFalsely : Prop := modalStartRow.holds Try.pinned (OpenSpec.ofChange modalStartWrong)

/-- 'cnclaw11.ModalCheck': WHATEVER THE INPUT: true; the input reads as it did. -/
def modalCheckSpec : ChangeSpec := { name := "modalCheck", fn := fun _ => fun
  | [d1, d2] => { results := [.lit (.bool true)], args := [d1, d2] }
  | _ => none }
def modalCheckRow : OpenClaim := { program := "ytijakijjeoaikaa", sum := "f4d3df62c33c2ba97585f9a24d60bd9589785d50ecedf5c20498ddbf7673ed31", func := "cnc/cnclaw11.ModalCheck", spec := "modalCheck", unfollowed := true, recurses := true, named := ["math/bits.divideError", "math/bits.overflowError"], apart := false }
def ModalCheckSaid : Prop := modalCheckRow.holds Try.pinned (OpenSpec.ofChange modalCheckSpec)

/-- ITS FALSE NEIGHBOUR: 'it returns false'. Refute it at one input. -/
def modalCheckWrong : ChangeSpec := { name := "modalCheck", fn := fun _ => fun
  | [d1, d2] => { results := [.lit (.bool false)], args := [d1, d2] }
  | _ => none }
def ModalCheckWrongFalsely : Prop := modalCheckRow.holds Try.pinned (OpenSpec.ofChange modalCheckWrong)

/-- 'cnclaw11.ModalRate': WHATEVER THE INPUT: true; the input reads as it did. -/
def modalRateSpec : ChangeSpec := { name := "modalRate", fn := fun _ => fun
  | [d1, d2] => { results := [.lit (.bool true)], args := [d1, d2] }
  | _ => none }
def modalRateRow : OpenClaim := { program := "ytijakijjeoaikaa", sum := "f4d3df62c33c2ba97585f9a24d60bd9589785d50ecedf5c20498ddbf7673ed31", func := "cnc/cnclaw11.ModalRate", spec := "modalRate", unfollowed := true, recurses := true, named := ["math/bits.divideError", "math/bits.overflowError"], apart := false }
def ModalRateSaid : Prop := modalRateRow.holds Try.pinned (OpenSpec.ofChange modalRateSpec)

/-- ITS FALSE NEIGHBOUR: 'it returns false'. Refute it at one input. -/
def modalRateWrong : ChangeSpec := { name := "modalRate", fn := fun _ => fun
  | [d1, d2] => { results := [.lit (.bool false)], args := [d1, d2] }
  | _ => none }
def ModalRateWrongFalsely : Prop := modalRateRow.holds Try.pinned (OpenSpec.ofChange modalRateWrong)

/-- 'cnclaw11.ModalApply': WHATEVER THE INPUT: true; the input reads as it did. -/
def modalApplySpec : ChangeSpec := { name := "modalApply", fn := fun _ => fun
  | [d1, d2, d3, d4] => { results := [.lit (.bool true)], args := [d1, d2, d3, d4] }
  | _ => none }
def modalApplyRow : OpenClaim := { program := "ytijakijjeoaikaa", sum := "f4d3df62c33c2ba97585f9a24d60bd9589785d50ecedf5c20498ddbf7673ed31", func := "cnc/cnclaw11.ModalApply", spec := "modalApply", unfollowed := true, recurses := true, named := ["math/bits.divideError", "math/bits.overflowError"], apart := false }
def ModalApplySaid : Prop := modalApplyRow.holds Try.pinned (OpenSpec.ofChange modalApplySpec)

/-- ITS FALSE NEIGHBOUR: 'it returns false'. Refute it at one input. -/
def modalApplyWrong : ChangeSpec := { name := "modalApply", fn := fun _ => fun
  | [d1, d2, d3, d4] => { results := [.lit (.bool false)], args := [d1, d2, d3, d4] }
  | _ => none }
def ModalApplyWrongFalsely : Prop := modalApplyRow.holds Try.pinned (OpenSpec.ofChange modalApplyWrong)

/-- 'cnclaw11.ModalOrder': WHATEVER THE INPUT: true; the input reads as it did. -/
def modalOrderSpec : ChangeSpec := { name := "modalOrder", fn := fun _ => fun
  | [d1, d2, d3, d4] => { results := [.lit (.bool true)], args := [d1, d2, d3, d4] }
  | _ => none }
def modalOrderRow : OpenClaim := { program := "ytijakijjeoaikaa", sum := "f4d3df62c33c2ba97585f9a24d60bd9589785d50ecedf5c20498ddbf7673ed31", func := "cnc/cnclaw11.ModalOrder", spec := "modalOrder", unfollowed := true, recurses := true, named := ["math/bits.divideError", "math/bits.overflowError"], apart := false }
def ModalOrderSaid : Prop := modalOrderRow.holds Try.pinned (OpenSpec.ofChange modalOrderSpec)

/-- ITS FALSE NEIGHBOUR: 'it returns false'. Refute it at one input. -/
def modalOrderWrong : ChangeSpec := { name := "modalOrder", fn := fun _ => fun
  | [d1, d2, d3, d4] => { results := [.lit (.bool false)], args := [d1, d2, d3, d4] }
  | _ => none }
def ModalOrderWrongFalsely : Prop := modalOrderRow.holds Try.pinned (OpenSpec.ofChange modalOrderWrong)

/-- 'cnclaw11.ModalCodes': WHATEVER THE INPUT: true; the input reads as it did. -/
def modalCodesSpec : ChangeSpec := { name := "modalCodes", fn := fun _ => fun
  | [d] => { results := [.lit (.bool true)], args := [d] }
  | _ => none }
def modalCodesRow : OpenClaim := { program := "ytijakijjeoaikaa", sum := "f4d3df62c33c2ba97585f9a24d60bd9589785d50ecedf5c20498ddbf7673ed31", func := "cnc/cnclaw11.ModalCodes", spec := "modalCodes", unfollowed := true, recurses := true, named := ["math/bits.divideError", "math/bits.overflowError"], apart := false }
def ModalCodesSaid : Prop := modalCodesRow.holds Try.pinned (OpenSpec.ofChange modalCodesSpec)

/-- ITS FALSE NEIGHBOUR: 'it returns false'. Refute it at one input. -/
def modalCodesWrong : ChangeSpec := { name := "modalCodes", fn := fun _ => fun
  | [d] => { results := [.lit (.bool false)], args := [d] }
  | _ => none }
def ModalCodesWrongFalsely : Prop := modalCodesRow.holds Try.pinned (OpenSpec.ofChange modalCodesWrong)

/-- 'cnclaw11.ModalSets': WHATEVER THE INPUT: true; the input reads as it did. -/
def modalSetsSpec : ChangeSpec := { name := "modalSets", fn := fun _ => fun
  | [d1, d2] => { results := [.lit (.bool true)], args := [d1, d2] }
  | _ => none }
def modalSetsRow : OpenClaim := { program := "ytijakijjeoaikaa", sum := "f4d3df62c33c2ba97585f9a24d60bd9589785d50ecedf5c20498ddbf7673ed31", func := "cnc/cnclaw11.ModalSets", spec := "modalSets", unfollowed := true, recurses := true, named := ["math/bits.divideError", "math/bits.overflowError"], apart := false }
def ModalSetsSaid : Prop := modalSetsRow.holds Try.pinned (OpenSpec.ofChange modalSetsSpec)

/-- ITS FALSE NEIGHBOUR: 'it returns false'. Refute it at one input. -/
def modalSetsWrong : ChangeSpec := { name := "modalSets", fn := fun _ => fun
  | [d1, d2] => { results := [.lit (.bool false)], args := [d1, d2] }
  | _ => none }
def ModalSetsWrongFalsely : Prop := modalSetsRow.holds Try.pinned (OpenSpec.ofChange modalSetsWrong)

/-- 'cnclaw11.ModalConflicts': WHATEVER THE INPUT: true; the input reads as it did. -/
def modalConflictsSpec : ChangeSpec := { name := "modalConflicts", fn := fun _ => fun
  | [d1, d2, d3] => { results := [.lit (.bool true)], args := [d1, d2, d3] }
  | _ => none }
def modalConflictsRow : OpenClaim := { program := "ytijakijjeoaikaa", sum := "f4d3df62c33c2ba97585f9a24d60bd9589785d50ecedf5c20498ddbf7673ed31", func := "cnc/cnclaw11.ModalConflicts", spec := "modalConflicts", unfollowed := true, recurses := true, named := ["math/bits.divideError", "math/bits.overflowError"], apart := false }
def ModalConflictsSaid : Prop := modalConflictsRow.holds Try.pinned (OpenSpec.ofChange modalConflictsSpec)

/-- ITS FALSE NEIGHBOUR: 'it returns false'. Refute it at one input. -/
def modalConflictsWrong : ChangeSpec := { name := "modalConflicts", fn := fun _ => fun
  | [d1, d2, d3] => { results := [.lit (.bool false)], args := [d1, d2, d3] }
  | _ => none }
def ModalConflictsWrongFalsely : Prop := modalConflictsRow.holds Try.pinned (OpenSpec.ofChange modalConflictsWrong)

/-- 'cnclaw11.ModalRates': WHATEVER THE INPUT: true; the input reads as it did. -/
def modalRatesSpec : ChangeSpec := { name := "modalRates", fn := fun _ => fun
  | [d] => { results := [.lit (.bool true)], args := [d] }
  | _ => none }
def modalRatesRow : OpenClaim := { program := "ytijakijjeoaikaa", sum := "f4d3df62c33c2ba97585f9a24d60bd9589785d50ecedf5c20498ddbf7673ed31", func := "cnc/cnclaw11.ModalRates", spec := "modalRates", unfollowed := true, recurses := true, named := ["math/bits.divideError", "math/bits.overflowError"], apart := false }
def ModalRatesSaid : Prop := modalRatesRow.holds Try.pinned (OpenSpec.ofChange modalRatesSpec)

/-- ITS FALSE NEIGHBOUR: 'it returns false'. Refute it at one input. -/
def modalRatesWrong : ChangeSpec := { name := "modalRates", fn := fun _ => fun
  | [d] => { results := [.lit (.bool false)], args := [d] }
  | _ => none }
def ModalRatesWrongFalsely : Prop := modalRatesRow.holds Try.pinned (OpenSpec.ofChange modalRatesWrong)

/- THE SECOND FORM. 'bulk': how many values and letters a reading holds, each counted each time it is reached (what is shared counts as often as it is met; a slice's spare places count too). A statement '..UptoSaid' is the law's where the arguments, and the package variables that the reading takes, are together of bulk at most 1048576: NARROWER than '..Said'. Prove '..Said' where nothing that the law and all that it calls make is longer than what came in: it says more and counts as full. Else prove '..UptoSaid'. A law counts once. -/
mutual
def uptoBulk {H : Type} : DataW H → Nat
  | .lit (.string bytes) => bytes.length + 1
  | .lit _ => 1
  | .nil => 1
  | .ptr d => uptoBulk d + 1
  | .slice elems spare => uptoBulkAll elems + uptoBulkAll spare + 1
  | .agg parts => uptoBulkAll parts + 1
  | .iface _ d => uptoBulk d + 1
  | .map entries => uptoBulkEntries entries + 1
  | .held _ => 1
def uptoBulkAll {H : Type} : List (DataW H) → Nat
  | [] => 0
  | d :: r => uptoBulk d + uptoBulkAll r
def uptoBulkEntries {H : Type} : List (Lit × DataW H) → Nat
  | [] => 0
  | x :: r => uptoBulkEntry x + uptoBulkEntries r
def uptoBulkEntry {H : Type} : Lit × DataW H → Nat
  | (.string bytes, d) => bytes.length + uptoBulk d + 1
  | (_, d) => uptoBulk d + 1
 end
def uptoSmall : (H : Type) → List (DataW H) → Bool := fun _ ds => decide (uptoBulkAll ds ≤ 1048576)
def OpenSpec.upto (s : _root_.Go.ChangeSpec) : _root_.Go.OpenSpec := { _root_.Go.OpenSpec.ofChange s with cond := some uptoSmall }

/-- 'cnclaw11.ModalGroups', WHERE WHAT IT READS IS OF BULK AT MOST 1048576: true; the input reads as it did. -/
def modalGroupsUptoRow : OpenClaim := { program := "ytijakijjeoaikaa", sum := "f4d3df62c33c2ba97585f9a24d60bd9589785d50ecedf5c20498ddbf7673ed31", func := "cnc/cnclaw11.ModalGroups", spec := "modalGroups", unfollowed := true, recurses := true, named := ["math/bits.divideError", "math/bits.overflowError"], apart := false, narrowed := true }
def ModalGroupsUptoSaid : Prop := modalGroupsUptoRow.holds Try.pinned (OpenSpec.upto modalGroupsSpec)

/-- 'cnclaw11.ModalStart', WHERE WHAT IT READS IS OF BULK AT MOST 1048576: true; the input reads as it did. -/
def modalStartUptoRow : OpenClaim := { program := "ytijakijjeoaikaa", sum := "f4d3df62c33c2ba97585f9a24d60bd9589785d50ecedf5c20498ddbf7673ed31", func := "cnc/cnclaw11.ModalStart", spec := "modalStart", unfollowed := true, recurses := true, named := ["math/bits.divideError", "math/bits.overflowError"], apart := false, narrowed := true }
def ModalStartUptoSaid : Prop := modalStartUptoRow.holds Try.pinned (OpenSpec.upto modalStartSpec)

/-- 'cnclaw11.ModalCheck', WHERE WHAT IT READS IS OF BULK AT MOST 1048576: true; the input reads as it did. -/
def modalCheckUptoRow : OpenClaim := { program := "ytijakijjeoaikaa", sum := "f4d3df62c33c2ba97585f9a24d60bd9589785d50ecedf5c20498ddbf7673ed31", func := "cnc/cnclaw11.ModalCheck", spec := "modalCheck", unfollowed := true, recurses := true, named := ["math/bits.divideError", "math/bits.overflowError"], apart := false, narrowed := true }
def ModalCheckUptoSaid : Prop := modalCheckUptoRow.holds Try.pinned (OpenSpec.upto modalCheckSpec)

/-- 'cnclaw11.ModalRate', WHERE WHAT IT READS IS OF BULK AT MOST 1048576: true; the input reads as it did. -/
def modalRateUptoRow : OpenClaim := { program := "ytijakijjeoaikaa", sum := "f4d3df62c33c2ba97585f9a24d60bd9589785d50ecedf5c20498ddbf7673ed31", func := "cnc/cnclaw11.ModalRate", spec := "modalRate", unfollowed := true, recurses := true, named := ["math/bits.divideError", "math/bits.overflowError"], apart := false, narrowed := true }
def ModalRateUptoSaid : Prop := modalRateUptoRow.holds Try.pinned (OpenSpec.upto modalRateSpec)

/-- 'cnclaw11.ModalApply', WHERE WHAT IT READS IS OF BULK AT MOST 1048576: true; the input reads as it did. -/
def modalApplyUptoRow : OpenClaim := { program := "ytijakijjeoaikaa", sum := "f4d3df62c33c2ba97585f9a24d60bd9589785d50ecedf5c20498ddbf7673ed31", func := "cnc/cnclaw11.ModalApply", spec := "modalApply", unfollowed := true, recurses := true, named := ["math/bits.divideError", "math/bits.overflowError"], apart := false, narrowed := true }
def ModalApplyUptoSaid : Prop := modalApplyUptoRow.holds Try.pinned (OpenSpec.upto modalApplySpec)

/-- 'cnclaw11.ModalOrder', WHERE WHAT IT READS IS OF BULK AT MOST 1048576: true; the input reads as it did. -/
def modalOrderUptoRow : OpenClaim := { program := "ytijakijjeoaikaa", sum := "f4d3df62c33c2ba97585f9a24d60bd9589785d50ecedf5c20498ddbf7673ed31", func := "cnc/cnclaw11.ModalOrder", spec := "modalOrder", unfollowed := true, recurses := true, named := ["math/bits.divideError", "math/bits.overflowError"], apart := false, narrowed := true }
def ModalOrderUptoSaid : Prop := modalOrderUptoRow.holds Try.pinned (OpenSpec.upto modalOrderSpec)

/-- 'cnclaw11.ModalCodes', WHERE WHAT IT READS IS OF BULK AT MOST 1048576: true; the input reads as it did. -/
def modalCodesUptoRow : OpenClaim := { program := "ytijakijjeoaikaa", sum := "f4d3df62c33c2ba97585f9a24d60bd9589785d50ecedf5c20498ddbf7673ed31", func := "cnc/cnclaw11.ModalCodes", spec := "modalCodes", unfollowed := true, recurses := true, named := ["math/bits.divideError", "math/bits.overflowError"], apart := false, narrowed := true }
def ModalCodesUptoSaid : Prop := modalCodesUptoRow.holds Try.pinned (OpenSpec.upto modalCodesSpec)

/-- 'cnclaw11.ModalSets', WHERE WHAT IT READS IS OF BULK AT MOST 1048576: true; the input reads as it did. -/
def modalSetsUptoRow : OpenClaim := { program := "ytijakijjeoaikaa", sum := "f4d3df62c33c2ba97585f9a24d60bd9589785d50ecedf5c20498ddbf7673ed31", func := "cnc/cnclaw11.ModalSets", spec := "modalSets", unfollowed := true, recurses := true, named := ["math/bits.divideError", "math/bits.overflowError"], apart := false, narrowed := true }
def ModalSetsUptoSaid : Prop := modalSetsUptoRow.holds Try.pinned (OpenSpec.upto modalSetsSpec)

/-- 'cnclaw11.ModalConflicts', WHERE WHAT IT READS IS OF BULK AT MOST 1048576: true; the input reads as it did. -/
def modalConflictsUptoRow : OpenClaim := { program := "ytijakijjeoaikaa", sum := "f4d3df62c33c2ba97585f9a24d60bd9589785d50ecedf5c20498ddbf7673ed31", func := "cnc/cnclaw11.ModalConflicts", spec := "modalConflicts", unfollowed := true, recurses := true, named := ["math/bits.divideError", "math/bits.overflowError"], apart := false, narrowed := true }
def ModalConflictsUptoSaid : Prop := modalConflictsUptoRow.holds Try.pinned (OpenSpec.upto modalConflictsSpec)

/-- 'cnclaw11.ModalRates', WHERE WHAT IT READS IS OF BULK AT MOST 1048576: true; the input reads as it did. -/
def modalRatesUptoRow : OpenClaim := { program := "ytijakijjeoaikaa", sum := "f4d3df62c33c2ba97585f9a24d60bd9589785d50ecedf5c20498ddbf7673ed31", func := "cnc/cnclaw11.ModalRates", spec := "modalRates", unfollowed := true, recurses := true, named := ["math/bits.divideError", "math/bits.overflowError"], apart := false, narrowed := true }
def ModalRatesUptoSaid : Prop := modalRatesUptoRow.holds Try.pinned (OpenSpec.upto modalRatesSpec)

end Rows
end Go.Proofs.Ytijakijjeoaikaa
