/-
  NARROWER THAN 'FOR EVERY INPUT', by the rows' own cells (each row's printed sentence says how): VarsPlays: laid · VarsLocal: laid · VarsLevels: laid · VarsCopies: laid · VarsKeeps: laid · VarsDepth: laid.
  DERIVED. THE GIVEN ROWS OF THIS SEAT. 6 by the template 'for every input the law returns true; each argument reads behind the call as it read before'; 0 by the template 'total and deterministic' (their statements: YtmfhiabajkdikaaDoorTotals.lean).
  GIVEN WITH THE SEED: the statements are not yours to turn. If you find one false, say at which input.
  Laid BY PROGRAM, IN A SANDBOX (cutbox-rows.mjs): the forced cells as the released guide's own fill.sh prints them over the translation f7457c75cc1a78db… (all of the seat's roots in one cut). By AI agents, Wed Nov 11 2026. No macro, syntax, notation, axiom, sorry.
-/
import Derived.Test.YtmfhiabajkdikaaDoorChecked
import GoSem.Claim
import GoSem.ClaimJoined
import GoSem.ClaimMapViews
import Derived.JoinedTies
import Derived.KernelRfl
namespace Go.Proofs.YtmfhiabajkdikaaDoor
/- THE CELL 'sum', in the pinned program and in every row, IS THE sha256 OF THE DUMP (.gsa) THAT YtmfhiabajkdikaaDoorProg.lean LOADS. Nothing in Lean hashes anything: it is a label: what it is worth is what the hold of that sum in a sandbox is worth. -/
noncomputable def Tryd.pinned : Pinned := { name := "ytmfhiabajkdikaadoor", sum := "f7457c75cc1a78dbdcf5302920edd62b9a95c131bb233843c48fff8fe87e2f34", checked := Tryd.checked }
namespace Rows
def none {H : Type} : Left H := { results := [], args := [] }

/- WHAT THE LISTED PACKAGE-LEVEL VARIABLES READ AS WHEN THE CALL BEGINS. Each datum BY PROGRAM (the guide's laid-datum.mjs) off the statement by which the dump's own 'gosem.cut.vars' lays the variable. In a bare row this is a premise. The card (YtmfhiabajkdikaaDoorCards.lean) ties it to the program's text. -/
def laid_cnc_vars_letters {H : Type} : DataW H := .agg [.lit (.int .i64 0), .lit (.int .i64 0), .lit (.int .i64 0), .lit (.int .i64 0), .lit (.int .i64 0), .lit (.int .i64 0), .lit (.int .i64 0), .lit (.int .i64 0), .lit (.int .i64 0), .lit (.int .i64 0), .lit (.int .i64 0), .lit (.int .i64 0), .lit (.int .i64 0), .lit (.int .i64 0), .lit (.int .i64 0), .lit (.int .i64 0), .lit (.int .i64 0), .lit (.int .i64 0), .lit (.int .i64 0), .lit (.int .i64 0), .lit (.int .i64 0), .lit (.int .i64 0), .lit (.int .i64 0), .lit (.int .i64 0), .lit (.int .i64 0), .lit (.int .i64 0), .lit (.int .i64 0), .lit (.int .i64 0), .lit (.int .i64 0), .lit (.int .i64 0), .lit (.int .i64 0), .lit (.int .i64 0), .lit (.int .i64 0), .lit (.int .i64 0), .lit (.int .i64 0), .lit (.int .i64 0), .lit (.int .i64 0), .lit (.int .i64 0), .lit (.int .i64 0), .lit (.int .i64 0), .lit (.int .i64 0), .lit (.int .i64 0), .lit (.int .i64 0), .lit (.int .i64 0), .lit (.int .i64 0), .lit (.int .i64 0), .lit (.int .i64 0), .lit (.int .i64 0), .lit (.int .i64 0), .lit (.int .i64 0), .lit (.int .i64 0), .lit (.int .i64 0), .lit (.int .i64 0), .lit (.int .i64 0), .lit (.int .i64 0), .lit (.int .i64 0), .lit (.int .i64 0), .lit (.int .i64 0), .lit (.int .i64 0), .lit (.int .i64 0), .lit (.int .i64 0), .lit (.int .i64 0), .lit (.int .i64 0), .lit (.int .i64 0), .lit (.int .i64 0), .lit (.int .i64 1), .lit (.int .i64 2), .lit (.int .i64 3), .lit (.int .i64 7), .lit (.int .i64 8), .lit (.int .i64 9), .lit (.int .i64 0), .lit (.int .i64 11), .lit (.int .i64 4), .lit (.int .i64 5), .lit (.int .i64 6), .lit (.int .i64 0), .lit (.int .i64 13), .lit (.int .i64 0), .lit (.int .i64 0), .lit (.int .i64 0), .lit (.int .i64 17), .lit (.int .i64 18), .lit (.int .i64 19), .lit (.int .i64 20), .lit (.int .i64 21), .lit (.int .i64 22), .lit (.int .i64 23), .lit (.int .i64 24), .lit (.int .i64 25), .lit (.int .i64 26)]

/-- 'cnclaw07.VarsPlays': WHATEVER THE INPUT: true; the input reads as it did. -/
def varsPlaysSpec : ChangeSpec := { name := "varsPlays", fn := fun _ => fun
  | [d] => { results := [.lit (.bool true)], args := [d] }
  | _ => none }
def varsPlaysRow : OpenClaim := { program := "ytmfhiabajkdikaadoor", sum := "f7457c75cc1a78dbdcf5302920edd62b9a95c131bb233843c48fff8fe87e2f34", func := "cnc/cnclaw07.VarsPlays", spec := "varsPlays", named := ["cnc/vars.letters"], apart := false, laid := [("cnc/vars.letters", laid_cnc_vars_letters)] }
def VarsPlaysSaid : Prop := varsPlaysRow.holds Tryd.pinned (OpenSpec.ofChange varsPlaysSpec)

/-- ITS FALSE NEIGHBOUR: 'it returns false'. Refute it at one input. -/
def varsPlaysWrong : ChangeSpec := { name := "varsPlays", fn := fun _ => fun
  | [d] => { results := [.lit (.bool false)], args := [d] }
  | _ => none }
def VarsPlaysWrongFalsely : Prop := varsPlaysRow.holds Tryd.pinned (OpenSpec.ofChange varsPlaysWrong)

/-- 'cnclaw07.VarsLocal': WHATEVER THE INPUT: true; the input reads as it did. -/
def varsLocalSpec : ChangeSpec := { name := "varsLocal", fn := fun _ => fun
  | [d] => { results := [.lit (.bool true)], args := [d] }
  | _ => none }
def varsLocalRow : OpenClaim := { program := "ytmfhiabajkdikaadoor", sum := "f7457c75cc1a78dbdcf5302920edd62b9a95c131bb233843c48fff8fe87e2f34", func := "cnc/cnclaw07.VarsLocal", spec := "varsLocal", named := ["cnc/vars.letters"], apart := false, laid := [("cnc/vars.letters", laid_cnc_vars_letters)] }
def VarsLocalSaid : Prop := varsLocalRow.holds Tryd.pinned (OpenSpec.ofChange varsLocalSpec)

/-- ITS FALSE NEIGHBOUR: 'it returns false'. Refute it at one input. -/
def varsLocalWrong : ChangeSpec := { name := "varsLocal", fn := fun _ => fun
  | [d] => { results := [.lit (.bool false)], args := [d] }
  | _ => none }
def VarsLocalWrongFalsely : Prop := varsLocalRow.holds Tryd.pinned (OpenSpec.ofChange varsLocalWrong)

/-- 'cnclaw07.VarsLevels': WHATEVER THE INPUT: true; the input reads as it did. -/
def varsLevelsSpec : ChangeSpec := { name := "varsLevels", fn := fun _ => fun
  | [d1, d2, d3, d4] => { results := [.lit (.bool true)], args := [d1, d2, d3, d4] }
  | _ => none }
def varsLevelsRow : OpenClaim := { program := "ytmfhiabajkdikaadoor", sum := "f7457c75cc1a78dbdcf5302920edd62b9a95c131bb233843c48fff8fe87e2f34", func := "cnc/cnclaw07.VarsLevels", spec := "varsLevels", named := ["cnc/vars.letters"], apart := false, laid := [("cnc/vars.letters", laid_cnc_vars_letters)] }
def VarsLevelsSaid : Prop := varsLevelsRow.holds Tryd.pinned (OpenSpec.ofChange varsLevelsSpec)

/-- ITS FALSE NEIGHBOUR: 'it returns false'. Refute it at one input. -/
def varsLevelsWrong : ChangeSpec := { name := "varsLevels", fn := fun _ => fun
  | [d1, d2, d3, d4] => { results := [.lit (.bool false)], args := [d1, d2, d3, d4] }
  | _ => none }
def VarsLevelsWrongFalsely : Prop := varsLevelsRow.holds Tryd.pinned (OpenSpec.ofChange varsLevelsWrong)

/-- 'cnclaw07.VarsCopies': WHATEVER THE INPUT: true; the input reads as it did. -/
def varsCopiesSpec : ChangeSpec := { name := "varsCopies", fn := fun _ => fun
  | [d1, d2, d3] => { results := [.lit (.bool true)], args := [d1, d2, d3] }
  | _ => none }
def varsCopiesRow : OpenClaim := { program := "ytmfhiabajkdikaadoor", sum := "f7457c75cc1a78dbdcf5302920edd62b9a95c131bb233843c48fff8fe87e2f34", func := "cnc/cnclaw07.VarsCopies", spec := "varsCopies", named := ["cnc/vars.letters"], apart := false, laid := [("cnc/vars.letters", laid_cnc_vars_letters)] }
def VarsCopiesSaid : Prop := varsCopiesRow.holds Tryd.pinned (OpenSpec.ofChange varsCopiesSpec)

/-- ITS FALSE NEIGHBOUR: 'it returns false'. Refute it at one input. -/
def varsCopiesWrong : ChangeSpec := { name := "varsCopies", fn := fun _ => fun
  | [d1, d2, d3] => { results := [.lit (.bool false)], args := [d1, d2, d3] }
  | _ => none }
def VarsCopiesWrongFalsely : Prop := varsCopiesRow.holds Tryd.pinned (OpenSpec.ofChange varsCopiesWrong)

/-- 'cnclaw07.VarsKeeps': WHATEVER THE INPUT: true; the input reads as it did. -/
def varsKeepsSpec : ChangeSpec := { name := "varsKeeps", fn := fun _ => fun
  | [d1, d2, d3, d4] => { results := [.lit (.bool true)], args := [d1, d2, d3, d4] }
  | _ => none }
def varsKeepsRow : OpenClaim := { program := "ytmfhiabajkdikaadoor", sum := "f7457c75cc1a78dbdcf5302920edd62b9a95c131bb233843c48fff8fe87e2f34", func := "cnc/cnclaw07.VarsKeeps", spec := "varsKeeps", named := ["cnc/vars.letters"], apart := false, laid := [("cnc/vars.letters", laid_cnc_vars_letters)] }
def VarsKeepsSaid : Prop := varsKeepsRow.holds Tryd.pinned (OpenSpec.ofChange varsKeepsSpec)

/-- ITS FALSE NEIGHBOUR: 'it returns false'. Refute it at one input. -/
def varsKeepsWrong : ChangeSpec := { name := "varsKeeps", fn := fun _ => fun
  | [d1, d2, d3, d4] => { results := [.lit (.bool false)], args := [d1, d2, d3, d4] }
  | _ => none }
def VarsKeepsWrongFalsely : Prop := varsKeepsRow.holds Tryd.pinned (OpenSpec.ofChange varsKeepsWrong)

/-- 'cnclaw07.VarsDepth': WHATEVER THE INPUT: true; the input reads as it did. -/
def varsDepthSpec : ChangeSpec := { name := "varsDepth", fn := fun _ => fun
  | [d1, d2] => { results := [.lit (.bool true)], args := [d1, d2] }
  | _ => none }
def varsDepthRow : OpenClaim := { program := "ytmfhiabajkdikaadoor", sum := "f7457c75cc1a78dbdcf5302920edd62b9a95c131bb233843c48fff8fe87e2f34", func := "cnc/cnclaw07.VarsDepth", spec := "varsDepth", named := ["cnc/vars.letters"], apart := false, laid := [("cnc/vars.letters", laid_cnc_vars_letters)] }
def VarsDepthSaid : Prop := varsDepthRow.holds Tryd.pinned (OpenSpec.ofChange varsDepthSpec)

/-- ITS FALSE NEIGHBOUR: 'it returns false'. Refute it at one input. -/
def varsDepthWrong : ChangeSpec := { name := "varsDepth", fn := fun _ => fun
  | [d1, d2] => { results := [.lit (.bool false)], args := [d1, d2] }
  | _ => none }
def VarsDepthWrongFalsely : Prop := varsDepthRow.holds Tryd.pinned (OpenSpec.ofChange varsDepthWrong)

/- THE SECOND FORM. 'bulk': how many values and letters a reading holds, each counted each time it is reached (what is shared counts as often as it is met; a slice's spare places count too). A statement '..UptoSaid' is the law's where the arguments, and the package variables that the reading takes, are together of bulk at most 1048576: NARROWER than '..Said'. Prove '..Said' where nothing that the law and all that it calls make is longer than what came in: it says more and counts as full. Else prove '..UptoSaid'. A law counts once. -/
mutual
def uptoBulk {H : Type} : DataW H → Nat
  | .lit (.string bytes) => bytes.length + 1
  | .lit _ => 1
  | .nil => 1
  | .ptr d => uptoBulk d + 1
  | .slice elems spare => uptoBulkAll elems + uptoBulkAll spare + 1
  | .agg parts => uptoBulkAll parts + 1
  | .iface _ d => uptoBulk d + 1
  | .map entries => uptoBulkEntries entries + 1
  | .held _ => 1
def uptoBulkAll {H : Type} : List (DataW H) → Nat
  | [] => 0
  | d :: r => uptoBulk d + uptoBulkAll r
def uptoBulkEntries {H : Type} : List (Lit × DataW H) → Nat
  | [] => 0
  | x :: r => uptoBulkEntry x + uptoBulkEntries r
def uptoBulkEntry {H : Type} : Lit × DataW H → Nat
  | (.string bytes, d) => bytes.length + uptoBulk d + 1
  | (_, d) => uptoBulk d + 1
 end
def uptoSmall : (H : Type) → List (DataW H) → Bool := fun _ ds => decide (uptoBulkAll ds ≤ 1048576)
def OpenSpec.upto (s : _root_.Go.ChangeSpec) : _root_.Go.OpenSpec := { _root_.Go.OpenSpec.ofChange s with cond := some uptoSmall }

/-- 'cnclaw07.VarsPlays', WHERE WHAT IT READS IS OF BULK AT MOST 1048576: true; the input reads as it did. -/
def varsPlaysUptoRow : OpenClaim := { program := "ytmfhiabajkdikaadoor", sum := "f7457c75cc1a78dbdcf5302920edd62b9a95c131bb233843c48fff8fe87e2f34", func := "cnc/cnclaw07.VarsPlays", spec := "varsPlays", named := ["cnc/vars.letters"], apart := false, laid := [("cnc/vars.letters", laid_cnc_vars_letters)], narrowed := true }
def VarsPlaysUptoSaid : Prop := varsPlaysUptoRow.holds Tryd.pinned (OpenSpec.upto varsPlaysSpec)

/-- 'cnclaw07.VarsLocal', WHERE WHAT IT READS IS OF BULK AT MOST 1048576: true; the input reads as it did. -/
def varsLocalUptoRow : OpenClaim := { program := "ytmfhiabajkdikaadoor", sum := "f7457c75cc1a78dbdcf5302920edd62b9a95c131bb233843c48fff8fe87e2f34", func := "cnc/cnclaw07.VarsLocal", spec := "varsLocal", named := ["cnc/vars.letters"], apart := false, laid := [("cnc/vars.letters", laid_cnc_vars_letters)], narrowed := true }
def VarsLocalUptoSaid : Prop := varsLocalUptoRow.holds Tryd.pinned (OpenSpec.upto varsLocalSpec)

/-- 'cnclaw07.VarsLevels', WHERE WHAT IT READS IS OF BULK AT MOST 1048576: true; the input reads as it did. -/
def varsLevelsUptoRow : OpenClaim := { program := "ytmfhiabajkdikaadoor", sum := "f7457c75cc1a78dbdcf5302920edd62b9a95c131bb233843c48fff8fe87e2f34", func := "cnc/cnclaw07.VarsLevels", spec := "varsLevels", named := ["cnc/vars.letters"], apart := false, laid := [("cnc/vars.letters", laid_cnc_vars_letters)], narrowed := true }
def VarsLevelsUptoSaid : Prop := varsLevelsUptoRow.holds Tryd.pinned (OpenSpec.upto varsLevelsSpec)

/-- 'cnclaw07.VarsCopies', WHERE WHAT IT READS IS OF BULK AT MOST 1048576: true; the input reads as it did. -/
def varsCopiesUptoRow : OpenClaim := { program := "ytmfhiabajkdikaadoor", sum := "f7457c75cc1a78dbdcf5302920edd62b9a95c131bb233843c48fff8fe87e2f34", func := "cnc/cnclaw07.VarsCopies", spec := "varsCopies", named := ["cnc/vars.letters"], apart := false, laid := [("cnc/vars.letters", laid_cnc_vars_letters)], narrowed := true }
def VarsCopiesUptoSaid : Prop := varsCopiesUptoRow.holds Tryd.pinned (OpenSpec.upto varsCopiesSpec)

/-- 'cnclaw07.VarsKeeps', WHERE WHAT IT READS IS OF BULK AT MOST 1048576: true; the input reads as it did. -/
def varsKeepsUptoRow : OpenClaim := { program := "ytmfhiabajkdikaadoor", sum := "f7457c75cc1a78dbdcf5302920edd62b9a95c131bb233843c48fff8fe87e2f34", func := "cnc/cnclaw07.VarsKeeps", spec := "varsKeeps", named := ["cnc/vars.letters"], apart := false, laid := [("cnc/vars.letters", laid_cnc_vars_letters)], narrowed := true }
def VarsKeepsUptoSaid : Prop := varsKeepsUptoRow.holds Tryd.pinned (OpenSpec.upto varsKeepsSpec)

/-- 'cnclaw07.VarsDepth', WHERE WHAT IT READS IS OF BULK AT MOST 1048576: true; the input reads as it did. -/
def varsDepthUptoRow : OpenClaim := { program := "ytmfhiabajkdikaadoor", sum := "f7457c75cc1a78dbdcf5302920edd62b9a95c131bb233843c48fff8fe87e2f34", func := "cnc/cnclaw07.VarsDepth", spec := "varsDepth", named := ["cnc/vars.letters"], apart := false, laid := [("cnc/vars.letters", laid_cnc_vars_letters)], narrowed := true }
def VarsDepthUptoSaid : Prop := varsDepthUptoRow.holds Tryd.pinned (OpenSpec.upto varsDepthSpec)

end Rows
end Go.Proofs.YtmfhiabajkdikaaDoor
