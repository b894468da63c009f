/-
  NARROWER THAN 'FOR EVERY INPUT', by the rows' own cells (each row's printed sentence says how): EvalKeeps: laid · EvalAlgebra: laid · EvalLogic: laid · EvalErrors: laid · EvalVariables: laid · EvalCircle: laid.
  DERIVED. THE GIVEN ROWS OF THIS SEAT. 6 by the template 'for every input the law returns true; each argument reads behind the call as it read before'; 0 by the template 'total and deterministic' (their statements: YtkfipjlknfinpaaDoorTotals.lean).
  GIVEN WITH THE SEED: the statements are not yours to turn. If you find one false, say at which input.
  Laid BY PROGRAM, IN A SANDBOX (cutbox-rows.mjs): the forced cells as the released guide's own fill.sh prints them over the translation 3c6ee0608de43e39… (all of the seat's roots in one cut). By AI agents, Wed Nov 11 2026. No macro, syntax, notation, axiom, sorry.
-/
import Derived.Test.YtkfipjlknfinpaaDoorChecked
import GoSem.Claim
import GoSem.ClaimJoined
import GoSem.ClaimMapViews
import Derived.JoinedTies
import Derived.KernelRfl
namespace Go.Proofs.YtkfipjlknfinpaaDoor
/- THE CELL 'sum', in the pinned program and in every row, IS THE sha256 OF THE DUMP (.gsa) THAT YtkfipjlknfinpaaDoorProg.lean LOADS. Nothing in Lean hashes anything: it is a label: what it is worth is what the hold of that sum in a sandbox is worth. -/
noncomputable def Tryd.pinned : Pinned := { name := "ytkfipjlknfinpaadoor", sum := "3c6ee0608de43e39653418040f71c7f98e223a1bb23c312edbd2dd97d42d2fad", checked := Tryd.checked }
namespace Rows
def none {H : Type} : Left H := { results := [], args := [] }

/- WHAT THE LISTED PACKAGE-LEVEL VARIABLES READ AS WHEN THE CALL BEGINS. Each datum BY PROGRAM (the guide's laid-datum.mjs) off the statement by which the dump's own 'gosem.cut.vars' lays the variable. In a bare row this is a premise. The card (YtkfipjlknfinpaaDoorCards.lean) ties it to the program's text. -/
def laid_cnc_cordic_steps {H : Type} : DataW H := .agg [.lit (.int .i64 45000000000), .lit (.int .i64 26565051177), .lit (.int .i64 14036243468), .lit (.int .i64 7125016349), .lit (.int .i64 3576334375), .lit (.int .i64 1789910608), .lit (.int .i64 895173710), .lit (.int .i64 447614171), .lit (.int .i64 223810500), .lit (.int .i64 111905677), .lit (.int .i64 55952892), .lit (.int .i64 27976453), .lit (.int .i64 13988227), .lit (.int .i64 6994114), .lit (.int .i64 3497057), .lit (.int .i64 1748528), .lit (.int .i64 874264), .lit (.int .i64 437132), .lit (.int .i64 218566), .lit (.int .i64 109283), .lit (.int .i64 54642), .lit (.int .i64 27321), .lit (.int .i64 13660), .lit (.int .i64 6830), .lit (.int .i64 3415), .lit (.int .i64 1708)]
def laid_cnc_syntax_operators {H : Type} : DataW H := .agg [.agg [.lit (.string []), .lit (.int .i64 0)], .agg [.lit (.string [35]), .lit (.int .i64 1)], .agg [.lit (.string [45]), .lit (.int .i64 1)], .agg [.lit (.string [43]), .lit (.int .i64 2)], .agg [.lit (.string [45]), .lit (.int .i64 2)], .agg [.lit (.string [42]), .lit (.int .i64 2)], .agg [.lit (.string [47]), .lit (.int .i64 2)], .agg [.lit (.string [77, 79, 68]), .lit (.int .i64 2)], .agg [.lit (.string [83, 73, 78]), .lit (.int .i64 1)], .agg [.lit (.string [67, 79, 83]), .lit (.int .i64 1)], .agg [.lit (.string [84, 65, 78]), .lit (.int .i64 1)], .agg [.lit (.string [65, 84, 65, 78]), .lit (.int .i64 2)], .agg [.lit (.string [83, 81, 82, 84]), .lit (.int .i64 1)], .agg [.lit (.string [65, 66, 83]), .lit (.int .i64 1)], .agg [.lit (.string [82, 79, 85, 78, 68]), .lit (.int .i64 1)], .agg [.lit (.string [70, 73, 88]), .lit (.int .i64 1)], .agg [.lit (.string [70, 85, 80]), .lit (.int .i64 1)], .agg [.lit (.string [69, 81]), .lit (.int .i64 2)], .agg [.lit (.string [78, 69]), .lit (.int .i64 2)], .agg [.lit (.string [71, 84]), .lit (.int .i64 2)], .agg [.lit (.string [71, 69]), .lit (.int .i64 2)], .agg [.lit (.string [76, 84]), .lit (.int .i64 2)], .agg [.lit (.string [76, 69]), .lit (.int .i64 2)], .agg [.lit (.string [65, 78, 68]), .lit (.int .i64 2)], .agg [.lit (.string [79, 82]), .lit (.int .i64 2)], .agg [.lit (.string [88, 79, 82]), .lit (.int .i64 2)]]

/-- 'cnclaw08.EvalKeeps': WHATEVER THE INPUT: true; the input reads as it did. -/
def evalKeepsSpec : ChangeSpec := { name := "evalKeeps", fn := fun _ => fun
  | [d1, d2] => { results := [.lit (.bool true)], args := [d1, d2] }
  | _ => none }
def evalKeepsRow : OpenClaim := { program := "ytkfipjlknfinpaadoor", sum := "3c6ee0608de43e39653418040f71c7f98e223a1bb23c312edbd2dd97d42d2fad", func := "cnc/cnclaw08.EvalKeeps", spec := "evalKeeps", inPlace := ["math/bits.Add64"], unfollowed := true, recurses := true, named := ["cnc/syntax.operators", "cnc/cordic.steps", "math/bits.divideError", "math/bits.overflowError"], apart := false, laid := [("cnc/cordic.steps", laid_cnc_cordic_steps), ("cnc/syntax.operators", laid_cnc_syntax_operators)] }
def EvalKeepsSaid : Prop := evalKeepsRow.holds Tryd.pinned (OpenSpec.ofChange evalKeepsSpec)

/-- ITS FALSE NEIGHBOUR: 'it returns false'. Refute it at one input. -/
def evalKeepsWrong : ChangeSpec := { name := "evalKeeps", fn := fun _ => fun
  | [d1, d2] => { results := [.lit (.bool false)], args := [d1, d2] }
  | _ => none }
def EvalKeepsWrongFalsely : Prop := evalKeepsRow.holds Tryd.pinned (OpenSpec.ofChange evalKeepsWrong)

/-- 'cnclaw08.EvalAlgebra': WHATEVER THE INPUT: true; the input reads as it did. -/
def evalAlgebraSpec : ChangeSpec := { name := "evalAlgebra", fn := fun _ => fun
  | [d1, d2] => { results := [.lit (.bool true)], args := [d1, d2] }
  | _ => none }
def evalAlgebraRow : OpenClaim := { program := "ytkfipjlknfinpaadoor", sum := "3c6ee0608de43e39653418040f71c7f98e223a1bb23c312edbd2dd97d42d2fad", func := "cnc/cnclaw08.EvalAlgebra", spec := "evalAlgebra", inPlace := ["math/bits.Add64"], unfollowed := true, recurses := true, named := ["cnc/syntax.operators", "cnc/cordic.steps", "math/bits.divideError", "math/bits.overflowError"], apart := false, laid := [("cnc/cordic.steps", laid_cnc_cordic_steps), ("cnc/syntax.operators", laid_cnc_syntax_operators)] }
def EvalAlgebraSaid : Prop := evalAlgebraRow.holds Tryd.pinned (OpenSpec.ofChange evalAlgebraSpec)

/-- ITS FALSE NEIGHBOUR: 'it returns false'. Refute it at one input. -/
def evalAlgebraWrong : ChangeSpec := { name := "evalAlgebra", fn := fun _ => fun
  | [d1, d2] => { results := [.lit (.bool false)], args := [d1, d2] }
  | _ => none }
def EvalAlgebraWrongFalsely : Prop := evalAlgebraRow.holds Tryd.pinned (OpenSpec.ofChange evalAlgebraWrong)

/-- 'cnclaw08.EvalLogic': WHATEVER THE INPUT: true; the input reads as it did. -/
def evalLogicSpec : ChangeSpec := { name := "evalLogic", fn := fun _ => fun
  | [d1, d2] => { results := [.lit (.bool true)], args := [d1, d2] }
  | _ => none }
def evalLogicRow : OpenClaim := { program := "ytkfipjlknfinpaadoor", sum := "3c6ee0608de43e39653418040f71c7f98e223a1bb23c312edbd2dd97d42d2fad", func := "cnc/cnclaw08.EvalLogic", spec := "evalLogic", inPlace := ["math/bits.Add64"], unfollowed := true, recurses := true, named := ["cnc/syntax.operators", "cnc/cordic.steps", "math/bits.divideError", "math/bits.overflowError"], apart := false, laid := [("cnc/cordic.steps", laid_cnc_cordic_steps), ("cnc/syntax.operators", laid_cnc_syntax_operators)] }
def EvalLogicSaid : Prop := evalLogicRow.holds Tryd.pinned (OpenSpec.ofChange evalLogicSpec)

/-- ITS FALSE NEIGHBOUR: 'it returns false'. Refute it at one input. -/
def evalLogicWrong : ChangeSpec := { name := "evalLogic", fn := fun _ => fun
  | [d1, d2] => { results := [.lit (.bool false)], args := [d1, d2] }
  | _ => none }
def EvalLogicWrongFalsely : Prop := evalLogicRow.holds Tryd.pinned (OpenSpec.ofChange evalLogicWrong)

/-- 'cnclaw08.EvalErrors': WHATEVER THE INPUT: true; the input reads as it did. -/
def evalErrorsSpec : ChangeSpec := { name := "evalErrors", fn := fun _ => fun
  | [d1, d2, d3] => { results := [.lit (.bool true)], args := [d1, d2, d3] }
  | _ => none }
def evalErrorsRow : OpenClaim := { program := "ytkfipjlknfinpaadoor", sum := "3c6ee0608de43e39653418040f71c7f98e223a1bb23c312edbd2dd97d42d2fad", func := "cnc/cnclaw08.EvalErrors", spec := "evalErrors", inPlace := ["math/bits.Add64"], unfollowed := true, recurses := true, named := ["cnc/syntax.operators", "cnc/cordic.steps", "math/bits.divideError", "math/bits.overflowError"], apart := false, laid := [("cnc/cordic.steps", laid_cnc_cordic_steps), ("cnc/syntax.operators", laid_cnc_syntax_operators)] }
def EvalErrorsSaid : Prop := evalErrorsRow.holds Tryd.pinned (OpenSpec.ofChange evalErrorsSpec)

/-- ITS FALSE NEIGHBOUR: 'it returns false'. Refute it at one input. -/
def evalErrorsWrong : ChangeSpec := { name := "evalErrors", fn := fun _ => fun
  | [d1, d2, d3] => { results := [.lit (.bool false)], args := [d1, d2, d3] }
  | _ => none }
def EvalErrorsWrongFalsely : Prop := evalErrorsRow.holds Tryd.pinned (OpenSpec.ofChange evalErrorsWrong)

/-- 'cnclaw08.EvalVariables': WHATEVER THE INPUT: true; the input reads as it did. -/
def evalVariablesSpec : ChangeSpec := { name := "evalVariables", fn := fun _ => fun
  | [d1, d2, d3] => { results := [.lit (.bool true)], args := [d1, d2, d3] }
  | _ => none }
def evalVariablesRow : OpenClaim := { program := "ytkfipjlknfinpaadoor", sum := "3c6ee0608de43e39653418040f71c7f98e223a1bb23c312edbd2dd97d42d2fad", func := "cnc/cnclaw08.EvalVariables", spec := "evalVariables", inPlace := ["math/bits.Add64"], unfollowed := true, recurses := true, named := ["cnc/syntax.operators", "cnc/cordic.steps", "math/bits.divideError", "math/bits.overflowError"], apart := false, laid := [("cnc/cordic.steps", laid_cnc_cordic_steps), ("cnc/syntax.operators", laid_cnc_syntax_operators)] }
def EvalVariablesSaid : Prop := evalVariablesRow.holds Tryd.pinned (OpenSpec.ofChange evalVariablesSpec)

/-- ITS FALSE NEIGHBOUR: 'it returns false'. Refute it at one input. -/
def evalVariablesWrong : ChangeSpec := { name := "evalVariables", fn := fun _ => fun
  | [d1, d2, d3] => { results := [.lit (.bool false)], args := [d1, d2, d3] }
  | _ => none }
def EvalVariablesWrongFalsely : Prop := evalVariablesRow.holds Tryd.pinned (OpenSpec.ofChange evalVariablesWrong)

/-- 'cnclaw08.EvalCircle': WHATEVER THE INPUT: true; the input reads as it did. -/
def evalCircleSpec : ChangeSpec := { name := "evalCircle", fn := fun _ => fun
  | [d] => { results := [.lit (.bool true)], args := [d] }
  | _ => none }
def evalCircleRow : OpenClaim := { program := "ytkfipjlknfinpaadoor", sum := "3c6ee0608de43e39653418040f71c7f98e223a1bb23c312edbd2dd97d42d2fad", func := "cnc/cnclaw08.EvalCircle", spec := "evalCircle", inPlace := ["math/bits.Add64"], unfollowed := true, recurses := true, named := ["cnc/syntax.operators", "cnc/cordic.steps", "math/bits.divideError", "math/bits.overflowError"], apart := false, laid := [("cnc/cordic.steps", laid_cnc_cordic_steps), ("cnc/syntax.operators", laid_cnc_syntax_operators)] }
def EvalCircleSaid : Prop := evalCircleRow.holds Tryd.pinned (OpenSpec.ofChange evalCircleSpec)

/-- ITS FALSE NEIGHBOUR: 'it returns false'. Refute it at one input. -/
def evalCircleWrong : ChangeSpec := { name := "evalCircle", fn := fun _ => fun
  | [d] => { results := [.lit (.bool false)], args := [d] }
  | _ => none }
def EvalCircleWrongFalsely : Prop := evalCircleRow.holds Tryd.pinned (OpenSpec.ofChange evalCircleWrong)

/- THE SECOND FORM. 'bulk': how many values and letters a reading holds, each counted each time it is reached (what is shared counts as often as it is met; a slice's spare places count too). A statement '..UptoSaid' is the law's where the arguments, and the package variables that the reading takes, are together of bulk at most 1048576: NARROWER than '..Said'. Prove '..Said' where nothing that the law and all that it calls make is longer than what came in: it says more and counts as full. Else prove '..UptoSaid'. A law counts once. -/
mutual
def uptoBulk {H : Type} : DataW H → Nat
  | .lit (.string bytes) => bytes.length + 1
  | .lit _ => 1
  | .nil => 1
  | .ptr d => uptoBulk d + 1
  | .slice elems spare => uptoBulkAll elems + uptoBulkAll spare + 1
  | .agg parts => uptoBulkAll parts + 1
  | .iface _ d => uptoBulk d + 1
  | .map entries => uptoBulkEntries entries + 1
  | .held _ => 1
def uptoBulkAll {H : Type} : List (DataW H) → Nat
  | [] => 0
  | d :: r => uptoBulk d + uptoBulkAll r
def uptoBulkEntries {H : Type} : List (Lit × DataW H) → Nat
  | [] => 0
  | x :: r => uptoBulkEntry x + uptoBulkEntries r
def uptoBulkEntry {H : Type} : Lit × DataW H → Nat
  | (.string bytes, d) => bytes.length + uptoBulk d + 1
  | (_, d) => uptoBulk d + 1
 end
def uptoSmall : (H : Type) → List (DataW H) → Bool := fun _ ds => decide (uptoBulkAll ds ≤ 1048576)
def OpenSpec.upto (s : _root_.Go.ChangeSpec) : _root_.Go.OpenSpec := { _root_.Go.OpenSpec.ofChange s with cond := some uptoSmall }

/-- 'cnclaw08.EvalKeeps', WHERE WHAT IT READS IS OF BULK AT MOST 1048576: true; the input reads as it did. -/
def evalKeepsUptoRow : OpenClaim := { program := "ytkfipjlknfinpaadoor", sum := "3c6ee0608de43e39653418040f71c7f98e223a1bb23c312edbd2dd97d42d2fad", func := "cnc/cnclaw08.EvalKeeps", spec := "evalKeeps", inPlace := ["math/bits.Add64"], unfollowed := true, recurses := true, named := ["cnc/syntax.operators", "cnc/cordic.steps", "math/bits.divideError", "math/bits.overflowError"], apart := false, laid := [("cnc/cordic.steps", laid_cnc_cordic_steps), ("cnc/syntax.operators", laid_cnc_syntax_operators)], narrowed := true }
def EvalKeepsUptoSaid : Prop := evalKeepsUptoRow.holds Tryd.pinned (OpenSpec.upto evalKeepsSpec)

/-- 'cnclaw08.EvalAlgebra', WHERE WHAT IT READS IS OF BULK AT MOST 1048576: true; the input reads as it did. -/
def evalAlgebraUptoRow : OpenClaim := { program := "ytkfipjlknfinpaadoor", sum := "3c6ee0608de43e39653418040f71c7f98e223a1bb23c312edbd2dd97d42d2fad", func := "cnc/cnclaw08.EvalAlgebra", spec := "evalAlgebra", inPlace := ["math/bits.Add64"], unfollowed := true, recurses := true, named := ["cnc/syntax.operators", "cnc/cordic.steps", "math/bits.divideError", "math/bits.overflowError"], apart := false, laid := [("cnc/cordic.steps", laid_cnc_cordic_steps), ("cnc/syntax.operators", laid_cnc_syntax_operators)], narrowed := true }
def EvalAlgebraUptoSaid : Prop := evalAlgebraUptoRow.holds Tryd.pinned (OpenSpec.upto evalAlgebraSpec)

/-- 'cnclaw08.EvalLogic', WHERE WHAT IT READS IS OF BULK AT MOST 1048576: true; the input reads as it did. -/
def evalLogicUptoRow : OpenClaim := { program := "ytkfipjlknfinpaadoor", sum := "3c6ee0608de43e39653418040f71c7f98e223a1bb23c312edbd2dd97d42d2fad", func := "cnc/cnclaw08.EvalLogic", spec := "evalLogic", inPlace := ["math/bits.Add64"], unfollowed := true, recurses := true, named := ["cnc/syntax.operators", "cnc/cordic.steps", "math/bits.divideError", "math/bits.overflowError"], apart := false, laid := [("cnc/cordic.steps", laid_cnc_cordic_steps), ("cnc/syntax.operators", laid_cnc_syntax_operators)], narrowed := true }
def EvalLogicUptoSaid : Prop := evalLogicUptoRow.holds Tryd.pinned (OpenSpec.upto evalLogicSpec)

/-- 'cnclaw08.EvalErrors', WHERE WHAT IT READS IS OF BULK AT MOST 1048576: true; the input reads as it did. -/
def evalErrorsUptoRow : OpenClaim := { program := "ytkfipjlknfinpaadoor", sum := "3c6ee0608de43e39653418040f71c7f98e223a1bb23c312edbd2dd97d42d2fad", func := "cnc/cnclaw08.EvalErrors", spec := "evalErrors", inPlace := ["math/bits.Add64"], unfollowed := true, recurses := true, named := ["cnc/syntax.operators", "cnc/cordic.steps", "math/bits.divideError", "math/bits.overflowError"], apart := false, laid := [("cnc/cordic.steps", laid_cnc_cordic_steps), ("cnc/syntax.operators", laid_cnc_syntax_operators)], narrowed := true }
def EvalErrorsUptoSaid : Prop := evalErrorsUptoRow.holds Tryd.pinned (OpenSpec.upto evalErrorsSpec)

/-- 'cnclaw08.EvalVariables', WHERE WHAT IT READS IS OF BULK AT MOST 1048576: true; the input reads as it did. -/
def evalVariablesUptoRow : OpenClaim := { program := "ytkfipjlknfinpaadoor", sum := "3c6ee0608de43e39653418040f71c7f98e223a1bb23c312edbd2dd97d42d2fad", func := "cnc/cnclaw08.EvalVariables", spec := "evalVariables", inPlace := ["math/bits.Add64"], unfollowed := true, recurses := true, named := ["cnc/syntax.operators", "cnc/cordic.steps", "math/bits.divideError", "math/bits.overflowError"], apart := false, laid := [("cnc/cordic.steps", laid_cnc_cordic_steps), ("cnc/syntax.operators", laid_cnc_syntax_operators)], narrowed := true }
def EvalVariablesUptoSaid : Prop := evalVariablesUptoRow.holds Tryd.pinned (OpenSpec.upto evalVariablesSpec)

/-- 'cnclaw08.EvalCircle', WHERE WHAT IT READS IS OF BULK AT MOST 1048576: true; the input reads as it did. -/
def evalCircleUptoRow : OpenClaim := { program := "ytkfipjlknfinpaadoor", sum := "3c6ee0608de43e39653418040f71c7f98e223a1bb23c312edbd2dd97d42d2fad", func := "cnc/cnclaw08.EvalCircle", spec := "evalCircle", inPlace := ["math/bits.Add64"], unfollowed := true, recurses := true, named := ["cnc/syntax.operators", "cnc/cordic.steps", "math/bits.divideError", "math/bits.overflowError"], apart := false, laid := [("cnc/cordic.steps", laid_cnc_cordic_steps), ("cnc/syntax.operators", laid_cnc_syntax_operators)], narrowed := true }
def EvalCircleUptoSaid : Prop := evalCircleUptoRow.holds Tryd.pinned (OpenSpec.upto evalCircleSpec)

end Rows
end Go.Proofs.YtkfipjlknfinpaaDoor
