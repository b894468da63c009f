/-
  NARROWER THAN 'FOR EVERY INPUT', by the rows' own cells (each row's printed sentence says how): EvalTells: loops, laid · EvalOperators: laid.
  DERIVED. THE GIVEN ROWS OF THIS SEAT. 2 by the template 'for every input the law returns true; each argument reads behind the call as it read before'; 0 by the template 'total and deterministic' (their statements: YtkfipjlknfinpaaGreatDoorTotals.lean).
  GIVEN WITH THE SEED: the statements are not yours to turn. If you find one false, say at which input.
  Laid BY PROGRAM, IN A SANDBOX (cutbox-rows.mjs): the forced cells as the released guide's own fill.sh prints them over the translation a71b0fb2dd37f1cf… (all of the seat's roots in one cut). By AI agents, Wed Nov 11 2026. No macro, syntax, notation, axiom, sorry.
-/
import Derived.Test.YtkfipjlknfinpaaGreatDoorChecked
import GoSem.Claim
import GoSem.ClaimJoined
import GoSem.ClaimMapViews
import Derived.JoinedTies
import Derived.KernelRfl
namespace Go.Proofs.YtkfipjlknfinpaaGreatDoor
/- THE CELL 'sum', in the pinned program and in every row, IS THE sha256 OF THE DUMP (.gsa) THAT YtkfipjlknfinpaaGreatDoorProg.lean LOADS. Nothing in Lean hashes anything: it is a label: what it is worth is what the hold of that sum in a sandbox is worth. -/
noncomputable def Tryz.pinned : Pinned := { name := "ytkfipjlknfinpaagreatdoor", sum := "a71b0fb2dd37f1cfa4500342a8e4de79b7f3ccd2ca6a4989b18efb3e653453b7", checked := Tryz.checked }
namespace Rows
def none {H : Type} : Left H := { results := [], args := [] }

/- WHAT THE LISTED PACKAGE-LEVEL VARIABLES READ AS WHEN THE CALL BEGINS. Each datum BY PROGRAM (the guide's laid-datum.mjs) off the statement by which the dump's own 'gosem.cut.vars' lays the variable. In a bare row this is a premise. The card (YtkfipjlknfinpaaGreatDoorCards.lean) ties it to the program's text. -/
def laid_cnc_cordic_steps {H : Type} : DataW H := .agg [.lit (.int .i64 45000000000), .lit (.int .i64 26565051177), .lit (.int .i64 14036243468), .lit (.int .i64 7125016349), .lit (.int .i64 3576334375), .lit (.int .i64 1789910608), .lit (.int .i64 895173710), .lit (.int .i64 447614171), .lit (.int .i64 223810500), .lit (.int .i64 111905677), .lit (.int .i64 55952892), .lit (.int .i64 27976453), .lit (.int .i64 13988227), .lit (.int .i64 6994114), .lit (.int .i64 3497057), .lit (.int .i64 1748528), .lit (.int .i64 874264), .lit (.int .i64 437132), .lit (.int .i64 218566), .lit (.int .i64 109283), .lit (.int .i64 54642), .lit (.int .i64 27321), .lit (.int .i64 13660), .lit (.int .i64 6830), .lit (.int .i64 3415), .lit (.int .i64 1708)]
def laid_cnc_syntax_operators {H : Type} : DataW H := .agg [.agg [.lit (.string []), .lit (.int .i64 0)], .agg [.lit (.string [35]), .lit (.int .i64 1)], .agg [.lit (.string [45]), .lit (.int .i64 1)], .agg [.lit (.string [43]), .lit (.int .i64 2)], .agg [.lit (.string [45]), .lit (.int .i64 2)], .agg [.lit (.string [42]), .lit (.int .i64 2)], .agg [.lit (.string [47]), .lit (.int .i64 2)], .agg [.lit (.string [77, 79, 68]), .lit (.int .i64 2)], .agg [.lit (.string [83, 73, 78]), .lit (.int .i64 1)], .agg [.lit (.string [67, 79, 83]), .lit (.int .i64 1)], .agg [.lit (.string [84, 65, 78]), .lit (.int .i64 1)], .agg [.lit (.string [65, 84, 65, 78]), .lit (.int .i64 2)], .agg [.lit (.string [83, 81, 82, 84]), .lit (.int .i64 1)], .agg [.lit (.string [65, 66, 83]), .lit (.int .i64 1)], .agg [.lit (.string [82, 79, 85, 78, 68]), .lit (.int .i64 1)], .agg [.lit (.string [70, 73, 88]), .lit (.int .i64 1)], .agg [.lit (.string [70, 85, 80]), .lit (.int .i64 1)], .agg [.lit (.string [69, 81]), .lit (.int .i64 2)], .agg [.lit (.string [78, 69]), .lit (.int .i64 2)], .agg [.lit (.string [71, 84]), .lit (.int .i64 2)], .agg [.lit (.string [71, 69]), .lit (.int .i64 2)], .agg [.lit (.string [76, 84]), .lit (.int .i64 2)], .agg [.lit (.string [76, 69]), .lit (.int .i64 2)], .agg [.lit (.string [65, 78, 68]), .lit (.int .i64 2)], .agg [.lit (.string [79, 82]), .lit (.int .i64 2)], .agg [.lit (.string [88, 79, 82]), .lit (.int .i64 2)]]

/-- 'cnclaw08.EvalTells': WHATEVER THE INPUT: true; the input reads as it did. -/
def evalTellsSpec : ChangeSpec := { name := "evalTells", fn := fun _ => fun
  | [d1, d2, d3] => { results := [.lit (.bool true)], args := [d1, d2, d3] }
  | _ => none }
def evalTellsRow : OpenClaim := { program := "ytkfipjlknfinpaagreatdoor", sum := "a71b0fb2dd37f1cfa4500342a8e4de79b7f3ccd2ca6a4989b18efb3e653453b7", func := "cnc/cnclaw08.EvalTells", spec := "evalTells", inPlace := ["math/bits.Add64"], unfollowed := true, recurses := true, named := ["cnc/syntax.operators", "cnc/cordic.steps", "math/bits.divideError", "math/bits.overflowError"], loops := true, apart := false, laid := [("cnc/cordic.steps", laid_cnc_cordic_steps), ("cnc/syntax.operators", laid_cnc_syntax_operators)] }
def EvalTellsSaid : Prop := evalTellsRow.holds Tryz.pinned (OpenSpec.ofChange evalTellsSpec)

/-- ITS FALSE NEIGHBOUR: 'it returns false'. Refute it at one input. -/
def evalTellsWrong : ChangeSpec := { name := "evalTells", fn := fun _ => fun
  | [d1, d2, d3] => { results := [.lit (.bool false)], args := [d1, d2, d3] }
  | _ => none }
def EvalTellsWrongFalsely : Prop := evalTellsRow.holds Tryz.pinned (OpenSpec.ofChange evalTellsWrong)

/-- 'cnclaw08.EvalOperators': WHATEVER THE INPUT: true; the input reads as it did. -/
def evalOperatorsSpec : ChangeSpec := { name := "evalOperators", fn := fun _ => fun
  | [d1, d2, d3, d4] => { results := [.lit (.bool true)], args := [d1, d2, d3, d4] }
  | _ => none }
def evalOperatorsRow : OpenClaim := { program := "ytkfipjlknfinpaagreatdoor", sum := "a71b0fb2dd37f1cfa4500342a8e4de79b7f3ccd2ca6a4989b18efb3e653453b7", func := "cnc/cnclaw08.EvalOperators", spec := "evalOperators", inPlace := ["math/bits.Add64"], unfollowed := true, recurses := true, named := ["cnc/syntax.operators", "cnc/cordic.steps", "math/bits.divideError", "math/bits.overflowError"], apart := false, laid := [("cnc/cordic.steps", laid_cnc_cordic_steps), ("cnc/syntax.operators", laid_cnc_syntax_operators)] }
def EvalOperatorsSaid : Prop := evalOperatorsRow.holds Tryz.pinned (OpenSpec.ofChange evalOperatorsSpec)

/-- ITS FALSE NEIGHBOUR: 'it returns false'. Refute it at one input. -/
def evalOperatorsWrong : ChangeSpec := { name := "evalOperators", fn := fun _ => fun
  | [d1, d2, d3, d4] => { results := [.lit (.bool false)], args := [d1, d2, d3, d4] }
  | _ => none }
def EvalOperatorsWrongFalsely : Prop := evalOperatorsRow.holds Tryz.pinned (OpenSpec.ofChange evalOperatorsWrong)

/- THE SECOND FORM. 'bulk': how many values and letters a reading holds, each counted each time it is reached (what is shared counts as often as it is met; a slice's spare places count too). A statement '..UptoSaid' is the law's where the arguments, and the package variables that the reading takes, are together of bulk at most 1048576: NARROWER than '..Said'. Prove '..Said' where nothing that the law and all that it calls make is longer than what came in: it says more and counts as full. Else prove '..UptoSaid'. A law counts once. -/
mutual
def uptoBulk {H : Type} : DataW H → Nat
  | .lit (.string bytes) => bytes.length + 1
  | .lit _ => 1
  | .nil => 1
  | .ptr d => uptoBulk d + 1
  | .slice elems spare => uptoBulkAll elems + uptoBulkAll spare + 1
  | .agg parts => uptoBulkAll parts + 1
  | .iface _ d => uptoBulk d + 1
  | .map entries => uptoBulkEntries entries + 1
  | .held _ => 1
def uptoBulkAll {H : Type} : List (DataW H) → Nat
  | [] => 0
  | d :: r => uptoBulk d + uptoBulkAll r
def uptoBulkEntries {H : Type} : List (Lit × DataW H) → Nat
  | [] => 0
  | x :: r => uptoBulkEntry x + uptoBulkEntries r
def uptoBulkEntry {H : Type} : Lit × DataW H → Nat
  | (.string bytes, d) => bytes.length + uptoBulk d + 1
  | (_, d) => uptoBulk d + 1
 end
def uptoSmall : (H : Type) → List (DataW H) → Bool := fun _ ds => decide (uptoBulkAll ds ≤ 1048576)
def OpenSpec.upto (s : _root_.Go.ChangeSpec) : _root_.Go.OpenSpec := { _root_.Go.OpenSpec.ofChange s with cond := some uptoSmall }

/-- 'cnclaw08.EvalTells', WHERE WHAT IT READS IS OF BULK AT MOST 1048576: true; the input reads as it did. -/
def evalTellsUptoRow : OpenClaim := { program := "ytkfipjlknfinpaagreatdoor", sum := "a71b0fb2dd37f1cfa4500342a8e4de79b7f3ccd2ca6a4989b18efb3e653453b7", func := "cnc/cnclaw08.EvalTells", spec := "evalTells", inPlace := ["math/bits.Add64"], unfollowed := true, recurses := true, named := ["cnc/syntax.operators", "cnc/cordic.steps", "math/bits.divideError", "math/bits.overflowError"], loops := true, apart := false, laid := [("cnc/cordic.steps", laid_cnc_cordic_steps), ("cnc/syntax.operators", laid_cnc_syntax_operators)], narrowed := true }
def EvalTellsUptoSaid : Prop := evalTellsUptoRow.holds Tryz.pinned (OpenSpec.upto evalTellsSpec)

/-- 'cnclaw08.EvalOperators', WHERE WHAT IT READS IS OF BULK AT MOST 1048576: true; the input reads as it did. -/
def evalOperatorsUptoRow : OpenClaim := { program := "ytkfipjlknfinpaagreatdoor", sum := "a71b0fb2dd37f1cfa4500342a8e4de79b7f3ccd2ca6a4989b18efb3e653453b7", func := "cnc/cnclaw08.EvalOperators", spec := "evalOperators", inPlace := ["math/bits.Add64"], unfollowed := true, recurses := true, named := ["cnc/syntax.operators", "cnc/cordic.steps", "math/bits.divideError", "math/bits.overflowError"], apart := false, laid := [("cnc/cordic.steps", laid_cnc_cordic_steps), ("cnc/syntax.operators", laid_cnc_syntax_operators)], narrowed := true }
def EvalOperatorsUptoSaid : Prop := evalOperatorsUptoRow.holds Tryz.pinned (OpenSpec.upto evalOperatorsSpec)

end Rows
end Go.Proofs.YtkfipjlknfinpaaGreatDoor
