/-
  NARROWER THAN 'FOR EVERY INPUT', by the rows' own cells (each row's printed sentence says how): EvalTexts: laid.
  DERIVED. THE GIVEN ROWS OF THIS SEAT. 1 by the template 'for every input the law returns true; each argument reads behind the call as it read before'; 0 by the template 'total and deterministic' (their statements: YtciglhecjkeogaaGreatDoorTotals.lean).
  GIVEN WITH THE SEED: the statements are not yours to turn. If you find one false, say at which input.
  Laid BY PROGRAM, IN A SANDBOX (cutbox-rows.mjs): the forced cells as the released guide's own fill.sh prints them over the translation be076c4a6041b89a… (all of the seat's roots in one cut). By AI agents, Wed Nov 11 2026. No macro, syntax, notation, axiom, sorry.
-/
import Derived.Test.YtciglhecjkeogaaGreatDoorChecked
import GoSem.Claim
import GoSem.ClaimJoined
import GoSem.ClaimMapViews
import Derived.JoinedTies
import Derived.KernelRfl
namespace Go.Proofs.YtciglhecjkeogaaGreatDoor
/- THE CELL 'sum', in the pinned program and in every row, IS THE sha256 OF THE DUMP (.gsa) THAT YtciglhecjkeogaaGreatDoorProg.lean LOADS. Nothing in Lean hashes anything: it is a label: what it is worth is what the hold of that sum in a sandbox is worth. -/
noncomputable def Tryz.pinned : Pinned := { name := "ytciglhecjkeogaagreatdoor", sum := "be076c4a6041b89a0205b8093a37dd181979cc2ee709d263588357cbaedc2fb6", checked := Tryz.checked }
namespace Rows
def none {H : Type} : Left H := { results := [], args := [] }

/- WHAT THE LISTED PACKAGE-LEVEL VARIABLES READ AS WHEN THE CALL BEGINS. Each datum BY PROGRAM (the guide's laid-datum.mjs) off the statement by which the dump's own 'gosem.cut.vars' lays the variable. In a bare row this is a premise. The card (YtciglhecjkeogaaGreatDoorCards.lean) ties it to the program's text. -/
def laid_cnc_cordic_steps {H : Type} : DataW H := .agg [.lit (.int .i64 45000000000), .lit (.int .i64 26565051177), .lit (.int .i64 14036243468), .lit (.int .i64 7125016349), .lit (.int .i64 3576334375), .lit (.int .i64 1789910608), .lit (.int .i64 895173710), .lit (.int .i64 447614171), .lit (.int .i64 223810500), .lit (.int .i64 111905677), .lit (.int .i64 55952892), .lit (.int .i64 27976453), .lit (.int .i64 13988227), .lit (.int .i64 6994114), .lit (.int .i64 3497057), .lit (.int .i64 1748528), .lit (.int .i64 874264), .lit (.int .i64 437132), .lit (.int .i64 218566), .lit (.int .i64 109283), .lit (.int .i64 54642), .lit (.int .i64 27321), .lit (.int .i64 13660), .lit (.int .i64 6830), .lit (.int .i64 3415), .lit (.int .i64 1708)]
def laid_math_bits_deBruijn32tab {H : Type} : DataW H := .agg [.lit (.int .u8 0), .lit (.int .u8 1), .lit (.int .u8 28), .lit (.int .u8 2), .lit (.int .u8 29), .lit (.int .u8 14), .lit (.int .u8 24), .lit (.int .u8 3), .lit (.int .u8 30), .lit (.int .u8 22), .lit (.int .u8 20), .lit (.int .u8 15), .lit (.int .u8 25), .lit (.int .u8 17), .lit (.int .u8 4), .lit (.int .u8 8), .lit (.int .u8 31), .lit (.int .u8 27), .lit (.int .u8 13), .lit (.int .u8 23), .lit (.int .u8 21), .lit (.int .u8 19), .lit (.int .u8 16), .lit (.int .u8 7), .lit (.int .u8 26), .lit (.int .u8 12), .lit (.int .u8 18), .lit (.int .u8 6), .lit (.int .u8 11), .lit (.int .u8 5), .lit (.int .u8 10), .lit (.int .u8 9)]
def laid_math_bits_deBruijn64tab {H : Type} : DataW H := .agg [.lit (.int .u8 0), .lit (.int .u8 1), .lit (.int .u8 56), .lit (.int .u8 2), .lit (.int .u8 57), .lit (.int .u8 49), .lit (.int .u8 28), .lit (.int .u8 3), .lit (.int .u8 61), .lit (.int .u8 58), .lit (.int .u8 42), .lit (.int .u8 50), .lit (.int .u8 38), .lit (.int .u8 29), .lit (.int .u8 17), .lit (.int .u8 4), .lit (.int .u8 62), .lit (.int .u8 47), .lit (.int .u8 59), .lit (.int .u8 36), .lit (.int .u8 45), .lit (.int .u8 43), .lit (.int .u8 51), .lit (.int .u8 22), .lit (.int .u8 53), .lit (.int .u8 39), .lit (.int .u8 33), .lit (.int .u8 30), .lit (.int .u8 24), .lit (.int .u8 18), .lit (.int .u8 12), .lit (.int .u8 5), .lit (.int .u8 63), .lit (.int .u8 55), .lit (.int .u8 48), .lit (.int .u8 27), .lit (.int .u8 60), .lit (.int .u8 41), .lit (.int .u8 37), .lit (.int .u8 16), .lit (.int .u8 46), .lit (.int .u8 35), .lit (.int .u8 44), .lit (.int .u8 21), .lit (.int .u8 52), .lit (.int .u8 32), .lit (.int .u8 23), .lit (.int .u8 11), .lit (.int .u8 54), .lit (.int .u8 26), .lit (.int .u8 40), .lit (.int .u8 15), .lit (.int .u8 34), .lit (.int .u8 20), .lit (.int .u8 31), .lit (.int .u8 10), .lit (.int .u8 25), .lit (.int .u8 14), .lit (.int .u8 19), .lit (.int .u8 9), .lit (.int .u8 13), .lit (.int .u8 8), .lit (.int .u8 7), .lit (.int .u8 6)]
def laid_internal_strconv_uint64pow10 {H : Type} : DataW H := .agg [.lit (.int .u64 1), .lit (.int .u64 10), .lit (.int .u64 100), .lit (.int .u64 1000), .lit (.int .u64 10000), .lit (.int .u64 100000), .lit (.int .u64 1000000), .lit (.int .u64 10000000), .lit (.int .u64 100000000), .lit (.int .u64 1000000000), .lit (.int .u64 10000000000), .lit (.int .u64 100000000000), .lit (.int .u64 1000000000000), .lit (.int .u64 10000000000000), .lit (.int .u64 100000000000000), .lit (.int .u64 1000000000000000), .lit (.int .u64 10000000000000000), .lit (.int .u64 100000000000000000), .lit (.int .u64 1000000000000000000), .lit (.int .u64 10000000000000000000)]
def laid_cnc_lex_names {H : Type} : DataW H := .agg [.lit (.string [73, 70]), .lit (.string [71, 79, 84, 79]), .lit (.string [87, 72, 73, 76, 69]), .lit (.string [68, 79]), .lit (.string [69, 78, 68]), .lit (.string [69, 81]), .lit (.string [78, 69]), .lit (.string [71, 84]), .lit (.string [71, 69]), .lit (.string [76, 84]), .lit (.string [76, 69]), .lit (.string [65, 78, 68]), .lit (.string [79, 82]), .lit (.string [88, 79, 82]), .lit (.string [77, 79, 68]), .lit (.string [83, 73, 78]), .lit (.string [67, 79, 83]), .lit (.string [84, 65, 78]), .lit (.string [65, 84, 65, 78]), .lit (.string [83, 81, 82, 84]), .lit (.string [65, 66, 83]), .lit (.string [82, 79, 85, 78, 68]), .lit (.string [70, 73, 88]), .lit (.string [70, 85, 80])]
def laid_cnc_syntax_operators {H : Type} : DataW H := .agg [.agg [.lit (.string []), .lit (.int .i64 0)], .agg [.lit (.string [35]), .lit (.int .i64 1)], .agg [.lit (.string [45]), .lit (.int .i64 1)], .agg [.lit (.string [43]), .lit (.int .i64 2)], .agg [.lit (.string [45]), .lit (.int .i64 2)], .agg [.lit (.string [42]), .lit (.int .i64 2)], .agg [.lit (.string [47]), .lit (.int .i64 2)], .agg [.lit (.string [77, 79, 68]), .lit (.int .i64 2)], .agg [.lit (.string [83, 73, 78]), .lit (.int .i64 1)], .agg [.lit (.string [67, 79, 83]), .lit (.int .i64 1)], .agg [.lit (.string [84, 65, 78]), .lit (.int .i64 1)], .agg [.lit (.string [65, 84, 65, 78]), .lit (.int .i64 2)], .agg [.lit (.string [83, 81, 82, 84]), .lit (.int .i64 1)], .agg [.lit (.string [65, 66, 83]), .lit (.int .i64 1)], .agg [.lit (.string [82, 79, 85, 78, 68]), .lit (.int .i64 1)], .agg [.lit (.string [70, 73, 88]), .lit (.int .i64 1)], .agg [.lit (.string [70, 85, 80]), .lit (.int .i64 1)], .agg [.lit (.string [69, 81]), .lit (.int .i64 2)], .agg [.lit (.string [78, 69]), .lit (.int .i64 2)], .agg [.lit (.string [71, 84]), .lit (.int .i64 2)], .agg [.lit (.string [71, 69]), .lit (.int .i64 2)], .agg [.lit (.string [76, 84]), .lit (.int .i64 2)], .agg [.lit (.string [76, 69]), .lit (.int .i64 2)], .agg [.lit (.string [65, 78, 68]), .lit (.int .i64 2)], .agg [.lit (.string [79, 82]), .lit (.int .i64 2)], .agg [.lit (.string [88, 79, 82]), .lit (.int .i64 2)]]

/-- 'cnclaw08.EvalTexts': WHATEVER THE INPUT: true; the input reads as it did. -/
def evalTextsSpec : ChangeSpec := { name := "evalTexts", fn := fun _ => fun
  | [d1, d2] => { results := [.lit (.bool true)], args := [d1, d2] }
  | _ => none }
def evalTextsRow : OpenClaim := { program := "ytciglhecjkeogaagreatdoor", sum := "be076c4a6041b89a0205b8093a37dd181979cc2ee709d263588357cbaedc2fb6", func := "cnc/cnclaw08.EvalTexts", spec := "evalTexts", inPlace := ["math/bits.Add64", "internal/bytealg.IndexByteString"], unfollowed := true, recurses := true, named := ["cnc/syntax.operators", "cnc/cordic.steps", "math/bits.divideError", "math/bits.overflowError", "internal/strconv.uint64pow10", "math/bits.deBruijn32tab", "math/bits.deBruijn64tab", "cnc/lex.names"], apart := false, laid := [("cnc/cordic.steps", laid_cnc_cordic_steps), ("math/bits.deBruijn32tab", laid_math_bits_deBruijn32tab), ("math/bits.deBruijn64tab", laid_math_bits_deBruijn64tab), ("internal/strconv.uint64pow10", laid_internal_strconv_uint64pow10), ("cnc/lex.names", laid_cnc_lex_names), ("cnc/syntax.operators", laid_cnc_syntax_operators)] }
def EvalTextsSaid : Prop := evalTextsRow.holds Tryz.pinned (OpenSpec.ofChange evalTextsSpec)

/-- ITS FALSE NEIGHBOUR: 'it returns false'. Refute it at one input. -/
def evalTextsWrong : ChangeSpec := { name := "evalTexts", fn := fun _ => fun
  | [d1, d2] => { results := [.lit (.bool false)], args := [d1, d2] }
  | _ => none }
def EvalTextsWrongFalsely : Prop := evalTextsRow.holds Tryz.pinned (OpenSpec.ofChange evalTextsWrong)

/- THE SECOND FORM. 'bulk': how many values and letters a reading holds, each counted each time it is reached (what is shared counts as often as it is met; a slice's spare places count too). A statement '..UptoSaid' is the law's where the arguments, and the package variables that the reading takes, are together of bulk at most 1048576: NARROWER than '..Said'. Prove '..Said' where nothing that the law and all that it calls make is longer than what came in: it says more and counts as full. Else prove '..UptoSaid'. A law counts once. -/
mutual
def uptoBulk {H : Type} : DataW H → Nat
  | .lit (.string bytes) => bytes.length + 1
  | .lit _ => 1
  | .nil => 1
  | .ptr d => uptoBulk d + 1
  | .slice elems spare => uptoBulkAll elems + uptoBulkAll spare + 1
  | .agg parts => uptoBulkAll parts + 1
  | .iface _ d => uptoBulk d + 1
  | .map entries => uptoBulkEntries entries + 1
  | .held _ => 1
def uptoBulkAll {H : Type} : List (DataW H) → Nat
  | [] => 0
  | d :: r => uptoBulk d + uptoBulkAll r
def uptoBulkEntries {H : Type} : List (Lit × DataW H) → Nat
  | [] => 0
  | x :: r => uptoBulkEntry x + uptoBulkEntries r
def uptoBulkEntry {H : Type} : Lit × DataW H → Nat
  | (.string bytes, d) => bytes.length + uptoBulk d + 1
  | (_, d) => uptoBulk d + 1
 end
def uptoSmall : (H : Type) → List (DataW H) → Bool := fun _ ds => decide (uptoBulkAll ds ≤ 1048576)
def OpenSpec.upto (s : _root_.Go.ChangeSpec) : _root_.Go.OpenSpec := { _root_.Go.OpenSpec.ofChange s with cond := some uptoSmall }

/-- 'cnclaw08.EvalTexts', WHERE WHAT IT READS IS OF BULK AT MOST 1048576: true; the input reads as it did. -/
def evalTextsUptoRow : OpenClaim := { program := "ytciglhecjkeogaagreatdoor", sum := "be076c4a6041b89a0205b8093a37dd181979cc2ee709d263588357cbaedc2fb6", func := "cnc/cnclaw08.EvalTexts", spec := "evalTexts", inPlace := ["math/bits.Add64", "internal/bytealg.IndexByteString"], unfollowed := true, recurses := true, named := ["cnc/syntax.operators", "cnc/cordic.steps", "math/bits.divideError", "math/bits.overflowError", "internal/strconv.uint64pow10", "math/bits.deBruijn32tab", "math/bits.deBruijn64tab", "cnc/lex.names"], apart := false, laid := [("cnc/cordic.steps", laid_cnc_cordic_steps), ("math/bits.deBruijn32tab", laid_math_bits_deBruijn32tab), ("math/bits.deBruijn64tab", laid_math_bits_deBruijn64tab), ("internal/strconv.uint64pow10", laid_internal_strconv_uint64pow10), ("cnc/lex.names", laid_cnc_lex_names), ("cnc/syntax.operators", laid_cnc_syntax_operators)], narrowed := true }
def EvalTextsUptoSaid : Prop := evalTextsUptoRow.holds Tryz.pinned (OpenSpec.upto evalTextsSpec)

end Rows
end Go.Proofs.YtciglhecjkeogaaGreatDoor
