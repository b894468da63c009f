/-
  NARROWER THAN 'FOR EVERY INPUT', by the rows' own cells (each row's printed sentence says how): CordicSinCos: laid · CordicRotate: laid · CordicAngle: laid · CordicCircle: laid · CordicQuarters: laid · CordicSums: laid · CordicMirrors: laid · CordicBack: laid · CordicLengths: laid · CordicRight: laid · CordicDirections: laid.
  DERIVED. THE GIVEN ROWS OF THIS SEAT. 11 by the template 'for every input the law returns true; each argument reads behind the call as it read before'; 0 by the template 'total and deterministic' (their statements: YtkkgjcjjjbikfaaDoorTotals.lean).
  GIVEN WITH THE SEED: the statements are not yours to turn. If you find one false, say at which input.
  Laid BY PROGRAM, IN A SANDBOX (cutbox-rows.mjs): the forced cells as the released guide's own fill.sh prints them over the translation 6f235b99720eb8e7… (all of the seat's roots in one cut). By AI agents, Wed Nov 11 2026. No macro, syntax, notation, axiom, sorry.
-/
import Derived.Test.YtkkgjcjjjbikfaaDoorChecked
import GoSem.Claim
import GoSem.ClaimJoined
import GoSem.ClaimMapViews
import Derived.JoinedTies
import Derived.KernelRfl
namespace Go.Proofs.YtkkgjcjjjbikfaaDoor
/- THE CELL 'sum', in the pinned program and in every row, IS THE sha256 OF THE DUMP (.gsa) THAT YtkkgjcjjjbikfaaDoorProg.lean LOADS. Nothing in Lean hashes anything: it is a label: what it is worth is what the hold of that sum in a sandbox is worth. -/
noncomputable def Tryd.pinned : Pinned := { name := "ytkkgjcjjjbikfaadoor", sum := "6f235b99720eb8e7231599ef8b200e95fdf4c6e238d41a5e2bfd2ee5fa4e3b1c", checked := Tryd.checked }
namespace Rows
def none {H : Type} : Left H := { results := [], args := [] }

/- WHAT THE LISTED PACKAGE-LEVEL VARIABLES READ AS WHEN THE CALL BEGINS. Each datum BY PROGRAM (the guide's laid-datum.mjs) off the statement by which the dump's own 'gosem.cut.vars' lays the variable. In a bare row this is a premise. The card (YtkkgjcjjjbikfaaDoorCards.lean) ties it to the program's text. -/
def laid_cnc_cordic_steps {H : Type} : DataW H := .agg [.lit (.int .i64 45000000000), .lit (.int .i64 26565051177), .lit (.int .i64 14036243468), .lit (.int .i64 7125016349), .lit (.int .i64 3576334375), .lit (.int .i64 1789910608), .lit (.int .i64 895173710), .lit (.int .i64 447614171), .lit (.int .i64 223810500), .lit (.int .i64 111905677), .lit (.int .i64 55952892), .lit (.int .i64 27976453), .lit (.int .i64 13988227), .lit (.int .i64 6994114), .lit (.int .i64 3497057), .lit (.int .i64 1748528), .lit (.int .i64 874264), .lit (.int .i64 437132), .lit (.int .i64 218566), .lit (.int .i64 109283), .lit (.int .i64 54642), .lit (.int .i64 27321), .lit (.int .i64 13660), .lit (.int .i64 6830), .lit (.int .i64 3415), .lit (.int .i64 1708)]

/-- 'cnclaw03.CordicSinCos': WHATEVER THE INPUT: true; the input reads as it did. -/
def cordicSinCosSpec : ChangeSpec := { name := "cordicSinCos", fn := fun _ => fun
  | [d1, d2] => { results := [.lit (.bool true)], args := [d1, d2] }
  | _ => none }
def cordicSinCosRow : OpenClaim := { program := "ytkkgjcjjjbikfaadoor", sum := "6f235b99720eb8e7231599ef8b200e95fdf4c6e238d41a5e2bfd2ee5fa4e3b1c", func := "cnc/cnclaw03.CordicSinCos", spec := "cordicSinCos", named := ["cnc/cordic.steps"], apart := false, laid := [("cnc/cordic.steps", laid_cnc_cordic_steps)] }
def CordicSinCosSaid : Prop := cordicSinCosRow.holds Tryd.pinned (OpenSpec.ofChange cordicSinCosSpec)

/-- ITS FALSE NEIGHBOUR: 'it returns false'. Refute it at one input. -/
def cordicSinCosWrong : ChangeSpec := { name := "cordicSinCos", fn := fun _ => fun
  | [d1, d2] => { results := [.lit (.bool false)], args := [d1, d2] }
  | _ => none }
def CordicSinCosWrongFalsely : Prop := cordicSinCosRow.holds Tryd.pinned (OpenSpec.ofChange cordicSinCosWrong)

/-- 'cnclaw03.CordicRotate': WHATEVER THE INPUT: true; the input reads as it did. -/
def cordicRotateSpec : ChangeSpec := { name := "cordicRotate", fn := fun _ => fun
  | [d1, d2, d3, d4] => { results := [.lit (.bool true)], args := [d1, d2, d3, d4] }
  | _ => none }
def cordicRotateRow : OpenClaim := { program := "ytkkgjcjjjbikfaadoor", sum := "6f235b99720eb8e7231599ef8b200e95fdf4c6e238d41a5e2bfd2ee5fa4e3b1c", func := "cnc/cnclaw03.CordicRotate", spec := "cordicRotate", named := ["cnc/cordic.steps"], apart := false, laid := [("cnc/cordic.steps", laid_cnc_cordic_steps)] }
def CordicRotateSaid : Prop := cordicRotateRow.holds Tryd.pinned (OpenSpec.ofChange cordicRotateSpec)

/-- ITS FALSE NEIGHBOUR: 'it returns false'. Refute it at one input. -/
def cordicRotateWrong : ChangeSpec := { name := "cordicRotate", fn := fun _ => fun
  | [d1, d2, d3, d4] => { results := [.lit (.bool false)], args := [d1, d2, d3, d4] }
  | _ => none }
def CordicRotateWrongFalsely : Prop := cordicRotateRow.holds Tryd.pinned (OpenSpec.ofChange cordicRotateWrong)

/-- 'cnclaw03.CordicAngle': WHATEVER THE INPUT: true; the input reads as it did. -/
def cordicAngleSpec : ChangeSpec := { name := "cordicAngle", fn := fun _ => fun
  | [d1, d2, d3] => { results := [.lit (.bool true)], args := [d1, d2, d3] }
  | _ => none }
def cordicAngleRow : OpenClaim := { program := "ytkkgjcjjjbikfaadoor", sum := "6f235b99720eb8e7231599ef8b200e95fdf4c6e238d41a5e2bfd2ee5fa4e3b1c", func := "cnc/cnclaw03.CordicAngle", spec := "cordicAngle", named := ["cnc/cordic.steps"], apart := false, laid := [("cnc/cordic.steps", laid_cnc_cordic_steps)] }
def CordicAngleSaid : Prop := cordicAngleRow.holds Tryd.pinned (OpenSpec.ofChange cordicAngleSpec)

/-- ITS FALSE NEIGHBOUR: 'it returns false'. Refute it at one input. -/
def cordicAngleWrong : ChangeSpec := { name := "cordicAngle", fn := fun _ => fun
  | [d1, d2, d3] => { results := [.lit (.bool false)], args := [d1, d2, d3] }
  | _ => none }
def CordicAngleWrongFalsely : Prop := cordicAngleRow.holds Tryd.pinned (OpenSpec.ofChange cordicAngleWrong)

/-- 'cnclaw03.CordicCircle': WHATEVER THE INPUT: true; the input reads as it did. -/
def cordicCircleSpec : ChangeSpec := { name := "cordicCircle", fn := fun _ => fun
  | [d] => { results := [.lit (.bool true)], args := [d] }
  | _ => none }
def cordicCircleRow : OpenClaim := { program := "ytkkgjcjjjbikfaadoor", sum := "6f235b99720eb8e7231599ef8b200e95fdf4c6e238d41a5e2bfd2ee5fa4e3b1c", func := "cnc/cnclaw03.CordicCircle", spec := "cordicCircle", named := ["cnc/cordic.steps"], apart := false, laid := [("cnc/cordic.steps", laid_cnc_cordic_steps)] }
def CordicCircleSaid : Prop := cordicCircleRow.holds Tryd.pinned (OpenSpec.ofChange cordicCircleSpec)

/-- ITS FALSE NEIGHBOUR: 'it returns false'. Refute it at one input. -/
def cordicCircleWrong : ChangeSpec := { name := "cordicCircle", fn := fun _ => fun
  | [d] => { results := [.lit (.bool false)], args := [d] }
  | _ => none }
def CordicCircleWrongFalsely : Prop := cordicCircleRow.holds Tryd.pinned (OpenSpec.ofChange cordicCircleWrong)

/-- 'cnclaw03.CordicQuarters': WHATEVER THE INPUT: true; the input reads as it did. -/
def cordicQuartersSpec : ChangeSpec := { name := "cordicQuarters", fn := fun _ => fun
  | [d] => { results := [.lit (.bool true)], args := [d] }
  | _ => none }
def cordicQuartersRow : OpenClaim := { program := "ytkkgjcjjjbikfaadoor", sum := "6f235b99720eb8e7231599ef8b200e95fdf4c6e238d41a5e2bfd2ee5fa4e3b1c", func := "cnc/cnclaw03.CordicQuarters", spec := "cordicQuarters", named := ["cnc/cordic.steps"], apart := false, laid := [("cnc/cordic.steps", laid_cnc_cordic_steps)] }
def CordicQuartersSaid : Prop := cordicQuartersRow.holds Tryd.pinned (OpenSpec.ofChange cordicQuartersSpec)

/-- ITS FALSE NEIGHBOUR: 'it returns false'. Refute it at one input. -/
def cordicQuartersWrong : ChangeSpec := { name := "cordicQuarters", fn := fun _ => fun
  | [d] => { results := [.lit (.bool false)], args := [d] }
  | _ => none }
def CordicQuartersWrongFalsely : Prop := cordicQuartersRow.holds Tryd.pinned (OpenSpec.ofChange cordicQuartersWrong)

/-- 'cnclaw03.CordicSums': WHATEVER THE INPUT: true; the input reads as it did. -/
def cordicSumsSpec : ChangeSpec := { name := "cordicSums", fn := fun _ => fun
  | [d1, d2] => { results := [.lit (.bool true)], args := [d1, d2] }
  | _ => none }
def cordicSumsRow : OpenClaim := { program := "ytkkgjcjjjbikfaadoor", sum := "6f235b99720eb8e7231599ef8b200e95fdf4c6e238d41a5e2bfd2ee5fa4e3b1c", func := "cnc/cnclaw03.CordicSums", spec := "cordicSums", named := ["cnc/cordic.steps", "math/bits.divideError", "math/bits.overflowError"], apart := false, laid := [("cnc/cordic.steps", laid_cnc_cordic_steps)] }
def CordicSumsSaid : Prop := cordicSumsRow.holds Tryd.pinned (OpenSpec.ofChange cordicSumsSpec)

/-- ITS FALSE NEIGHBOUR: 'it returns false'. Refute it at one input. -/
def cordicSumsWrong : ChangeSpec := { name := "cordicSums", fn := fun _ => fun
  | [d1, d2] => { results := [.lit (.bool false)], args := [d1, d2] }
  | _ => none }
def CordicSumsWrongFalsely : Prop := cordicSumsRow.holds Tryd.pinned (OpenSpec.ofChange cordicSumsWrong)

/-- 'cnclaw03.CordicMirrors': WHATEVER THE INPUT: true; the input reads as it did. -/
def cordicMirrorsSpec : ChangeSpec := { name := "cordicMirrors", fn := fun _ => fun
  | [d] => { results := [.lit (.bool true)], args := [d] }
  | _ => none }
def cordicMirrorsRow : OpenClaim := { program := "ytkkgjcjjjbikfaadoor", sum := "6f235b99720eb8e7231599ef8b200e95fdf4c6e238d41a5e2bfd2ee5fa4e3b1c", func := "cnc/cnclaw03.CordicMirrors", spec := "cordicMirrors", named := ["cnc/cordic.steps"], apart := false, laid := [("cnc/cordic.steps", laid_cnc_cordic_steps)] }
def CordicMirrorsSaid : Prop := cordicMirrorsRow.holds Tryd.pinned (OpenSpec.ofChange cordicMirrorsSpec)

/-- ITS FALSE NEIGHBOUR: 'it returns false'. Refute it at one input. -/
def cordicMirrorsWrong : ChangeSpec := { name := "cordicMirrors", fn := fun _ => fun
  | [d] => { results := [.lit (.bool false)], args := [d] }
  | _ => none }
def CordicMirrorsWrongFalsely : Prop := cordicMirrorsRow.holds Tryd.pinned (OpenSpec.ofChange cordicMirrorsWrong)

/-- 'cnclaw03.CordicBack': WHATEVER THE INPUT: true; the input reads as it did. -/
def cordicBackSpec : ChangeSpec := { name := "cordicBack", fn := fun _ => fun
  | [d1, d2, d3] => { results := [.lit (.bool true)], args := [d1, d2, d3] }
  | _ => none }
def cordicBackRow : OpenClaim := { program := "ytkkgjcjjjbikfaadoor", sum := "6f235b99720eb8e7231599ef8b200e95fdf4c6e238d41a5e2bfd2ee5fa4e3b1c", func := "cnc/cnclaw03.CordicBack", spec := "cordicBack", named := ["cnc/cordic.steps"], apart := false, laid := [("cnc/cordic.steps", laid_cnc_cordic_steps)] }
def CordicBackSaid : Prop := cordicBackRow.holds Tryd.pinned (OpenSpec.ofChange cordicBackSpec)

/-- ITS FALSE NEIGHBOUR: 'it returns false'. Refute it at one input. -/
def cordicBackWrong : ChangeSpec := { name := "cordicBack", fn := fun _ => fun
  | [d1, d2, d3] => { results := [.lit (.bool false)], args := [d1, d2, d3] }
  | _ => none }
def CordicBackWrongFalsely : Prop := cordicBackRow.holds Tryd.pinned (OpenSpec.ofChange cordicBackWrong)

/-- 'cnclaw03.CordicLengths': WHATEVER THE INPUT: true; the input reads as it did. -/
def cordicLengthsSpec : ChangeSpec := { name := "cordicLengths", fn := fun _ => fun
  | [d1, d2, d3] => { results := [.lit (.bool true)], args := [d1, d2, d3] }
  | _ => none }
def cordicLengthsRow : OpenClaim := { program := "ytkkgjcjjjbikfaadoor", sum := "6f235b99720eb8e7231599ef8b200e95fdf4c6e238d41a5e2bfd2ee5fa4e3b1c", func := "cnc/cnclaw03.CordicLengths", spec := "cordicLengths", inPlace := ["math/bits.Add64"], named := ["cnc/cordic.steps", "math/bits.divideError", "math/bits.overflowError"], apart := false, laid := [("cnc/cordic.steps", laid_cnc_cordic_steps)] }
def CordicLengthsSaid : Prop := cordicLengthsRow.holds Tryd.pinned (OpenSpec.ofChange cordicLengthsSpec)

/-- ITS FALSE NEIGHBOUR: 'it returns false'. Refute it at one input. -/
def cordicLengthsWrong : ChangeSpec := { name := "cordicLengths", fn := fun _ => fun
  | [d1, d2, d3] => { results := [.lit (.bool false)], args := [d1, d2, d3] }
  | _ => none }
def CordicLengthsWrongFalsely : Prop := cordicLengthsRow.holds Tryd.pinned (OpenSpec.ofChange cordicLengthsWrong)

/-- 'cnclaw03.CordicRight': WHATEVER THE INPUT: true; the input reads as it did. -/
def cordicRightSpec : ChangeSpec := { name := "cordicRight", fn := fun _ => fun
  | [d1, d2, d3] => { results := [.lit (.bool true)], args := [d1, d2, d3] }
  | _ => none }
def cordicRightRow : OpenClaim := { program := "ytkkgjcjjjbikfaadoor", sum := "6f235b99720eb8e7231599ef8b200e95fdf4c6e238d41a5e2bfd2ee5fa4e3b1c", func := "cnc/cnclaw03.CordicRight", spec := "cordicRight", named := ["cnc/cordic.steps"], apart := false, laid := [("cnc/cordic.steps", laid_cnc_cordic_steps)] }
def CordicRightSaid : Prop := cordicRightRow.holds Tryd.pinned (OpenSpec.ofChange cordicRightSpec)

/-- ITS FALSE NEIGHBOUR: 'it returns false'. Refute it at one input. -/
def cordicRightWrong : ChangeSpec := { name := "cordicRight", fn := fun _ => fun
  | [d1, d2, d3] => { results := [.lit (.bool false)], args := [d1, d2, d3] }
  | _ => none }
def CordicRightWrongFalsely : Prop := cordicRightRow.holds Tryd.pinned (OpenSpec.ofChange cordicRightWrong)

/-- 'cnclaw03.CordicDirections': WHATEVER THE INPUT: true; the input reads as it did. -/
def cordicDirectionsSpec : ChangeSpec := { name := "cordicDirections", fn := fun _ => fun
  | [d1, d2] => { results := [.lit (.bool true)], args := [d1, d2] }
  | _ => none }
def cordicDirectionsRow : OpenClaim := { program := "ytkkgjcjjjbikfaadoor", sum := "6f235b99720eb8e7231599ef8b200e95fdf4c6e238d41a5e2bfd2ee5fa4e3b1c", func := "cnc/cnclaw03.CordicDirections", spec := "cordicDirections", inPlace := ["math/bits.Add64"], named := ["cnc/cordic.steps", "math/bits.divideError", "math/bits.overflowError"], apart := false, laid := [("cnc/cordic.steps", laid_cnc_cordic_steps)] }
def CordicDirectionsSaid : Prop := cordicDirectionsRow.holds Tryd.pinned (OpenSpec.ofChange cordicDirectionsSpec)

/-- ITS FALSE NEIGHBOUR: 'it returns false'. Refute it at one input. -/
def cordicDirectionsWrong : ChangeSpec := { name := "cordicDirections", fn := fun _ => fun
  | [d1, d2] => { results := [.lit (.bool false)], args := [d1, d2] }
  | _ => none }
def CordicDirectionsWrongFalsely : Prop := cordicDirectionsRow.holds Tryd.pinned (OpenSpec.ofChange cordicDirectionsWrong)

/- THE SECOND FORM. 'bulk': how many values and letters a reading holds, each counted each time it is reached (what is shared counts as often as it is met; a slice's spare places count too). A statement '..UptoSaid' is the law's where the arguments, and the package variables that the reading takes, are together of bulk at most 1048576: NARROWER than '..Said'. Prove '..Said' where nothing that the law and all that it calls make is longer than what came in: it says more and counts as full. Else prove '..UptoSaid'. A law counts once. -/
mutual
def uptoBulk {H : Type} : DataW H → Nat
  | .lit (.string bytes) => bytes.length + 1
  | .lit _ => 1
  | .nil => 1
  | .ptr d => uptoBulk d + 1
  | .slice elems spare => uptoBulkAll elems + uptoBulkAll spare + 1
  | .agg parts => uptoBulkAll parts + 1
  | .iface _ d => uptoBulk d + 1
  | .map entries => uptoBulkEntries entries + 1
  | .held _ => 1
def uptoBulkAll {H : Type} : List (DataW H) → Nat
  | [] => 0
  | d :: r => uptoBulk d + uptoBulkAll r
def uptoBulkEntries {H : Type} : List (Lit × DataW H) → Nat
  | [] => 0
  | x :: r => uptoBulkEntry x + uptoBulkEntries r
def uptoBulkEntry {H : Type} : Lit × DataW H → Nat
  | (.string bytes, d) => bytes.length + uptoBulk d + 1
  | (_, d) => uptoBulk d + 1
 end
def uptoSmall : (H : Type) → List (DataW H) → Bool := fun _ ds => decide (uptoBulkAll ds ≤ 1048576)
def OpenSpec.upto (s : _root_.Go.ChangeSpec) : _root_.Go.OpenSpec := { _root_.Go.OpenSpec.ofChange s with cond := some uptoSmall }

/-- 'cnclaw03.CordicSinCos', WHERE WHAT IT READS IS OF BULK AT MOST 1048576: true; the input reads as it did. -/
def cordicSinCosUptoRow : OpenClaim := { program := "ytkkgjcjjjbikfaadoor", sum := "6f235b99720eb8e7231599ef8b200e95fdf4c6e238d41a5e2bfd2ee5fa4e3b1c", func := "cnc/cnclaw03.CordicSinCos", spec := "cordicSinCos", named := ["cnc/cordic.steps"], apart := false, laid := [("cnc/cordic.steps", laid_cnc_cordic_steps)], narrowed := true }
def CordicSinCosUptoSaid : Prop := cordicSinCosUptoRow.holds Tryd.pinned (OpenSpec.upto cordicSinCosSpec)

/-- 'cnclaw03.CordicRotate', WHERE WHAT IT READS IS OF BULK AT MOST 1048576: true; the input reads as it did. -/
def cordicRotateUptoRow : OpenClaim := { program := "ytkkgjcjjjbikfaadoor", sum := "6f235b99720eb8e7231599ef8b200e95fdf4c6e238d41a5e2bfd2ee5fa4e3b1c", func := "cnc/cnclaw03.CordicRotate", spec := "cordicRotate", named := ["cnc/cordic.steps"], apart := false, laid := [("cnc/cordic.steps", laid_cnc_cordic_steps)], narrowed := true }
def CordicRotateUptoSaid : Prop := cordicRotateUptoRow.holds Tryd.pinned (OpenSpec.upto cordicRotateSpec)

/-- 'cnclaw03.CordicAngle', WHERE WHAT IT READS IS OF BULK AT MOST 1048576: true; the input reads as it did. -/
def cordicAngleUptoRow : OpenClaim := { program := "ytkkgjcjjjbikfaadoor", sum := "6f235b99720eb8e7231599ef8b200e95fdf4c6e238d41a5e2bfd2ee5fa4e3b1c", func := "cnc/cnclaw03.CordicAngle", spec := "cordicAngle", named := ["cnc/cordic.steps"], apart := false, laid := [("cnc/cordic.steps", laid_cnc_cordic_steps)], narrowed := true }
def CordicAngleUptoSaid : Prop := cordicAngleUptoRow.holds Tryd.pinned (OpenSpec.upto cordicAngleSpec)

/-- 'cnclaw03.CordicCircle', WHERE WHAT IT READS IS OF BULK AT MOST 1048576: true; the input reads as it did. -/
def cordicCircleUptoRow : OpenClaim := { program := "ytkkgjcjjjbikfaadoor", sum := "6f235b99720eb8e7231599ef8b200e95fdf4c6e238d41a5e2bfd2ee5fa4e3b1c", func := "cnc/cnclaw03.CordicCircle", spec := "cordicCircle", named := ["cnc/cordic.steps"], apart := false, laid := [("cnc/cordic.steps", laid_cnc_cordic_steps)], narrowed := true }
def CordicCircleUptoSaid : Prop := cordicCircleUptoRow.holds Tryd.pinned (OpenSpec.upto cordicCircleSpec)

/-- 'cnclaw03.CordicQuarters', WHERE WHAT IT READS IS OF BULK AT MOST 1048576: true; the input reads as it did. -/
def cordicQuartersUptoRow : OpenClaim := { program := "ytkkgjcjjjbikfaadoor", sum := "6f235b99720eb8e7231599ef8b200e95fdf4c6e238d41a5e2bfd2ee5fa4e3b1c", func := "cnc/cnclaw03.CordicQuarters", spec := "cordicQuarters", named := ["cnc/cordic.steps"], apart := false, laid := [("cnc/cordic.steps", laid_cnc_cordic_steps)], narrowed := true }
def CordicQuartersUptoSaid : Prop := cordicQuartersUptoRow.holds Tryd.pinned (OpenSpec.upto cordicQuartersSpec)

/-- 'cnclaw03.CordicSums', WHERE WHAT IT READS IS OF BULK AT MOST 1048576: true; the input reads as it did. -/
def cordicSumsUptoRow : OpenClaim := { program := "ytkkgjcjjjbikfaadoor", sum := "6f235b99720eb8e7231599ef8b200e95fdf4c6e238d41a5e2bfd2ee5fa4e3b1c", func := "cnc/cnclaw03.CordicSums", spec := "cordicSums", named := ["cnc/cordic.steps", "math/bits.divideError", "math/bits.overflowError"], apart := false, laid := [("cnc/cordic.steps", laid_cnc_cordic_steps)], narrowed := true }
def CordicSumsUptoSaid : Prop := cordicSumsUptoRow.holds Tryd.pinned (OpenSpec.upto cordicSumsSpec)

/-- 'cnclaw03.CordicMirrors', WHERE WHAT IT READS IS OF BULK AT MOST 1048576: true; the input reads as it did. -/
def cordicMirrorsUptoRow : OpenClaim := { program := "ytkkgjcjjjbikfaadoor", sum := "6f235b99720eb8e7231599ef8b200e95fdf4c6e238d41a5e2bfd2ee5fa4e3b1c", func := "cnc/cnclaw03.CordicMirrors", spec := "cordicMirrors", named := ["cnc/cordic.steps"], apart := false, laid := [("cnc/cordic.steps", laid_cnc_cordic_steps)], narrowed := true }
def CordicMirrorsUptoSaid : Prop := cordicMirrorsUptoRow.holds Tryd.pinned (OpenSpec.upto cordicMirrorsSpec)

/-- 'cnclaw03.CordicBack', WHERE WHAT IT READS IS OF BULK AT MOST 1048576: true; the input reads as it did. -/
def cordicBackUptoRow : OpenClaim := { program := "ytkkgjcjjjbikfaadoor", sum := "6f235b99720eb8e7231599ef8b200e95fdf4c6e238d41a5e2bfd2ee5fa4e3b1c", func := "cnc/cnclaw03.CordicBack", spec := "cordicBack", named := ["cnc/cordic.steps"], apart := false, laid := [("cnc/cordic.steps", laid_cnc_cordic_steps)], narrowed := true }
def CordicBackUptoSaid : Prop := cordicBackUptoRow.holds Tryd.pinned (OpenSpec.upto cordicBackSpec)

/-- 'cnclaw03.CordicLengths', WHERE WHAT IT READS IS OF BULK AT MOST 1048576: true; the input reads as it did. -/
def cordicLengthsUptoRow : OpenClaim := { program := "ytkkgjcjjjbikfaadoor", sum := "6f235b99720eb8e7231599ef8b200e95fdf4c6e238d41a5e2bfd2ee5fa4e3b1c", func := "cnc/cnclaw03.CordicLengths", spec := "cordicLengths", inPlace := ["math/bits.Add64"], named := ["cnc/cordic.steps", "math/bits.divideError", "math/bits.overflowError"], apart := false, laid := [("cnc/cordic.steps", laid_cnc_cordic_steps)], narrowed := true }
def CordicLengthsUptoSaid : Prop := cordicLengthsUptoRow.holds Tryd.pinned (OpenSpec.upto cordicLengthsSpec)

/-- 'cnclaw03.CordicRight', WHERE WHAT IT READS IS OF BULK AT MOST 1048576: true; the input reads as it did. -/
def cordicRightUptoRow : OpenClaim := { program := "ytkkgjcjjjbikfaadoor", sum := "6f235b99720eb8e7231599ef8b200e95fdf4c6e238d41a5e2bfd2ee5fa4e3b1c", func := "cnc/cnclaw03.CordicRight", spec := "cordicRight", named := ["cnc/cordic.steps"], apart := false, laid := [("cnc/cordic.steps", laid_cnc_cordic_steps)], narrowed := true }
def CordicRightUptoSaid : Prop := cordicRightUptoRow.holds Tryd.pinned (OpenSpec.upto cordicRightSpec)

/-- 'cnclaw03.CordicDirections', WHERE WHAT IT READS IS OF BULK AT MOST 1048576: true; the input reads as it did. -/
def cordicDirectionsUptoRow : OpenClaim := { program := "ytkkgjcjjjbikfaadoor", sum := "6f235b99720eb8e7231599ef8b200e95fdf4c6e238d41a5e2bfd2ee5fa4e3b1c", func := "cnc/cnclaw03.CordicDirections", spec := "cordicDirections", inPlace := ["math/bits.Add64"], named := ["cnc/cordic.steps", "math/bits.divideError", "math/bits.overflowError"], apart := false, laid := [("cnc/cordic.steps", laid_cnc_cordic_steps)], narrowed := true }
def CordicDirectionsUptoSaid : Prop := cordicDirectionsUptoRow.holds Tryd.pinned (OpenSpec.upto cordicDirectionsSpec)

end Rows
end Go.Proofs.YtkkgjcjjjbikfaaDoor
