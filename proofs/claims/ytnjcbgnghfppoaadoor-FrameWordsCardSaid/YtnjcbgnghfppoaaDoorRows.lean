/-
  NARROWER THAN 'FOR EVERY INPUT', by the rows' own cells (each row's printed sentence says how): FrameValid: laid · FrameMaps: laid · FrameTarget: laid · FrameBack: laid · FrameShifts: laid · FrameTurns: laid · FrameWords: laid · FramePolar: laid.
  DERIVED. THE GIVEN ROWS OF THIS SEAT. 8 by the template 'for every input the law returns true; each argument reads behind the call as it read before'; 0 by the template 'total and deterministic' (their statements: YtnjcbgnghfppoaaDoorTotals.lean).
  GIVEN WITH THE SEED: the statements are not yours to turn. If you find one false, say at which input.
  Laid BY PROGRAM, IN A SANDBOX (cutbox-rows.mjs): the forced cells as the released guide's own fill.sh prints them over the translation c0be91256d717e28… (all of the seat's roots in one cut). By AI agents, Wed Nov 11 2026. No macro, syntax, notation, axiom, sorry.
-/
import Derived.Test.YtnjcbgnghfppoaaDoorChecked
import GoSem.Claim
import GoSem.ClaimJoined
import GoSem.ClaimMapViews
import Derived.JoinedTies
import Derived.KernelRfl
namespace Go.Proofs.YtnjcbgnghfppoaaDoor
/- THE CELL 'sum', in the pinned program and in every row, IS THE sha256 OF THE DUMP (.gsa) THAT YtnjcbgnghfppoaaDoorProg.lean LOADS. Nothing in Lean hashes anything: it is a label: what it is worth is what the hold of that sum in a sandbox is worth. -/
noncomputable def Tryd.pinned : Pinned := { name := "ytnjcbgnghfppoaadoor", sum := "c0be91256d717e28823515fdc298144f308b2db80fbfcfd28cb2265d4d4d15c3", checked := Tryd.checked }
namespace Rows
def none {H : Type} : Left H := { results := [], args := [] }

/- WHAT THE LISTED PACKAGE-LEVEL VARIABLES READ AS WHEN THE CALL BEGINS. Each datum BY PROGRAM (the guide's laid-datum.mjs) off the statement by which the dump's own 'gosem.cut.vars' lays the variable. In a bare row this is a premise. The card (YtnjcbgnghfppoaaDoorCards.lean) ties it to the program's text. -/
def laid_cnc_cordic_steps {H : Type} : DataW H := .agg [.lit (.int .i64 45000000000), .lit (.int .i64 26565051177), .lit (.int .i64 14036243468), .lit (.int .i64 7125016349), .lit (.int .i64 3576334375), .lit (.int .i64 1789910608), .lit (.int .i64 895173710), .lit (.int .i64 447614171), .lit (.int .i64 223810500), .lit (.int .i64 111905677), .lit (.int .i64 55952892), .lit (.int .i64 27976453), .lit (.int .i64 13988227), .lit (.int .i64 6994114), .lit (.int .i64 3497057), .lit (.int .i64 1748528), .lit (.int .i64 874264), .lit (.int .i64 437132), .lit (.int .i64 218566), .lit (.int .i64 109283), .lit (.int .i64 54642), .lit (.int .i64 27321), .lit (.int .i64 13660), .lit (.int .i64 6830), .lit (.int .i64 3415), .lit (.int .i64 1708)]

/-- 'cnclaw12.FrameValid': WHATEVER THE INPUT: true; the input reads as it did. -/
def frameValidSpec : ChangeSpec := { name := "frameValid", fn := fun _ => fun
  | [d1, d2, d3, d4] => { results := [.lit (.bool true)], args := [d1, d2, d3, d4] }
  | _ => none }
def frameValidRow : OpenClaim := { program := "ytnjcbgnghfppoaadoor", sum := "c0be91256d717e28823515fdc298144f308b2db80fbfcfd28cb2265d4d4d15c3", func := "cnc/cnclaw12.FrameValid", spec := "frameValid", unfollowed := true, recurses := true, named := ["cnc/cordic.steps", "math/bits.divideError", "math/bits.overflowError"], apart := false, laid := [("cnc/cordic.steps", laid_cnc_cordic_steps)] }
def FrameValidSaid : Prop := frameValidRow.holds Tryd.pinned (OpenSpec.ofChange frameValidSpec)

/-- ITS FALSE NEIGHBOUR: 'it returns false'. Refute it at one input. -/
def frameValidWrong : ChangeSpec := { name := "frameValid", fn := fun _ => fun
  | [d1, d2, d3, d4] => { results := [.lit (.bool false)], args := [d1, d2, d3, d4] }
  | _ => none }
def FrameValidWrongFalsely : Prop := frameValidRow.holds Tryd.pinned (OpenSpec.ofChange frameValidWrong)

/-- 'cnclaw12.FrameMaps': WHATEVER THE INPUT: true; the input reads as it did. -/
def frameMapsSpec : ChangeSpec := { name := "frameMaps", fn := fun _ => fun
  | [d1, d2, d3] => { results := [.lit (.bool true)], args := [d1, d2, d3] }
  | _ => none }
def frameMapsRow : OpenClaim := { program := "ytnjcbgnghfppoaadoor", sum := "c0be91256d717e28823515fdc298144f308b2db80fbfcfd28cb2265d4d4d15c3", func := "cnc/cnclaw12.FrameMaps", spec := "frameMaps", unfollowed := true, recurses := true, named := ["cnc/cordic.steps", "math/bits.divideError", "math/bits.overflowError"], apart := false, laid := [("cnc/cordic.steps", laid_cnc_cordic_steps)] }
def FrameMapsSaid : Prop := frameMapsRow.holds Tryd.pinned (OpenSpec.ofChange frameMapsSpec)

/-- ITS FALSE NEIGHBOUR: 'it returns false'. Refute it at one input. -/
def frameMapsWrong : ChangeSpec := { name := "frameMaps", fn := fun _ => fun
  | [d1, d2, d3] => { results := [.lit (.bool false)], args := [d1, d2, d3] }
  | _ => none }
def FrameMapsWrongFalsely : Prop := frameMapsRow.holds Tryd.pinned (OpenSpec.ofChange frameMapsWrong)

/-- 'cnclaw12.FrameTarget': WHATEVER THE INPUT: true; the input reads as it did. -/
def frameTargetSpec : ChangeSpec := { name := "frameTarget", fn := fun _ => fun
  | [d1, d2, d3, d4] => { results := [.lit (.bool true)], args := [d1, d2, d3, d4] }
  | _ => none }
def frameTargetRow : OpenClaim := { program := "ytnjcbgnghfppoaadoor", sum := "c0be91256d717e28823515fdc298144f308b2db80fbfcfd28cb2265d4d4d15c3", func := "cnc/cnclaw12.FrameTarget", spec := "frameTarget", unfollowed := true, recurses := true, named := ["cnc/cordic.steps", "math/bits.divideError", "math/bits.overflowError"], apart := false, laid := [("cnc/cordic.steps", laid_cnc_cordic_steps)] }
def FrameTargetSaid : Prop := frameTargetRow.holds Tryd.pinned (OpenSpec.ofChange frameTargetSpec)

/-- ITS FALSE NEIGHBOUR: 'it returns false'. Refute it at one input. -/
def frameTargetWrong : ChangeSpec := { name := "frameTarget", fn := fun _ => fun
  | [d1, d2, d3, d4] => { results := [.lit (.bool false)], args := [d1, d2, d3, d4] }
  | _ => none }
def FrameTargetWrongFalsely : Prop := frameTargetRow.holds Tryd.pinned (OpenSpec.ofChange frameTargetWrong)

/-- 'cnclaw12.FrameBack': WHATEVER THE INPUT: true; the input reads as it did. -/
def frameBackSpec : ChangeSpec := { name := "frameBack", fn := fun _ => fun
  | [d1, d2] => { results := [.lit (.bool true)], args := [d1, d2] }
  | _ => none }
def frameBackRow : OpenClaim := { program := "ytnjcbgnghfppoaadoor", sum := "c0be91256d717e28823515fdc298144f308b2db80fbfcfd28cb2265d4d4d15c3", func := "cnc/cnclaw12.FrameBack", spec := "frameBack", unfollowed := true, recurses := true, named := ["cnc/cordic.steps", "math/bits.divideError", "math/bits.overflowError"], apart := false, laid := [("cnc/cordic.steps", laid_cnc_cordic_steps)] }
def FrameBackSaid : Prop := frameBackRow.holds Tryd.pinned (OpenSpec.ofChange frameBackSpec)

/-- ITS FALSE NEIGHBOUR: 'it returns false'. Refute it at one input. -/
def frameBackWrong : ChangeSpec := { name := "frameBack", fn := fun _ => fun
  | [d1, d2] => { results := [.lit (.bool false)], args := [d1, d2] }
  | _ => none }
def FrameBackWrongFalsely : Prop := frameBackRow.holds Tryd.pinned (OpenSpec.ofChange frameBackWrong)

/-- 'cnclaw12.FrameShifts': WHATEVER THE INPUT: true; the input reads as it did. -/
def frameShiftsSpec : ChangeSpec := { name := "frameShifts", fn := fun _ => fun
  | [d1, d2] => { results := [.lit (.bool true)], args := [d1, d2] }
  | _ => none }
def frameShiftsRow : OpenClaim := { program := "ytnjcbgnghfppoaadoor", sum := "c0be91256d717e28823515fdc298144f308b2db80fbfcfd28cb2265d4d4d15c3", func := "cnc/cnclaw12.FrameShifts", spec := "frameShifts", unfollowed := true, recurses := true, named := ["cnc/cordic.steps", "math/bits.divideError", "math/bits.overflowError"], apart := false, laid := [("cnc/cordic.steps", laid_cnc_cordic_steps)] }
def FrameShiftsSaid : Prop := frameShiftsRow.holds Tryd.pinned (OpenSpec.ofChange frameShiftsSpec)

/-- ITS FALSE NEIGHBOUR: 'it returns false'. Refute it at one input. -/
def frameShiftsWrong : ChangeSpec := { name := "frameShifts", fn := fun _ => fun
  | [d1, d2] => { results := [.lit (.bool false)], args := [d1, d2] }
  | _ => none }
def FrameShiftsWrongFalsely : Prop := frameShiftsRow.holds Tryd.pinned (OpenSpec.ofChange frameShiftsWrong)

/-- 'cnclaw12.FrameTurns': WHATEVER THE INPUT: true; the input reads as it did. -/
def frameTurnsSpec : ChangeSpec := { name := "frameTurns", fn := fun _ => fun
  | [d1, d2] => { results := [.lit (.bool true)], args := [d1, d2] }
  | _ => none }
def frameTurnsRow : OpenClaim := { program := "ytnjcbgnghfppoaadoor", sum := "c0be91256d717e28823515fdc298144f308b2db80fbfcfd28cb2265d4d4d15c3", func := "cnc/cnclaw12.FrameTurns", spec := "frameTurns", unfollowed := true, recurses := true, named := ["cnc/cordic.steps", "math/bits.divideError", "math/bits.overflowError"], apart := false, laid := [("cnc/cordic.steps", laid_cnc_cordic_steps)] }
def FrameTurnsSaid : Prop := frameTurnsRow.holds Tryd.pinned (OpenSpec.ofChange frameTurnsSpec)

/-- ITS FALSE NEIGHBOUR: 'it returns false'. Refute it at one input. -/
def frameTurnsWrong : ChangeSpec := { name := "frameTurns", fn := fun _ => fun
  | [d1, d2] => { results := [.lit (.bool false)], args := [d1, d2] }
  | _ => none }
def FrameTurnsWrongFalsely : Prop := frameTurnsRow.holds Tryd.pinned (OpenSpec.ofChange frameTurnsWrong)

/-- 'cnclaw12.FrameWords': WHATEVER THE INPUT: true; the input reads as it did. -/
def frameWordsSpec : ChangeSpec := { name := "frameWords", fn := fun _ => fun
  | [d1, d2, d3, d4, d5, d6] => { results := [.lit (.bool true)], args := [d1, d2, d3, d4, d5, d6] }
  | _ => none }
def frameWordsRow : OpenClaim := { program := "ytnjcbgnghfppoaadoor", sum := "c0be91256d717e28823515fdc298144f308b2db80fbfcfd28cb2265d4d4d15c3", func := "cnc/cnclaw12.FrameWords", spec := "frameWords", unfollowed := true, recurses := true, named := ["math/bits.divideError", "math/bits.overflowError", "cnc/cordic.steps"], apart := false, laid := [("cnc/cordic.steps", laid_cnc_cordic_steps)] }
def FrameWordsSaid : Prop := frameWordsRow.holds Tryd.pinned (OpenSpec.ofChange frameWordsSpec)

/-- ITS FALSE NEIGHBOUR: 'it returns false'. Refute it at one input. -/
def frameWordsWrong : ChangeSpec := { name := "frameWords", fn := fun _ => fun
  | [d1, d2, d3, d4, d5, d6] => { results := [.lit (.bool false)], args := [d1, d2, d3, d4, d5, d6] }
  | _ => none }
def FrameWordsWrongFalsely : Prop := frameWordsRow.holds Tryd.pinned (OpenSpec.ofChange frameWordsWrong)

/-- 'cnclaw12.FramePolar': WHATEVER THE INPUT: true; the input reads as it did. -/
def framePolarSpec : ChangeSpec := { name := "framePolar", fn := fun _ => fun
  | [d1, d2, d3, d4, d5] => { results := [.lit (.bool true)], args := [d1, d2, d3, d4, d5] }
  | _ => none }
def framePolarRow : OpenClaim := { program := "ytnjcbgnghfppoaadoor", sum := "c0be91256d717e28823515fdc298144f308b2db80fbfcfd28cb2265d4d4d15c3", func := "cnc/cnclaw12.FramePolar", spec := "framePolar", unfollowed := true, recurses := true, named := ["math/bits.divideError", "math/bits.overflowError", "cnc/cordic.steps"], apart := false, laid := [("cnc/cordic.steps", laid_cnc_cordic_steps)] }
def FramePolarSaid : Prop := framePolarRow.holds Tryd.pinned (OpenSpec.ofChange framePolarSpec)

/-- ITS FALSE NEIGHBOUR: 'it returns false'. Refute it at one input. -/
def framePolarWrong : ChangeSpec := { name := "framePolar", fn := fun _ => fun
  | [d1, d2, d3, d4, d5] => { results := [.lit (.bool false)], args := [d1, d2, d3, d4, d5] }
  | _ => none }
def FramePolarWrongFalsely : Prop := framePolarRow.holds Tryd.pinned (OpenSpec.ofChange framePolarWrong)

/- THE SECOND FORM. 'bulk': how many values and letters a reading holds, each counted each time it is reached (what is shared counts as often as it is met; a slice's spare places count too). A statement '..UptoSaid' is the law's where the arguments, and the package variables that the reading takes, are together of bulk at most 1048576: NARROWER than '..Said'. Prove '..Said' where nothing that the law and all that it calls make is longer than what came in: it says more and counts as full. Else prove '..UptoSaid'. A law counts once. -/
mutual
def uptoBulk {H : Type} : DataW H → Nat
  | .lit (.string bytes) => bytes.length + 1
  | .lit _ => 1
  | .nil => 1
  | .ptr d => uptoBulk d + 1
  | .slice elems spare => uptoBulkAll elems + uptoBulkAll spare + 1
  | .agg parts => uptoBulkAll parts + 1
  | .iface _ d => uptoBulk d + 1
  | .map entries => uptoBulkEntries entries + 1
  | .held _ => 1
def uptoBulkAll {H : Type} : List (DataW H) → Nat
  | [] => 0
  | d :: r => uptoBulk d + uptoBulkAll r
def uptoBulkEntries {H : Type} : List (Lit × DataW H) → Nat
  | [] => 0
  | x :: r => uptoBulkEntry x + uptoBulkEntries r
def uptoBulkEntry {H : Type} : Lit × DataW H → Nat
  | (.string bytes, d) => bytes.length + uptoBulk d + 1
  | (_, d) => uptoBulk d + 1
 end
def uptoSmall : (H : Type) → List (DataW H) → Bool := fun _ ds => decide (uptoBulkAll ds ≤ 1048576)
def OpenSpec.upto (s : _root_.Go.ChangeSpec) : _root_.Go.OpenSpec := { _root_.Go.OpenSpec.ofChange s with cond := some uptoSmall }

/-- 'cnclaw12.FrameValid', WHERE WHAT IT READS IS OF BULK AT MOST 1048576: true; the input reads as it did. -/
def frameValidUptoRow : OpenClaim := { program := "ytnjcbgnghfppoaadoor", sum := "c0be91256d717e28823515fdc298144f308b2db80fbfcfd28cb2265d4d4d15c3", func := "cnc/cnclaw12.FrameValid", spec := "frameValid", unfollowed := true, recurses := true, named := ["cnc/cordic.steps", "math/bits.divideError", "math/bits.overflowError"], apart := false, laid := [("cnc/cordic.steps", laid_cnc_cordic_steps)], narrowed := true }
def FrameValidUptoSaid : Prop := frameValidUptoRow.holds Tryd.pinned (OpenSpec.upto frameValidSpec)

/-- 'cnclaw12.FrameMaps', WHERE WHAT IT READS IS OF BULK AT MOST 1048576: true; the input reads as it did. -/
def frameMapsUptoRow : OpenClaim := { program := "ytnjcbgnghfppoaadoor", sum := "c0be91256d717e28823515fdc298144f308b2db80fbfcfd28cb2265d4d4d15c3", func := "cnc/cnclaw12.FrameMaps", spec := "frameMaps", unfollowed := true, recurses := true, named := ["cnc/cordic.steps", "math/bits.divideError", "math/bits.overflowError"], apart := false, laid := [("cnc/cordic.steps", laid_cnc_cordic_steps)], narrowed := true }
def FrameMapsUptoSaid : Prop := frameMapsUptoRow.holds Tryd.pinned (OpenSpec.upto frameMapsSpec)

/-- 'cnclaw12.FrameTarget', WHERE WHAT IT READS IS OF BULK AT MOST 1048576: true; the input reads as it did. -/
def frameTargetUptoRow : OpenClaim := { program := "ytnjcbgnghfppoaadoor", sum := "c0be91256d717e28823515fdc298144f308b2db80fbfcfd28cb2265d4d4d15c3", func := "cnc/cnclaw12.FrameTarget", spec := "frameTarget", unfollowed := true, recurses := true, named := ["cnc/cordic.steps", "math/bits.divideError", "math/bits.overflowError"], apart := false, laid := [("cnc/cordic.steps", laid_cnc_cordic_steps)], narrowed := true }
def FrameTargetUptoSaid : Prop := frameTargetUptoRow.holds Tryd.pinned (OpenSpec.upto frameTargetSpec)

/-- 'cnclaw12.FrameBack', WHERE WHAT IT READS IS OF BULK AT MOST 1048576: true; the input reads as it did. -/
def frameBackUptoRow : OpenClaim := { program := "ytnjcbgnghfppoaadoor", sum := "c0be91256d717e28823515fdc298144f308b2db80fbfcfd28cb2265d4d4d15c3", func := "cnc/cnclaw12.FrameBack", spec := "frameBack", unfollowed := true, recurses := true, named := ["cnc/cordic.steps", "math/bits.divideError", "math/bits.overflowError"], apart := false, laid := [("cnc/cordic.steps", laid_cnc_cordic_steps)], narrowed := true }
def FrameBackUptoSaid : Prop := frameBackUptoRow.holds Tryd.pinned (OpenSpec.upto frameBackSpec)

/-- 'cnclaw12.FrameShifts', WHERE WHAT IT READS IS OF BULK AT MOST 1048576: true; the input reads as it did. -/
def frameShiftsUptoRow : OpenClaim := { program := "ytnjcbgnghfppoaadoor", sum := "c0be91256d717e28823515fdc298144f308b2db80fbfcfd28cb2265d4d4d15c3", func := "cnc/cnclaw12.FrameShifts", spec := "frameShifts", unfollowed := true, recurses := true, named := ["cnc/cordic.steps", "math/bits.divideError", "math/bits.overflowError"], apart := false, laid := [("cnc/cordic.steps", laid_cnc_cordic_steps)], narrowed := true }
def FrameShiftsUptoSaid : Prop := frameShiftsUptoRow.holds Tryd.pinned (OpenSpec.upto frameShiftsSpec)

/-- 'cnclaw12.FrameTurns', WHERE WHAT IT READS IS OF BULK AT MOST 1048576: true; the input reads as it did. -/
def frameTurnsUptoRow : OpenClaim := { program := "ytnjcbgnghfppoaadoor", sum := "c0be91256d717e28823515fdc298144f308b2db80fbfcfd28cb2265d4d4d15c3", func := "cnc/cnclaw12.FrameTurns", spec := "frameTurns", unfollowed := true, recurses := true, named := ["cnc/cordic.steps", "math/bits.divideError", "math/bits.overflowError"], apart := false, laid := [("cnc/cordic.steps", laid_cnc_cordic_steps)], narrowed := true }
def FrameTurnsUptoSaid : Prop := frameTurnsUptoRow.holds Tryd.pinned (OpenSpec.upto frameTurnsSpec)

/-- 'cnclaw12.FrameWords', WHERE WHAT IT READS IS OF BULK AT MOST 1048576: true; the input reads as it did. -/
def frameWordsUptoRow : OpenClaim := { program := "ytnjcbgnghfppoaadoor", sum := "c0be91256d717e28823515fdc298144f308b2db80fbfcfd28cb2265d4d4d15c3", func := "cnc/cnclaw12.FrameWords", spec := "frameWords", unfollowed := true, recurses := true, named := ["math/bits.divideError", "math/bits.overflowError", "cnc/cordic.steps"], apart := false, laid := [("cnc/cordic.steps", laid_cnc_cordic_steps)], narrowed := true }
def FrameWordsUptoSaid : Prop := frameWordsUptoRow.holds Tryd.pinned (OpenSpec.upto frameWordsSpec)

/-- 'cnclaw12.FramePolar', WHERE WHAT IT READS IS OF BULK AT MOST 1048576: true; the input reads as it did. -/
def framePolarUptoRow : OpenClaim := { program := "ytnjcbgnghfppoaadoor", sum := "c0be91256d717e28823515fdc298144f308b2db80fbfcfd28cb2265d4d4d15c3", func := "cnc/cnclaw12.FramePolar", spec := "framePolar", unfollowed := true, recurses := true, named := ["math/bits.divideError", "math/bits.overflowError", "cnc/cordic.steps"], apart := false, laid := [("cnc/cordic.steps", laid_cnc_cordic_steps)], narrowed := true }
def FramePolarUptoSaid : Prop := framePolarUptoRow.holds Tryd.pinned (OpenSpec.upto framePolarSpec)

end Rows
end Go.Proofs.YtnjcbgnghfppoaaDoor
