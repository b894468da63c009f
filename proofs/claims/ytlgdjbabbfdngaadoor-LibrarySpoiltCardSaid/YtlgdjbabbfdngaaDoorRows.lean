/-
  NARROWER THAN 'FOR EVERY INPUT', by the rows' own cells (each row's printed sentence says how): LibraryBuild: loops, laid · LibrarySpoilt: laid · LibraryFinds: laid · LibraryInside: laid · LibraryMates: laid · LibraryCopies: laid.
  DERIVED. THE GIVEN ROWS OF THIS SEAT. 6 by the template 'for every input the law returns true; each argument reads behind the call as it read before'; 0 by the template 'total and deterministic' (their statements: YtlgdjbabbfdngaaDoorTotals.lean).
  GIVEN WITH THE SEED: the statements are not yours to turn. If you find one false, say at which input.
  Laid BY PROGRAM, IN A SANDBOX (cutbox-rows.mjs): the forced cells as the released guide's own fill.sh prints them over the translation 043e13335e853d13… (all of the seat's roots in one cut). By AI agents, Wed Nov 11 2026. No macro, syntax, notation, axiom, sorry.
-/
import Derived.Test.YtlgdjbabbfdngaaDoorChecked
import GoSem.Claim
import GoSem.ClaimJoined
import GoSem.ClaimMapViews
import Derived.JoinedTies
import Derived.KernelRfl
namespace Go.Proofs.YtlgdjbabbfdngaaDoor
/- THE CELL 'sum', in the pinned program and in every row, IS THE sha256 OF THE DUMP (.gsa) THAT YtlgdjbabbfdngaaDoorProg.lean LOADS. Nothing in Lean hashes anything: it is a label: what it is worth is what the hold of that sum in a sandbox is worth. -/
noncomputable def Tryd.pinned : Pinned := { name := "ytlgdjbabbfdngaadoor", sum := "043e13335e853d1372f35430282eaf0871c54ba3d5536865a2340348ecf773a6", checked := Tryd.checked }
namespace Rows
def none {H : Type} : Left H := { results := [], args := [] }

/- WHAT THE LISTED PACKAGE-LEVEL VARIABLES READ AS WHEN THE CALL BEGINS. Each datum BY PROGRAM (the guide's laid-datum.mjs) off the statement by which the dump's own 'gosem.cut.vars' lays the variable. In a bare row this is a premise. The card (YtlgdjbabbfdngaaDoorCards.lean) ties it to the program's text. -/
def laid_cnc_syntax_operators {H : Type} : DataW H := .agg [.agg [.lit (.string []), .lit (.int .i64 0)], .agg [.lit (.string [35]), .lit (.int .i64 1)], .agg [.lit (.string [45]), .lit (.int .i64 1)], .agg [.lit (.string [43]), .lit (.int .i64 2)], .agg [.lit (.string [45]), .lit (.int .i64 2)], .agg [.lit (.string [42]), .lit (.int .i64 2)], .agg [.lit (.string [47]), .lit (.int .i64 2)], .agg [.lit (.string [77, 79, 68]), .lit (.int .i64 2)], .agg [.lit (.string [83, 73, 78]), .lit (.int .i64 1)], .agg [.lit (.string [67, 79, 83]), .lit (.int .i64 1)], .agg [.lit (.string [84, 65, 78]), .lit (.int .i64 1)], .agg [.lit (.string [65, 84, 65, 78]), .lit (.int .i64 2)], .agg [.lit (.string [83, 81, 82, 84]), .lit (.int .i64 1)], .agg [.lit (.string [65, 66, 83]), .lit (.int .i64 1)], .agg [.lit (.string [82, 79, 85, 78, 68]), .lit (.int .i64 1)], .agg [.lit (.string [70, 73, 88]), .lit (.int .i64 1)], .agg [.lit (.string [70, 85, 80]), .lit (.int .i64 1)], .agg [.lit (.string [69, 81]), .lit (.int .i64 2)], .agg [.lit (.string [78, 69]), .lit (.int .i64 2)], .agg [.lit (.string [71, 84]), .lit (.int .i64 2)], .agg [.lit (.string [71, 69]), .lit (.int .i64 2)], .agg [.lit (.string [76, 84]), .lit (.int .i64 2)], .agg [.lit (.string [76, 69]), .lit (.int .i64 2)], .agg [.lit (.string [65, 78, 68]), .lit (.int .i64 2)], .agg [.lit (.string [79, 82]), .lit (.int .i64 2)], .agg [.lit (.string [88, 79, 82]), .lit (.int .i64 2)]]

/-- 'cnclaw09.LibraryBuild': WHATEVER THE INPUT: true; the input reads as it did. -/
def libraryBuildSpec : ChangeSpec := { name := "libraryBuild", fn := fun _ => fun
  | [d1, d2] => { results := [.lit (.bool true)], args := [d1, d2] }
  | _ => none }
def libraryBuildRow : OpenClaim := { program := "ytlgdjbabbfdngaadoor", sum := "043e13335e853d1372f35430282eaf0871c54ba3d5536865a2340348ecf773a6", func := "cnc/cnclaw09.LibraryBuild", spec := "libraryBuild", unfollowed := true, recurses := true, named := ["cnc/syntax.operators"], loops := true, apart := false, laid := [("cnc/syntax.operators", laid_cnc_syntax_operators)] }
def LibraryBuildSaid : Prop := libraryBuildRow.holds Tryd.pinned (OpenSpec.ofChange libraryBuildSpec)

/-- ITS FALSE NEIGHBOUR: 'it returns false'. Refute it at one input. -/
def libraryBuildWrong : ChangeSpec := { name := "libraryBuild", fn := fun _ => fun
  | [d1, d2] => { results := [.lit (.bool false)], args := [d1, d2] }
  | _ => none }
def LibraryBuildWrongFalsely : Prop := libraryBuildRow.holds Tryd.pinned (OpenSpec.ofChange libraryBuildWrong)

/-- 'cnclaw09.LibrarySpoilt': WHATEVER THE INPUT: true; the input reads as it did. -/
def librarySpoiltSpec : ChangeSpec := { name := "librarySpoilt", fn := fun _ => fun
  | [d1, d2, d3, d4] => { results := [.lit (.bool true)], args := [d1, d2, d3, d4] }
  | _ => none }
def librarySpoiltRow : OpenClaim := { program := "ytlgdjbabbfdngaadoor", sum := "043e13335e853d1372f35430282eaf0871c54ba3d5536865a2340348ecf773a6", func := "cnc/cnclaw09.LibrarySpoilt", spec := "librarySpoilt", unfollowed := true, recurses := true, named := ["cnc/syntax.operators"], apart := false, laid := [("cnc/syntax.operators", laid_cnc_syntax_operators)] }
def LibrarySpoiltSaid : Prop := librarySpoiltRow.holds Tryd.pinned (OpenSpec.ofChange librarySpoiltSpec)

/-- ITS FALSE NEIGHBOUR: 'it returns false'. Refute it at one input. -/
def librarySpoiltWrong : ChangeSpec := { name := "librarySpoilt", fn := fun _ => fun
  | [d1, d2, d3, d4] => { results := [.lit (.bool false)], args := [d1, d2, d3, d4] }
  | _ => none }
def LibrarySpoiltWrongFalsely : Prop := librarySpoiltRow.holds Tryd.pinned (OpenSpec.ofChange librarySpoiltWrong)

/-- 'cnclaw09.LibraryFinds': WHATEVER THE INPUT: true; the input reads as it did. -/
def libraryFindsSpec : ChangeSpec := { name := "libraryFinds", fn := fun _ => fun
  | [d1, d2, d3, d4] => { results := [.lit (.bool true)], args := [d1, d2, d3, d4] }
  | _ => none }
def libraryFindsRow : OpenClaim := { program := "ytlgdjbabbfdngaadoor", sum := "043e13335e853d1372f35430282eaf0871c54ba3d5536865a2340348ecf773a6", func := "cnc/cnclaw09.LibraryFinds", spec := "libraryFinds", unfollowed := true, recurses := true, named := ["cnc/syntax.operators"], apart := false, laid := [("cnc/syntax.operators", laid_cnc_syntax_operators)] }
def LibraryFindsSaid : Prop := libraryFindsRow.holds Tryd.pinned (OpenSpec.ofChange libraryFindsSpec)

/-- ITS FALSE NEIGHBOUR: 'it returns false'. Refute it at one input. -/
def libraryFindsWrong : ChangeSpec := { name := "libraryFinds", fn := fun _ => fun
  | [d1, d2, d3, d4] => { results := [.lit (.bool false)], args := [d1, d2, d3, d4] }
  | _ => none }
def LibraryFindsWrongFalsely : Prop := libraryFindsRow.holds Tryd.pinned (OpenSpec.ofChange libraryFindsWrong)

/-- 'cnclaw09.LibraryInside': WHATEVER THE INPUT: true; the input reads as it did. -/
def libraryInsideSpec : ChangeSpec := { name := "libraryInside", fn := fun _ => fun
  | [d1, d2] => { results := [.lit (.bool true)], args := [d1, d2] }
  | _ => none }
def libraryInsideRow : OpenClaim := { program := "ytlgdjbabbfdngaadoor", sum := "043e13335e853d1372f35430282eaf0871c54ba3d5536865a2340348ecf773a6", func := "cnc/cnclaw09.LibraryInside", spec := "libraryInside", unfollowed := true, recurses := true, named := ["cnc/syntax.operators"], apart := false, laid := [("cnc/syntax.operators", laid_cnc_syntax_operators)] }
def LibraryInsideSaid : Prop := libraryInsideRow.holds Tryd.pinned (OpenSpec.ofChange libraryInsideSpec)

/-- ITS FALSE NEIGHBOUR: 'it returns false'. Refute it at one input. -/
def libraryInsideWrong : ChangeSpec := { name := "libraryInside", fn := fun _ => fun
  | [d1, d2] => { results := [.lit (.bool false)], args := [d1, d2] }
  | _ => none }
def LibraryInsideWrongFalsely : Prop := libraryInsideRow.holds Tryd.pinned (OpenSpec.ofChange libraryInsideWrong)

/-- 'cnclaw09.LibraryMates': WHATEVER THE INPUT: true; the input reads as it did. -/
def libraryMatesSpec : ChangeSpec := { name := "libraryMates", fn := fun _ => fun
  | [d] => { results := [.lit (.bool true)], args := [d] }
  | _ => none }
def libraryMatesRow : OpenClaim := { program := "ytlgdjbabbfdngaadoor", sum := "043e13335e853d1372f35430282eaf0871c54ba3d5536865a2340348ecf773a6", func := "cnc/cnclaw09.LibraryMates", spec := "libraryMates", unfollowed := true, recurses := true, named := ["cnc/syntax.operators"], apart := false, laid := [("cnc/syntax.operators", laid_cnc_syntax_operators)] }
def LibraryMatesSaid : Prop := libraryMatesRow.holds Tryd.pinned (OpenSpec.ofChange libraryMatesSpec)

/-- ITS FALSE NEIGHBOUR: 'it returns false'. Refute it at one input. -/
def libraryMatesWrong : ChangeSpec := { name := "libraryMates", fn := fun _ => fun
  | [d] => { results := [.lit (.bool false)], args := [d] }
  | _ => none }
def LibraryMatesWrongFalsely : Prop := libraryMatesRow.holds Tryd.pinned (OpenSpec.ofChange libraryMatesWrong)

/-- 'cnclaw09.LibraryCopies': WHATEVER THE INPUT: true; the input reads as it did. -/
def libraryCopiesSpec : ChangeSpec := { name := "libraryCopies", fn := fun _ => fun
  | [d] => { results := [.lit (.bool true)], args := [d] }
  | _ => none }
def libraryCopiesRow : OpenClaim := { program := "ytlgdjbabbfdngaadoor", sum := "043e13335e853d1372f35430282eaf0871c54ba3d5536865a2340348ecf773a6", func := "cnc/cnclaw09.LibraryCopies", spec := "libraryCopies", unfollowed := true, recurses := true, named := ["cnc/syntax.operators"], apart := false, laid := [("cnc/syntax.operators", laid_cnc_syntax_operators)] }
def LibraryCopiesSaid : Prop := libraryCopiesRow.holds Tryd.pinned (OpenSpec.ofChange libraryCopiesSpec)

/-- ITS FALSE NEIGHBOUR: 'it returns false'. Refute it at one input. -/
def libraryCopiesWrong : ChangeSpec := { name := "libraryCopies", fn := fun _ => fun
  | [d] => { results := [.lit (.bool false)], args := [d] }
  | _ => none }
def LibraryCopiesWrongFalsely : Prop := libraryCopiesRow.holds Tryd.pinned (OpenSpec.ofChange libraryCopiesWrong)

/- THE SECOND FORM. 'bulk': how many values and letters a reading holds, each counted each time it is reached (what is shared counts as often as it is met; a slice's spare places count too). A statement '..UptoSaid' is the law's where the arguments, and the package variables that the reading takes, are together of bulk at most 1048576: NARROWER than '..Said'. Prove '..Said' where nothing that the law and all that it calls make is longer than what came in: it says more and counts as full. Else prove '..UptoSaid'. A law counts once. -/
mutual
def uptoBulk {H : Type} : DataW H → Nat
  | .lit (.string bytes) => bytes.length + 1
  | .lit _ => 1
  | .nil => 1
  | .ptr d => uptoBulk d + 1
  | .slice elems spare => uptoBulkAll elems + uptoBulkAll spare + 1
  | .agg parts => uptoBulkAll parts + 1
  | .iface _ d => uptoBulk d + 1
  | .map entries => uptoBulkEntries entries + 1
  | .held _ => 1
def uptoBulkAll {H : Type} : List (DataW H) → Nat
  | [] => 0
  | d :: r => uptoBulk d + uptoBulkAll r
def uptoBulkEntries {H : Type} : List (Lit × DataW H) → Nat
  | [] => 0
  | x :: r => uptoBulkEntry x + uptoBulkEntries r
def uptoBulkEntry {H : Type} : Lit × DataW H → Nat
  | (.string bytes, d) => bytes.length + uptoBulk d + 1
  | (_, d) => uptoBulk d + 1
 end
def uptoSmall : (H : Type) → List (DataW H) → Bool := fun _ ds => decide (uptoBulkAll ds ≤ 1048576)
def OpenSpec.upto (s : _root_.Go.ChangeSpec) : _root_.Go.OpenSpec := { _root_.Go.OpenSpec.ofChange s with cond := some uptoSmall }

/-- 'cnclaw09.LibraryBuild', WHERE WHAT IT READS IS OF BULK AT MOST 1048576: true; the input reads as it did. -/
def libraryBuildUptoRow : OpenClaim := { program := "ytlgdjbabbfdngaadoor", sum := "043e13335e853d1372f35430282eaf0871c54ba3d5536865a2340348ecf773a6", func := "cnc/cnclaw09.LibraryBuild", spec := "libraryBuild", unfollowed := true, recurses := true, named := ["cnc/syntax.operators"], loops := true, apart := false, laid := [("cnc/syntax.operators", laid_cnc_syntax_operators)], narrowed := true }
def LibraryBuildUptoSaid : Prop := libraryBuildUptoRow.holds Tryd.pinned (OpenSpec.upto libraryBuildSpec)

/-- 'cnclaw09.LibrarySpoilt', WHERE WHAT IT READS IS OF BULK AT MOST 1048576: true; the input reads as it did. -/
def librarySpoiltUptoRow : OpenClaim := { program := "ytlgdjbabbfdngaadoor", sum := "043e13335e853d1372f35430282eaf0871c54ba3d5536865a2340348ecf773a6", func := "cnc/cnclaw09.LibrarySpoilt", spec := "librarySpoilt", unfollowed := true, recurses := true, named := ["cnc/syntax.operators"], apart := false, laid := [("cnc/syntax.operators", laid_cnc_syntax_operators)], narrowed := true }
def LibrarySpoiltUptoSaid : Prop := librarySpoiltUptoRow.holds Tryd.pinned (OpenSpec.upto librarySpoiltSpec)

/-- 'cnclaw09.LibraryFinds', WHERE WHAT IT READS IS OF BULK AT MOST 1048576: true; the input reads as it did. -/
def libraryFindsUptoRow : OpenClaim := { program := "ytlgdjbabbfdngaadoor", sum := "043e13335e853d1372f35430282eaf0871c54ba3d5536865a2340348ecf773a6", func := "cnc/cnclaw09.LibraryFinds", spec := "libraryFinds", unfollowed := true, recurses := true, named := ["cnc/syntax.operators"], apart := false, laid := [("cnc/syntax.operators", laid_cnc_syntax_operators)], narrowed := true }
def LibraryFindsUptoSaid : Prop := libraryFindsUptoRow.holds Tryd.pinned (OpenSpec.upto libraryFindsSpec)

/-- 'cnclaw09.LibraryInside', WHERE WHAT IT READS IS OF BULK AT MOST 1048576: true; the input reads as it did. -/
def libraryInsideUptoRow : OpenClaim := { program := "ytlgdjbabbfdngaadoor", sum := "043e13335e853d1372f35430282eaf0871c54ba3d5536865a2340348ecf773a6", func := "cnc/cnclaw09.LibraryInside", spec := "libraryInside", unfollowed := true, recurses := true, named := ["cnc/syntax.operators"], apart := false, laid := [("cnc/syntax.operators", laid_cnc_syntax_operators)], narrowed := true }
def LibraryInsideUptoSaid : Prop := libraryInsideUptoRow.holds Tryd.pinned (OpenSpec.upto libraryInsideSpec)

/-- 'cnclaw09.LibraryMates', WHERE WHAT IT READS IS OF BULK AT MOST 1048576: true; the input reads as it did. -/
def libraryMatesUptoRow : OpenClaim := { program := "ytlgdjbabbfdngaadoor", sum := "043e13335e853d1372f35430282eaf0871c54ba3d5536865a2340348ecf773a6", func := "cnc/cnclaw09.LibraryMates", spec := "libraryMates", unfollowed := true, recurses := true, named := ["cnc/syntax.operators"], apart := false, laid := [("cnc/syntax.operators", laid_cnc_syntax_operators)], narrowed := true }
def LibraryMatesUptoSaid : Prop := libraryMatesUptoRow.holds Tryd.pinned (OpenSpec.upto libraryMatesSpec)

/-- 'cnclaw09.LibraryCopies', WHERE WHAT IT READS IS OF BULK AT MOST 1048576: true; the input reads as it did. -/
def libraryCopiesUptoRow : OpenClaim := { program := "ytlgdjbabbfdngaadoor", sum := "043e13335e853d1372f35430282eaf0871c54ba3d5536865a2340348ecf773a6", func := "cnc/cnclaw09.LibraryCopies", spec := "libraryCopies", unfollowed := true, recurses := true, named := ["cnc/syntax.operators"], apart := false, laid := [("cnc/syntax.operators", laid_cnc_syntax_operators)], narrowed := true }
def LibraryCopiesUptoSaid : Prop := libraryCopiesUptoRow.holds Tryd.pinned (OpenSpec.upto libraryCopiesSpec)

end Rows
end Go.Proofs.YtlgdjbabbfdngaaDoor
