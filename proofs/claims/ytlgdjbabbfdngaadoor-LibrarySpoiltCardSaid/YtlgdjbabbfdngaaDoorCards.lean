/-
  DERIVED. GIVEN WITH THE SEED: THE CARDS: each row of YtlgdjbabbfdngaaDoorRows.lean that lists a variable, with what it lists TIED to the program's text (the seventh form; the later family's looks); each row that meets fmt, with fmt's text TOLD by the authors' own Lean function (tested against real Go, not proved from fmt's source: count such statements apart). THE CARD IS WHAT COUNTS. Prove the row's statement (the work); the ties are given (YtlgdjbabbfdngaaDoorTie.lean); close each card by the builder's one call (the guide's Derived/Test/ToyasCard.lean, 'card_holds'). Laid BY PROGRAM, IN A SANDBOX (cutbox-door.mjs). By AI agents, Wed Nov 11 2026. No macro, syntax, notation, axiom, sorry.
-/
import Derived.Test.YtlgdjbabbfdngaaDoorRows
import GoSem.ClaimSeven
namespace Go.Proofs.YtlgdjbabbfdngaaDoor
namespace Rows

/-- THE TIED CARD OF 'cnclaw09.LibraryBuild'. -/
def libraryBuildCard : Claim7 := { stood := { row := libraryBuildRow, standIns := [], harness := (true, "475df225b3af88fc7bc43a35d46ec25808a4c257d0bea413fe6430d354687698"), looks := false }, kinds := [], alts := [], laidByText := true, laidKinds := [.data], laidTests := true, laidLooks := .later }
def LibraryBuildCardSaid : Prop := Claim7.holds Tryd.pinned (.plain (OpenSpec.ofChange libraryBuildSpec)) libraryBuildCard

/-- THE TIED CARD OF 'cnclaw09.LibrarySpoilt'. -/
def librarySpoiltCard : Claim7 := { stood := { row := librarySpoiltRow, standIns := [], harness := (true, "475df225b3af88fc7bc43a35d46ec25808a4c257d0bea413fe6430d354687698"), looks := false }, kinds := [], alts := [], laidByText := true, laidKinds := [.data], laidTests := true, laidLooks := .later }
def LibrarySpoiltCardSaid : Prop := Claim7.holds Tryd.pinned (.plain (OpenSpec.ofChange librarySpoiltSpec)) librarySpoiltCard

/-- THE TIED CARD OF 'cnclaw09.LibraryFinds'. -/
def libraryFindsCard : Claim7 := { stood := { row := libraryFindsRow, standIns := [], harness := (true, "475df225b3af88fc7bc43a35d46ec25808a4c257d0bea413fe6430d354687698"), looks := false }, kinds := [], alts := [], laidByText := true, laidKinds := [.data], laidTests := true, laidLooks := .later }
def LibraryFindsCardSaid : Prop := Claim7.holds Tryd.pinned (.plain (OpenSpec.ofChange libraryFindsSpec)) libraryFindsCard

/-- THE TIED CARD OF 'cnclaw09.LibraryInside'. -/
def libraryInsideCard : Claim7 := { stood := { row := libraryInsideRow, standIns := [], harness := (true, "475df225b3af88fc7bc43a35d46ec25808a4c257d0bea413fe6430d354687698"), looks := false }, kinds := [], alts := [], laidByText := true, laidKinds := [.data], laidTests := true, laidLooks := .later }
def LibraryInsideCardSaid : Prop := Claim7.holds Tryd.pinned (.plain (OpenSpec.ofChange libraryInsideSpec)) libraryInsideCard

/-- THE TIED CARD OF 'cnclaw09.LibraryMates'. -/
def libraryMatesCard : Claim7 := { stood := { row := libraryMatesRow, standIns := [], harness := (true, "475df225b3af88fc7bc43a35d46ec25808a4c257d0bea413fe6430d354687698"), looks := false }, kinds := [], alts := [], laidByText := true, laidKinds := [.data], laidTests := true, laidLooks := .later }
def LibraryMatesCardSaid : Prop := Claim7.holds Tryd.pinned (.plain (OpenSpec.ofChange libraryMatesSpec)) libraryMatesCard

/-- THE TIED CARD OF 'cnclaw09.LibraryCopies'. -/
def libraryCopiesCard : Claim7 := { stood := { row := libraryCopiesRow, standIns := [], harness := (true, "475df225b3af88fc7bc43a35d46ec25808a4c257d0bea413fe6430d354687698"), looks := false }, kinds := [], alts := [], laidByText := true, laidKinds := [.data], laidTests := true, laidLooks := .later }
def LibraryCopiesCardSaid : Prop := Claim7.holds Tryd.pinned (.plain (OpenSpec.ofChange libraryCopiesSpec)) libraryCopiesCard

/-- THE SECOND FORM's CARD OF 'cnclaw09.LibraryBuild'. -/
def libraryBuildUptoCard : Claim7 := { stood := { row := libraryBuildUptoRow, standIns := [], harness := (true, "475df225b3af88fc7bc43a35d46ec25808a4c257d0bea413fe6430d354687698"), looks := false }, kinds := [], alts := [], laidByText := true, laidKinds := [.data], laidTests := true, laidLooks := .later }
def LibraryBuildUptoCardSaid : Prop := Claim7.holds Tryd.pinned (.plain (OpenSpec.upto libraryBuildSpec)) libraryBuildUptoCard

/-- THE SECOND FORM's CARD OF 'cnclaw09.LibrarySpoilt'. -/
def librarySpoiltUptoCard : Claim7 := { stood := { row := librarySpoiltUptoRow, standIns := [], harness := (true, "475df225b3af88fc7bc43a35d46ec25808a4c257d0bea413fe6430d354687698"), looks := false }, kinds := [], alts := [], laidByText := true, laidKinds := [.data], laidTests := true, laidLooks := .later }
def LibrarySpoiltUptoCardSaid : Prop := Claim7.holds Tryd.pinned (.plain (OpenSpec.upto librarySpoiltSpec)) librarySpoiltUptoCard

/-- THE SECOND FORM's CARD OF 'cnclaw09.LibraryFinds'. -/
def libraryFindsUptoCard : Claim7 := { stood := { row := libraryFindsUptoRow, standIns := [], harness := (true, "475df225b3af88fc7bc43a35d46ec25808a4c257d0bea413fe6430d354687698"), looks := false }, kinds := [], alts := [], laidByText := true, laidKinds := [.data], laidTests := true, laidLooks := .later }
def LibraryFindsUptoCardSaid : Prop := Claim7.holds Tryd.pinned (.plain (OpenSpec.upto libraryFindsSpec)) libraryFindsUptoCard

/-- THE SECOND FORM's CARD OF 'cnclaw09.LibraryInside'. -/
def libraryInsideUptoCard : Claim7 := { stood := { row := libraryInsideUptoRow, standIns := [], harness := (true, "475df225b3af88fc7bc43a35d46ec25808a4c257d0bea413fe6430d354687698"), looks := false }, kinds := [], alts := [], laidByText := true, laidKinds := [.data], laidTests := true, laidLooks := .later }
def LibraryInsideUptoCardSaid : Prop := Claim7.holds Tryd.pinned (.plain (OpenSpec.upto libraryInsideSpec)) libraryInsideUptoCard

/-- THE SECOND FORM's CARD OF 'cnclaw09.LibraryMates'. -/
def libraryMatesUptoCard : Claim7 := { stood := { row := libraryMatesUptoRow, standIns := [], harness := (true, "475df225b3af88fc7bc43a35d46ec25808a4c257d0bea413fe6430d354687698"), looks := false }, kinds := [], alts := [], laidByText := true, laidKinds := [.data], laidTests := true, laidLooks := .later }
def LibraryMatesUptoCardSaid : Prop := Claim7.holds Tryd.pinned (.plain (OpenSpec.upto libraryMatesSpec)) libraryMatesUptoCard

/-- THE SECOND FORM's CARD OF 'cnclaw09.LibraryCopies'. -/
def libraryCopiesUptoCard : Claim7 := { stood := { row := libraryCopiesUptoRow, standIns := [], harness := (true, "475df225b3af88fc7bc43a35d46ec25808a4c257d0bea413fe6430d354687698"), looks := false }, kinds := [], alts := [], laidByText := true, laidKinds := [.data], laidTests := true, laidLooks := .later }
def LibraryCopiesUptoCardSaid : Prop := Claim7.holds Tryd.pinned (.plain (OpenSpec.upto libraryCopiesSpec)) libraryCopiesUptoCard
end Rows
end Go.Proofs.YtlgdjbabbfdngaaDoor
