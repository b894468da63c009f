/-
  DERIVED. GIVEN WITH THE SEED: THE CARDS: each row of YtbcbnkapipimmaaGreatDoorRows.lean that lists a variable, with what it lists TIED to the program's text (the seventh form; the later family's looks); each row that meets fmt, with fmt's text TOLD by the authors' own Lean function (tested against real Go, not proved from fmt's source: count such statements apart). THE CARD IS WHAT COUNTS. Prove the row's statement (the work); the ties are given (YtbcbnkapipimmaaGreatDoorTie.lean); close each card by the builder's one call (the guide's Derived/Test/ToyasCard.lean, 'card_holds'). Laid BY PROGRAM, IN A SANDBOX (cutbox-door.mjs). By AI agents, Wed Nov 11 2026. No macro, syntax, notation, axiom, sorry.
-/
import Derived.Test.YtbcbnkapipimmaaGreatDoorRows
import GoSem.ClaimSeven
namespace Go.Proofs.YtbcbnkapipimmaaGreatDoor
namespace Rows

/-- THE TIED CARD OF 'cnclaw06.SyntaxLevels'. -/
def syntaxLevelsCard : Claim7 := { stood := { row := syntaxLevelsRow, standIns := [], harness := (true, "af9f6f4b8e055eb295befb584b18f836abb53f9ec6f4dba653e965998de3f8a7"), looks := true }, kinds := [], alts := [], laidByText := true, laidKinds := [.data, .data, .data, .data, .data], laidTests := true, laidLooks := .later }
def SyntaxLevelsCardSaid : Prop := Claim7.holds Tryz.pinned (.plain (OpenSpec.ofChange syntaxLevelsSpec)) syntaxLevelsCard

/-- THE TIED CARD OF 'cnclaw06.SyntaxRight'. -/
def syntaxRightCard : Claim7 := { stood := { row := syntaxRightRow, standIns := [], harness := (true, "af9f6f4b8e055eb295befb584b18f836abb53f9ec6f4dba653e965998de3f8a7"), looks := true }, kinds := [], alts := [], laidByText := true, laidKinds := [.data, .data, .data, .data, .data], laidTests := true, laidLooks := .later }
def SyntaxRightCardSaid : Prop := Claim7.holds Tryz.pinned (.plain (OpenSpec.ofChange syntaxRightSpec)) syntaxRightCard

/-- THE TIED CARD OF 'cnclaw06.SyntaxValid'. -/
def syntaxValidCard : Claim7 := { stood := { row := syntaxValidRow, standIns := [], harness := (true, "af9f6f4b8e055eb295befb584b18f836abb53f9ec6f4dba653e965998de3f8a7"), looks := true }, kinds := [], alts := [], laidByText := true, laidKinds := [.data, .data, .data, .data, .data], laidTests := true, laidLooks := .later }
def SyntaxValidCardSaid : Prop := Claim7.holds Tryz.pinned (.plain (OpenSpec.ofChange syntaxValidSpec)) syntaxValidCard

/-- THE TIED CARD OF 'cnclaw06.SyntaxText'. -/
def syntaxTextCard : Claim7 := { stood := { row := syntaxTextRow, standIns := [], harness := (true, "af9f6f4b8e055eb295befb584b18f836abb53f9ec6f4dba653e965998de3f8a7"), looks := true }, kinds := [], alts := [], laidByText := true, laidKinds := [.data, .data, .data, .data, .data], laidTests := true, laidLooks := .later }
def SyntaxTextCardSaid : Prop := Claim7.holds Tryz.pinned (.plain (OpenSpec.ofChange syntaxTextSpec)) syntaxTextCard

/-- THE TIED CARD OF 'cnclaw06.SyntaxTexts'. -/
def syntaxTextsCard : Claim7 := { stood := { row := syntaxTextsRow, standIns := [], harness := (true, "af9f6f4b8e055eb295befb584b18f836abb53f9ec6f4dba653e965998de3f8a7"), looks := true }, kinds := [], alts := [], laidByText := true, laidKinds := [.data, .data, .data, .data, .data], laidTests := true, laidLooks := .later }
def SyntaxTextsCardSaid : Prop := Claim7.holds Tryz.pinned (.plain (OpenSpec.ofChange syntaxTextsSpec)) syntaxTextsCard

/-- THE TIED CARD OF 'cnclaw06.SyntaxLine'. -/
def syntaxLineCard : Claim7 := { stood := { row := syntaxLineRow, standIns := [], harness := (true, "af9f6f4b8e055eb295befb584b18f836abb53f9ec6f4dba653e965998de3f8a7"), looks := true }, kinds := [], alts := [], laidByText := true, laidKinds := [.data, .data, .data, .data, .data], laidTests := true, laidLooks := .later }
def SyntaxLineCardSaid : Prop := Claim7.holds Tryz.pinned (.plain (OpenSpec.ofChange syntaxLineSpec)) syntaxLineCard

/-- THE TIED CARD OF 'cnclaw06.SyntaxBlocks'. -/
def syntaxBlocksCard : Claim7 := { stood := { row := syntaxBlocksRow, standIns := [], harness := (true, "af9f6f4b8e055eb295befb584b18f836abb53f9ec6f4dba653e965998de3f8a7"), looks := true }, kinds := [], alts := [], laidByText := true, laidKinds := [.data, .data, .data, .data, .data], laidTests := true, laidLooks := .later }
def SyntaxBlocksCardSaid : Prop := Claim7.holds Tryz.pinned (.plain (OpenSpec.ofChange syntaxBlocksSpec)) syntaxBlocksCard

/-- THE TIED CARD OF 'cnclaw06.SyntaxParse'. -/
def syntaxParseCard : Claim7 := { stood := { row := syntaxParseRow, standIns := [], harness := (true, "af9f6f4b8e055eb295befb584b18f836abb53f9ec6f4dba653e965998de3f8a7"), looks := true }, kinds := [], alts := [], laidByText := true, laidKinds := [.data, .data, .data, .data, .data], laidTests := true, laidLooks := .later }
def SyntaxParseCardSaid : Prop := Claim7.holds Tryz.pinned (.plain (OpenSpec.ofChange syntaxParseSpec)) syntaxParseCard

/-- THE SECOND FORM's CARD OF 'cnclaw06.SyntaxLevels'. -/
def syntaxLevelsUptoCard : Claim7 := { stood := { row := syntaxLevelsUptoRow, standIns := [], harness := (true, "af9f6f4b8e055eb295befb584b18f836abb53f9ec6f4dba653e965998de3f8a7"), looks := true }, kinds := [], alts := [], laidByText := true, laidKinds := [.data, .data, .data, .data, .data], laidTests := true, laidLooks := .later }
def SyntaxLevelsUptoCardSaid : Prop := Claim7.holds Tryz.pinned (.plain (OpenSpec.upto syntaxLevelsSpec)) syntaxLevelsUptoCard

/-- THE SECOND FORM's CARD OF 'cnclaw06.SyntaxRight'. -/
def syntaxRightUptoCard : Claim7 := { stood := { row := syntaxRightUptoRow, standIns := [], harness := (true, "af9f6f4b8e055eb295befb584b18f836abb53f9ec6f4dba653e965998de3f8a7"), looks := true }, kinds := [], alts := [], laidByText := true, laidKinds := [.data, .data, .data, .data, .data], laidTests := true, laidLooks := .later }
def SyntaxRightUptoCardSaid : Prop := Claim7.holds Tryz.pinned (.plain (OpenSpec.upto syntaxRightSpec)) syntaxRightUptoCard

/-- THE SECOND FORM's CARD OF 'cnclaw06.SyntaxValid'. -/
def syntaxValidUptoCard : Claim7 := { stood := { row := syntaxValidUptoRow, standIns := [], harness := (true, "af9f6f4b8e055eb295befb584b18f836abb53f9ec6f4dba653e965998de3f8a7"), looks := true }, kinds := [], alts := [], laidByText := true, laidKinds := [.data, .data, .data, .data, .data], laidTests := true, laidLooks := .later }
def SyntaxValidUptoCardSaid : Prop := Claim7.holds Tryz.pinned (.plain (OpenSpec.upto syntaxValidSpec)) syntaxValidUptoCard

/-- THE SECOND FORM's CARD OF 'cnclaw06.SyntaxText'. -/
def syntaxTextUptoCard : Claim7 := { stood := { row := syntaxTextUptoRow, standIns := [], harness := (true, "af9f6f4b8e055eb295befb584b18f836abb53f9ec6f4dba653e965998de3f8a7"), looks := true }, kinds := [], alts := [], laidByText := true, laidKinds := [.data, .data, .data, .data, .data], laidTests := true, laidLooks := .later }
def SyntaxTextUptoCardSaid : Prop := Claim7.holds Tryz.pinned (.plain (OpenSpec.upto syntaxTextSpec)) syntaxTextUptoCard

/-- THE SECOND FORM's CARD OF 'cnclaw06.SyntaxTexts'. -/
def syntaxTextsUptoCard : Claim7 := { stood := { row := syntaxTextsUptoRow, standIns := [], harness := (true, "af9f6f4b8e055eb295befb584b18f836abb53f9ec6f4dba653e965998de3f8a7"), looks := true }, kinds := [], alts := [], laidByText := true, laidKinds := [.data, .data, .data, .data, .data], laidTests := true, laidLooks := .later }
def SyntaxTextsUptoCardSaid : Prop := Claim7.holds Tryz.pinned (.plain (OpenSpec.upto syntaxTextsSpec)) syntaxTextsUptoCard

/-- THE SECOND FORM's CARD OF 'cnclaw06.SyntaxLine'. -/
def syntaxLineUptoCard : Claim7 := { stood := { row := syntaxLineUptoRow, standIns := [], harness := (true, "af9f6f4b8e055eb295befb584b18f836abb53f9ec6f4dba653e965998de3f8a7"), looks := true }, kinds := [], alts := [], laidByText := true, laidKinds := [.data, .data, .data, .data, .data], laidTests := true, laidLooks := .later }
def SyntaxLineUptoCardSaid : Prop := Claim7.holds Tryz.pinned (.plain (OpenSpec.upto syntaxLineSpec)) syntaxLineUptoCard

/-- THE SECOND FORM's CARD OF 'cnclaw06.SyntaxBlocks'. -/
def syntaxBlocksUptoCard : Claim7 := { stood := { row := syntaxBlocksUptoRow, standIns := [], harness := (true, "af9f6f4b8e055eb295befb584b18f836abb53f9ec6f4dba653e965998de3f8a7"), looks := true }, kinds := [], alts := [], laidByText := true, laidKinds := [.data, .data, .data, .data, .data], laidTests := true, laidLooks := .later }
def SyntaxBlocksUptoCardSaid : Prop := Claim7.holds Tryz.pinned (.plain (OpenSpec.upto syntaxBlocksSpec)) syntaxBlocksUptoCard

/-- THE SECOND FORM's CARD OF 'cnclaw06.SyntaxParse'. -/
def syntaxParseUptoCard : Claim7 := { stood := { row := syntaxParseUptoRow, standIns := [], harness := (true, "af9f6f4b8e055eb295befb584b18f836abb53f9ec6f4dba653e965998de3f8a7"), looks := true }, kinds := [], alts := [], laidByText := true, laidKinds := [.data, .data, .data, .data, .data], laidTests := true, laidLooks := .later }
def SyntaxParseUptoCardSaid : Prop := Claim7.holds Tryz.pinned (.plain (OpenSpec.upto syntaxParseSpec)) syntaxParseUptoCard
end Rows
end Go.Proofs.YtbcbnkapipimmaaGreatDoor
