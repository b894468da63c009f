/-
  DERIVED. GIVEN WITH THE SEED: THE CARDS: each row of YtkfipjlknfinpaaGreatDoorRows.lean that lists a variable, with what it lists TIED to the program's text (the seventh form; the later family's looks); each row that meets fmt, with fmt's text TOLD by the authors' own Lean function (tested against real Go, not proved from fmt's source: count such statements apart). THE CARD IS WHAT COUNTS. Prove the row's statement (the work); the ties are given (YtkfipjlknfinpaaGreatDoorTie.lean); close each card by the builder's one call (the guide's Derived/Test/ToyasCard.lean, 'card_holds'). Laid BY PROGRAM, IN A SANDBOX (cutbox-door.mjs). By AI agents, Wed Nov 11 2026. No macro, syntax, notation, axiom, sorry.
-/
import Derived.Test.YtkfipjlknfinpaaGreatDoorRows
import GoSem.ClaimSeven
namespace Go.Proofs.YtkfipjlknfinpaaGreatDoor
namespace Rows

/-- THE TIED CARD OF 'cnclaw08.EvalTells'. -/
def evalTellsCard : Claim7 := { stood := { row := evalTellsRow, standIns := [], harness := (true, "024e4e80c142c47da9ab39e52e098d97735b0fc747e6c362643249a5f07cf905"), looks := false }, kinds := [], alts := [], laidByText := true, laidKinds := [.data, .data], laidTests := true, laidLooks := .later }
def EvalTellsCardSaid : Prop := Claim7.holds Tryz.pinned (.plain (OpenSpec.ofChange evalTellsSpec)) evalTellsCard

/-- THE TIED CARD OF 'cnclaw08.EvalOperators'. -/
def evalOperatorsCard : Claim7 := { stood := { row := evalOperatorsRow, standIns := [], harness := (true, "024e4e80c142c47da9ab39e52e098d97735b0fc747e6c362643249a5f07cf905"), looks := false }, kinds := [], alts := [], laidByText := true, laidKinds := [.data, .data], laidTests := true, laidLooks := .later }
def EvalOperatorsCardSaid : Prop := Claim7.holds Tryz.pinned (.plain (OpenSpec.ofChange evalOperatorsSpec)) evalOperatorsCard

/-- THE SECOND FORM's CARD OF 'cnclaw08.EvalTells'. -/
def evalTellsUptoCard : Claim7 := { stood := { row := evalTellsUptoRow, standIns := [], harness := (true, "024e4e80c142c47da9ab39e52e098d97735b0fc747e6c362643249a5f07cf905"), looks := false }, kinds := [], alts := [], laidByText := true, laidKinds := [.data, .data], laidTests := true, laidLooks := .later }
def EvalTellsUptoCardSaid : Prop := Claim7.holds Tryz.pinned (.plain (OpenSpec.upto evalTellsSpec)) evalTellsUptoCard

/-- THE SECOND FORM's CARD OF 'cnclaw08.EvalOperators'. -/
def evalOperatorsUptoCard : Claim7 := { stood := { row := evalOperatorsUptoRow, standIns := [], harness := (true, "024e4e80c142c47da9ab39e52e098d97735b0fc747e6c362643249a5f07cf905"), looks := false }, kinds := [], alts := [], laidByText := true, laidKinds := [.data, .data], laidTests := true, laidLooks := .later }
def EvalOperatorsUptoCardSaid : Prop := Claim7.holds Tryz.pinned (.plain (OpenSpec.upto evalOperatorsSpec)) evalOperatorsUptoCard
end Rows
end Go.Proofs.YtkfipjlknfinpaaGreatDoor
