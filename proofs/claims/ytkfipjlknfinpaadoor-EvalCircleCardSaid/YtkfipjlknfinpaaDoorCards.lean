/-
  DERIVED. GIVEN WITH THE SEED: THE CARDS: each row of YtkfipjlknfinpaaDoorRows.lean that lists a variable, with what it lists TIED to the program's text (the seventh form; the later family's looks); each row that meets fmt, with fmt's text TOLD by the authors' own Lean function (tested against real Go, not proved from fmt's source: count such statements apart). THE CARD IS WHAT COUNTS. Prove the row's statement (the work); the ties are given (YtkfipjlknfinpaaDoorTie.lean); close each card by the builder's one call (the guide's Derived/Test/ToyasCard.lean, 'card_holds'). Laid BY PROGRAM, IN A SANDBOX (cutbox-door.mjs). By AI agents, Wed Nov 11 2026. No macro, syntax, notation, axiom, sorry.
-/
import Derived.Test.YtkfipjlknfinpaaDoorRows
import GoSem.ClaimSeven
namespace Go.Proofs.YtkfipjlknfinpaaDoor
namespace Rows

/-- THE TIED CARD OF 'cnclaw08.EvalKeeps'. -/
def evalKeepsCard : Claim7 := { stood := { row := evalKeepsRow, standIns := [], harness := (true, "1a7f1411f7f3cb066de964572caaf3ece7d1d554e0eab5d450fc3ddba4a619bf"), looks := false }, kinds := [], alts := [], laidByText := true, laidKinds := [.data, .data], laidTests := true, laidLooks := .later }
def EvalKeepsCardSaid : Prop := Claim7.holds Tryd.pinned (.plain (OpenSpec.ofChange evalKeepsSpec)) evalKeepsCard

/-- THE TIED CARD OF 'cnclaw08.EvalAlgebra'. -/
def evalAlgebraCard : Claim7 := { stood := { row := evalAlgebraRow, standIns := [], harness := (true, "1a7f1411f7f3cb066de964572caaf3ece7d1d554e0eab5d450fc3ddba4a619bf"), looks := false }, kinds := [], alts := [], laidByText := true, laidKinds := [.data, .data], laidTests := true, laidLooks := .later }
def EvalAlgebraCardSaid : Prop := Claim7.holds Tryd.pinned (.plain (OpenSpec.ofChange evalAlgebraSpec)) evalAlgebraCard

/-- THE TIED CARD OF 'cnclaw08.EvalLogic'. -/
def evalLogicCard : Claim7 := { stood := { row := evalLogicRow, standIns := [], harness := (true, "1a7f1411f7f3cb066de964572caaf3ece7d1d554e0eab5d450fc3ddba4a619bf"), looks := false }, kinds := [], alts := [], laidByText := true, laidKinds := [.data, .data], laidTests := true, laidLooks := .later }
def EvalLogicCardSaid : Prop := Claim7.holds Tryd.pinned (.plain (OpenSpec.ofChange evalLogicSpec)) evalLogicCard

/-- THE TIED CARD OF 'cnclaw08.EvalErrors'. -/
def evalErrorsCard : Claim7 := { stood := { row := evalErrorsRow, standIns := [], harness := (true, "1a7f1411f7f3cb066de964572caaf3ece7d1d554e0eab5d450fc3ddba4a619bf"), looks := false }, kinds := [], alts := [], laidByText := true, laidKinds := [.data, .data], laidTests := true, laidLooks := .later }
def EvalErrorsCardSaid : Prop := Claim7.holds Tryd.pinned (.plain (OpenSpec.ofChange evalErrorsSpec)) evalErrorsCard

/-- THE TIED CARD OF 'cnclaw08.EvalVariables'. -/
def evalVariablesCard : Claim7 := { stood := { row := evalVariablesRow, standIns := [], harness := (true, "1a7f1411f7f3cb066de964572caaf3ece7d1d554e0eab5d450fc3ddba4a619bf"), looks := false }, kinds := [], alts := [], laidByText := true, laidKinds := [.data, .data], laidTests := true, laidLooks := .later }
def EvalVariablesCardSaid : Prop := Claim7.holds Tryd.pinned (.plain (OpenSpec.ofChange evalVariablesSpec)) evalVariablesCard

/-- THE TIED CARD OF 'cnclaw08.EvalCircle'. -/
def evalCircleCard : Claim7 := { stood := { row := evalCircleRow, standIns := [], harness := (true, "1a7f1411f7f3cb066de964572caaf3ece7d1d554e0eab5d450fc3ddba4a619bf"), looks := false }, kinds := [], alts := [], laidByText := true, laidKinds := [.data, .data], laidTests := true, laidLooks := .later }
def EvalCircleCardSaid : Prop := Claim7.holds Tryd.pinned (.plain (OpenSpec.ofChange evalCircleSpec)) evalCircleCard

/-- THE SECOND FORM's CARD OF 'cnclaw08.EvalKeeps'. -/
def evalKeepsUptoCard : Claim7 := { stood := { row := evalKeepsUptoRow, standIns := [], harness := (true, "1a7f1411f7f3cb066de964572caaf3ece7d1d554e0eab5d450fc3ddba4a619bf"), looks := false }, kinds := [], alts := [], laidByText := true, laidKinds := [.data, .data], laidTests := true, laidLooks := .later }
def EvalKeepsUptoCardSaid : Prop := Claim7.holds Tryd.pinned (.plain (OpenSpec.upto evalKeepsSpec)) evalKeepsUptoCard

/-- THE SECOND FORM's CARD OF 'cnclaw08.EvalAlgebra'. -/
def evalAlgebraUptoCard : Claim7 := { stood := { row := evalAlgebraUptoRow, standIns := [], harness := (true, "1a7f1411f7f3cb066de964572caaf3ece7d1d554e0eab5d450fc3ddba4a619bf"), looks := false }, kinds := [], alts := [], laidByText := true, laidKinds := [.data, .data], laidTests := true, laidLooks := .later }
def EvalAlgebraUptoCardSaid : Prop := Claim7.holds Tryd.pinned (.plain (OpenSpec.upto evalAlgebraSpec)) evalAlgebraUptoCard

/-- THE SECOND FORM's CARD OF 'cnclaw08.EvalLogic'. -/
def evalLogicUptoCard : Claim7 := { stood := { row := evalLogicUptoRow, standIns := [], harness := (true, "1a7f1411f7f3cb066de964572caaf3ece7d1d554e0eab5d450fc3ddba4a619bf"), looks := false }, kinds := [], alts := [], laidByText := true, laidKinds := [.data, .data], laidTests := true, laidLooks := .later }
def EvalLogicUptoCardSaid : Prop := Claim7.holds Tryd.pinned (.plain (OpenSpec.upto evalLogicSpec)) evalLogicUptoCard

/-- THE SECOND FORM's CARD OF 'cnclaw08.EvalErrors'. -/
def evalErrorsUptoCard : Claim7 := { stood := { row := evalErrorsUptoRow, standIns := [], harness := (true, "1a7f1411f7f3cb066de964572caaf3ece7d1d554e0eab5d450fc3ddba4a619bf"), looks := false }, kinds := [], alts := [], laidByText := true, laidKinds := [.data, .data], laidTests := true, laidLooks := .later }
def EvalErrorsUptoCardSaid : Prop := Claim7.holds Tryd.pinned (.plain (OpenSpec.upto evalErrorsSpec)) evalErrorsUptoCard

/-- THE SECOND FORM's CARD OF 'cnclaw08.EvalVariables'. -/
def evalVariablesUptoCard : Claim7 := { stood := { row := evalVariablesUptoRow, standIns := [], harness := (true, "1a7f1411f7f3cb066de964572caaf3ece7d1d554e0eab5d450fc3ddba4a619bf"), looks := false }, kinds := [], alts := [], laidByText := true, laidKinds := [.data, .data], laidTests := true, laidLooks := .later }
def EvalVariablesUptoCardSaid : Prop := Claim7.holds Tryd.pinned (.plain (OpenSpec.upto evalVariablesSpec)) evalVariablesUptoCard

/-- THE SECOND FORM's CARD OF 'cnclaw08.EvalCircle'. -/
def evalCircleUptoCard : Claim7 := { stood := { row := evalCircleUptoRow, standIns := [], harness := (true, "1a7f1411f7f3cb066de964572caaf3ece7d1d554e0eab5d450fc3ddba4a619bf"), looks := false }, kinds := [], alts := [], laidByText := true, laidKinds := [.data, .data], laidTests := true, laidLooks := .later }
def EvalCircleUptoCardSaid : Prop := Claim7.holds Tryd.pinned (.plain (OpenSpec.upto evalCircleSpec)) evalCircleUptoCard
end Rows
end Go.Proofs.YtkfipjlknfinpaaDoor
