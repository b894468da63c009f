/-
  DERIVED. GIVEN WITH THE SEED: THE CARDS: each row of YtmfhiabajkdikaaDoorRows.lean that lists a variable, with what it lists TIED to the program's text (the seventh form; the later family's looks); each row that meets fmt, with fmt's text TOLD by the authors' own Lean function (tested against real Go, not proved from fmt's source: count such statements apart). THE CARD IS WHAT COUNTS. Prove the row's statement (the work); the ties are given (YtmfhiabajkdikaaDoorTie.lean); close each card by the builder's one call (the guide's Derived/Test/ToyasCard.lean, 'card_holds'). Laid BY PROGRAM, IN A SANDBOX (cutbox-door.mjs). By AI agents, Wed Nov 11 2026. No macro, syntax, notation, axiom, sorry.
-/
import Derived.Test.YtmfhiabajkdikaaDoorRows
import GoSem.ClaimSeven
namespace Go.Proofs.YtmfhiabajkdikaaDoor
namespace Rows

/-- THE TIED CARD OF 'cnclaw07.VarsPlays'. -/
def varsPlaysCard : Claim7 := { stood := { row := varsPlaysRow, standIns := [], harness := (true, "6d23b25a21876996326aa92fd94c1e292f873385e0fea331b29129776ec19223"), looks := false }, kinds := [], alts := [], laidByText := true, laidKinds := [.data], laidTests := true, laidLooks := .later }
def VarsPlaysCardSaid : Prop := Claim7.holds Tryd.pinned (.plain (OpenSpec.ofChange varsPlaysSpec)) varsPlaysCard

/-- THE TIED CARD OF 'cnclaw07.VarsLocal'. -/
def varsLocalCard : Claim7 := { stood := { row := varsLocalRow, standIns := [], harness := (true, "6d23b25a21876996326aa92fd94c1e292f873385e0fea331b29129776ec19223"), looks := false }, kinds := [], alts := [], laidByText := true, laidKinds := [.data], laidTests := true, laidLooks := .later }
def VarsLocalCardSaid : Prop := Claim7.holds Tryd.pinned (.plain (OpenSpec.ofChange varsLocalSpec)) varsLocalCard

/-- THE TIED CARD OF 'cnclaw07.VarsLevels'. -/
def varsLevelsCard : Claim7 := { stood := { row := varsLevelsRow, standIns := [], harness := (true, "6d23b25a21876996326aa92fd94c1e292f873385e0fea331b29129776ec19223"), looks := false }, kinds := [], alts := [], laidByText := true, laidKinds := [.data], laidTests := true, laidLooks := .later }
def VarsLevelsCardSaid : Prop := Claim7.holds Tryd.pinned (.plain (OpenSpec.ofChange varsLevelsSpec)) varsLevelsCard

/-- THE TIED CARD OF 'cnclaw07.VarsCopies'. -/
def varsCopiesCard : Claim7 := { stood := { row := varsCopiesRow, standIns := [], harness := (true, "6d23b25a21876996326aa92fd94c1e292f873385e0fea331b29129776ec19223"), looks := false }, kinds := [], alts := [], laidByText := true, laidKinds := [.data], laidTests := true, laidLooks := .later }
def VarsCopiesCardSaid : Prop := Claim7.holds Tryd.pinned (.plain (OpenSpec.ofChange varsCopiesSpec)) varsCopiesCard

/-- THE TIED CARD OF 'cnclaw07.VarsKeeps'. -/
def varsKeepsCard : Claim7 := { stood := { row := varsKeepsRow, standIns := [], harness := (true, "6d23b25a21876996326aa92fd94c1e292f873385e0fea331b29129776ec19223"), looks := false }, kinds := [], alts := [], laidByText := true, laidKinds := [.data], laidTests := true, laidLooks := .later }
def VarsKeepsCardSaid : Prop := Claim7.holds Tryd.pinned (.plain (OpenSpec.ofChange varsKeepsSpec)) varsKeepsCard

/-- THE TIED CARD OF 'cnclaw07.VarsDepth'. -/
def varsDepthCard : Claim7 := { stood := { row := varsDepthRow, standIns := [], harness := (true, "6d23b25a21876996326aa92fd94c1e292f873385e0fea331b29129776ec19223"), looks := false }, kinds := [], alts := [], laidByText := true, laidKinds := [.data], laidTests := true, laidLooks := .later }
def VarsDepthCardSaid : Prop := Claim7.holds Tryd.pinned (.plain (OpenSpec.ofChange varsDepthSpec)) varsDepthCard

/-- THE SECOND FORM's CARD OF 'cnclaw07.VarsPlays'. -/
def varsPlaysUptoCard : Claim7 := { stood := { row := varsPlaysUptoRow, standIns := [], harness := (true, "6d23b25a21876996326aa92fd94c1e292f873385e0fea331b29129776ec19223"), looks := false }, kinds := [], alts := [], laidByText := true, laidKinds := [.data], laidTests := true, laidLooks := .later }
def VarsPlaysUptoCardSaid : Prop := Claim7.holds Tryd.pinned (.plain (OpenSpec.upto varsPlaysSpec)) varsPlaysUptoCard

/-- THE SECOND FORM's CARD OF 'cnclaw07.VarsLocal'. -/
def varsLocalUptoCard : Claim7 := { stood := { row := varsLocalUptoRow, standIns := [], harness := (true, "6d23b25a21876996326aa92fd94c1e292f873385e0fea331b29129776ec19223"), looks := false }, kinds := [], alts := [], laidByText := true, laidKinds := [.data], laidTests := true, laidLooks := .later }
def VarsLocalUptoCardSaid : Prop := Claim7.holds Tryd.pinned (.plain (OpenSpec.upto varsLocalSpec)) varsLocalUptoCard

/-- THE SECOND FORM's CARD OF 'cnclaw07.VarsLevels'. -/
def varsLevelsUptoCard : Claim7 := { stood := { row := varsLevelsUptoRow, standIns := [], harness := (true, "6d23b25a21876996326aa92fd94c1e292f873385e0fea331b29129776ec19223"), looks := false }, kinds := [], alts := [], laidByText := true, laidKinds := [.data], laidTests := true, laidLooks := .later }
def VarsLevelsUptoCardSaid : Prop := Claim7.holds Tryd.pinned (.plain (OpenSpec.upto varsLevelsSpec)) varsLevelsUptoCard

/-- THE SECOND FORM's CARD OF 'cnclaw07.VarsCopies'. -/
def varsCopiesUptoCard : Claim7 := { stood := { row := varsCopiesUptoRow, standIns := [], harness := (true, "6d23b25a21876996326aa92fd94c1e292f873385e0fea331b29129776ec19223"), looks := false }, kinds := [], alts := [], laidByText := true, laidKinds := [.data], laidTests := true, laidLooks := .later }
def VarsCopiesUptoCardSaid : Prop := Claim7.holds Tryd.pinned (.plain (OpenSpec.upto varsCopiesSpec)) varsCopiesUptoCard

/-- THE SECOND FORM's CARD OF 'cnclaw07.VarsKeeps'. -/
def varsKeepsUptoCard : Claim7 := { stood := { row := varsKeepsUptoRow, standIns := [], harness := (true, "6d23b25a21876996326aa92fd94c1e292f873385e0fea331b29129776ec19223"), looks := false }, kinds := [], alts := [], laidByText := true, laidKinds := [.data], laidTests := true, laidLooks := .later }
def VarsKeepsUptoCardSaid : Prop := Claim7.holds Tryd.pinned (.plain (OpenSpec.upto varsKeepsSpec)) varsKeepsUptoCard

/-- THE SECOND FORM's CARD OF 'cnclaw07.VarsDepth'. -/
def varsDepthUptoCard : Claim7 := { stood := { row := varsDepthUptoRow, standIns := [], harness := (true, "6d23b25a21876996326aa92fd94c1e292f873385e0fea331b29129776ec19223"), looks := false }, kinds := [], alts := [], laidByText := true, laidKinds := [.data], laidTests := true, laidLooks := .later }
def VarsDepthUptoCardSaid : Prop := Claim7.holds Tryd.pinned (.plain (OpenSpec.upto varsDepthSpec)) varsDepthUptoCard
end Rows
end Go.Proofs.YtmfhiabajkdikaaDoor
