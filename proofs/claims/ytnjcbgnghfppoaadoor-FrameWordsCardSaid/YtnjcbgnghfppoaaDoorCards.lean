/-
  DERIVED. GIVEN WITH THE SEED: THE CARDS: each row of YtnjcbgnghfppoaaDoorRows.lean that lists a variable, with what it lists TIED to the program's text (the seventh form; the later family's looks); each row that meets fmt, with fmt's text TOLD by the authors' own Lean function (tested against real Go, not proved from fmt's source: count such statements apart). THE CARD IS WHAT COUNTS. Prove the row's statement (the work); the ties are given (YtnjcbgnghfppoaaDoorTie.lean); close each card by the builder's one call (the guide's Derived/Test/ToyasCard.lean, 'card_holds'). Laid BY PROGRAM, IN A SANDBOX (cutbox-door.mjs). By AI agents, Wed Nov 11 2026. No macro, syntax, notation, axiom, sorry.
-/
import Derived.Test.YtnjcbgnghfppoaaDoorRows
import GoSem.ClaimSeven
namespace Go.Proofs.YtnjcbgnghfppoaaDoor
namespace Rows

/-- THE TIED CARD OF 'cnclaw12.FrameValid'. -/
def frameValidCard : Claim7 := { stood := { row := frameValidRow, standIns := [], harness := (true, "68bec1361b9cd547916ca82047b6087e334c93a8f49b60c4c5bb9e42d48cd603"), looks := false }, kinds := [], alts := [], laidByText := true, laidKinds := [.data], laidTests := true, laidLooks := .later }
def FrameValidCardSaid : Prop := Claim7.holds Tryd.pinned (.plain (OpenSpec.ofChange frameValidSpec)) frameValidCard

/-- THE TIED CARD OF 'cnclaw12.FrameMaps'. -/
def frameMapsCard : Claim7 := { stood := { row := frameMapsRow, standIns := [], harness := (true, "68bec1361b9cd547916ca82047b6087e334c93a8f49b60c4c5bb9e42d48cd603"), looks := false }, kinds := [], alts := [], laidByText := true, laidKinds := [.data], laidTests := true, laidLooks := .later }
def FrameMapsCardSaid : Prop := Claim7.holds Tryd.pinned (.plain (OpenSpec.ofChange frameMapsSpec)) frameMapsCard

/-- THE TIED CARD OF 'cnclaw12.FrameTarget'. -/
def frameTargetCard : Claim7 := { stood := { row := frameTargetRow, standIns := [], harness := (true, "68bec1361b9cd547916ca82047b6087e334c93a8f49b60c4c5bb9e42d48cd603"), looks := false }, kinds := [], alts := [], laidByText := true, laidKinds := [.data], laidTests := true, laidLooks := .later }
def FrameTargetCardSaid : Prop := Claim7.holds Tryd.pinned (.plain (OpenSpec.ofChange frameTargetSpec)) frameTargetCard

/-- THE TIED CARD OF 'cnclaw12.FrameBack'. -/
def frameBackCard : Claim7 := { stood := { row := frameBackRow, standIns := [], harness := (true, "68bec1361b9cd547916ca82047b6087e334c93a8f49b60c4c5bb9e42d48cd603"), looks := false }, kinds := [], alts := [], laidByText := true, laidKinds := [.data], laidTests := true, laidLooks := .later }
def FrameBackCardSaid : Prop := Claim7.holds Tryd.pinned (.plain (OpenSpec.ofChange frameBackSpec)) frameBackCard

/-- THE TIED CARD OF 'cnclaw12.FrameShifts'. -/
def frameShiftsCard : Claim7 := { stood := { row := frameShiftsRow, standIns := [], harness := (true, "68bec1361b9cd547916ca82047b6087e334c93a8f49b60c4c5bb9e42d48cd603"), looks := false }, kinds := [], alts := [], laidByText := true, laidKinds := [.data], laidTests := true, laidLooks := .later }
def FrameShiftsCardSaid : Prop := Claim7.holds Tryd.pinned (.plain (OpenSpec.ofChange frameShiftsSpec)) frameShiftsCard

/-- THE TIED CARD OF 'cnclaw12.FrameTurns'. -/
def frameTurnsCard : Claim7 := { stood := { row := frameTurnsRow, standIns := [], harness := (true, "68bec1361b9cd547916ca82047b6087e334c93a8f49b60c4c5bb9e42d48cd603"), looks := false }, kinds := [], alts := [], laidByText := true, laidKinds := [.data], laidTests := true, laidLooks := .later }
def FrameTurnsCardSaid : Prop := Claim7.holds Tryd.pinned (.plain (OpenSpec.ofChange frameTurnsSpec)) frameTurnsCard

/-- THE TIED CARD OF 'cnclaw12.FrameWords'. -/
def frameWordsCard : Claim7 := { stood := { row := frameWordsRow, standIns := [], harness := (true, "68bec1361b9cd547916ca82047b6087e334c93a8f49b60c4c5bb9e42d48cd603"), looks := false }, kinds := [], alts := [], laidByText := true, laidKinds := [.data], laidTests := true, laidLooks := .later }
def FrameWordsCardSaid : Prop := Claim7.holds Tryd.pinned (.plain (OpenSpec.ofChange frameWordsSpec)) frameWordsCard

/-- THE TIED CARD OF 'cnclaw12.FramePolar'. -/
def framePolarCard : Claim7 := { stood := { row := framePolarRow, standIns := [], harness := (true, "68bec1361b9cd547916ca82047b6087e334c93a8f49b60c4c5bb9e42d48cd603"), looks := false }, kinds := [], alts := [], laidByText := true, laidKinds := [.data], laidTests := true, laidLooks := .later }
def FramePolarCardSaid : Prop := Claim7.holds Tryd.pinned (.plain (OpenSpec.ofChange framePolarSpec)) framePolarCard

/-- THE SECOND FORM's CARD OF 'cnclaw12.FrameValid'. -/
def frameValidUptoCard : Claim7 := { stood := { row := frameValidUptoRow, standIns := [], harness := (true, "68bec1361b9cd547916ca82047b6087e334c93a8f49b60c4c5bb9e42d48cd603"), looks := false }, kinds := [], alts := [], laidByText := true, laidKinds := [.data], laidTests := true, laidLooks := .later }
def FrameValidUptoCardSaid : Prop := Claim7.holds Tryd.pinned (.plain (OpenSpec.upto frameValidSpec)) frameValidUptoCard

/-- THE SECOND FORM's CARD OF 'cnclaw12.FrameMaps'. -/
def frameMapsUptoCard : Claim7 := { stood := { row := frameMapsUptoRow, standIns := [], harness := (true, "68bec1361b9cd547916ca82047b6087e334c93a8f49b60c4c5bb9e42d48cd603"), looks := false }, kinds := [], alts := [], laidByText := true, laidKinds := [.data], laidTests := true, laidLooks := .later }
def FrameMapsUptoCardSaid : Prop := Claim7.holds Tryd.pinned (.plain (OpenSpec.upto frameMapsSpec)) frameMapsUptoCard

/-- THE SECOND FORM's CARD OF 'cnclaw12.FrameTarget'. -/
def frameTargetUptoCard : Claim7 := { stood := { row := frameTargetUptoRow, standIns := [], harness := (true, "68bec1361b9cd547916ca82047b6087e334c93a8f49b60c4c5bb9e42d48cd603"), looks := false }, kinds := [], alts := [], laidByText := true, laidKinds := [.data], laidTests := true, laidLooks := .later }
def FrameTargetUptoCardSaid : Prop := Claim7.holds Tryd.pinned (.plain (OpenSpec.upto frameTargetSpec)) frameTargetUptoCard

/-- THE SECOND FORM's CARD OF 'cnclaw12.FrameBack'. -/
def frameBackUptoCard : Claim7 := { stood := { row := frameBackUptoRow, standIns := [], harness := (true, "68bec1361b9cd547916ca82047b6087e334c93a8f49b60c4c5bb9e42d48cd603"), looks := false }, kinds := [], alts := [], laidByText := true, laidKinds := [.data], laidTests := true, laidLooks := .later }
def FrameBackUptoCardSaid : Prop := Claim7.holds Tryd.pinned (.plain (OpenSpec.upto frameBackSpec)) frameBackUptoCard

/-- THE SECOND FORM's CARD OF 'cnclaw12.FrameShifts'. -/
def frameShiftsUptoCard : Claim7 := { stood := { row := frameShiftsUptoRow, standIns := [], harness := (true, "68bec1361b9cd547916ca82047b6087e334c93a8f49b60c4c5bb9e42d48cd603"), looks := false }, kinds := [], alts := [], laidByText := true, laidKinds := [.data], laidTests := true, laidLooks := .later }
def FrameShiftsUptoCardSaid : Prop := Claim7.holds Tryd.pinned (.plain (OpenSpec.upto frameShiftsSpec)) frameShiftsUptoCard

/-- THE SECOND FORM's CARD OF 'cnclaw12.FrameTurns'. -/
def frameTurnsUptoCard : Claim7 := { stood := { row := frameTurnsUptoRow, standIns := [], harness := (true, "68bec1361b9cd547916ca82047b6087e334c93a8f49b60c4c5bb9e42d48cd603"), looks := false }, kinds := [], alts := [], laidByText := true, laidKinds := [.data], laidTests := true, laidLooks := .later }
def FrameTurnsUptoCardSaid : Prop := Claim7.holds Tryd.pinned (.plain (OpenSpec.upto frameTurnsSpec)) frameTurnsUptoCard

/-- THE SECOND FORM's CARD OF 'cnclaw12.FrameWords'. -/
def frameWordsUptoCard : Claim7 := { stood := { row := frameWordsUptoRow, standIns := [], harness := (true, "68bec1361b9cd547916ca82047b6087e334c93a8f49b60c4c5bb9e42d48cd603"), looks := false }, kinds := [], alts := [], laidByText := true, laidKinds := [.data], laidTests := true, laidLooks := .later }
def FrameWordsUptoCardSaid : Prop := Claim7.holds Tryd.pinned (.plain (OpenSpec.upto frameWordsSpec)) frameWordsUptoCard

/-- THE SECOND FORM's CARD OF 'cnclaw12.FramePolar'. -/
def framePolarUptoCard : Claim7 := { stood := { row := framePolarUptoRow, standIns := [], harness := (true, "68bec1361b9cd547916ca82047b6087e334c93a8f49b60c4c5bb9e42d48cd603"), looks := false }, kinds := [], alts := [], laidByText := true, laidKinds := [.data], laidTests := true, laidLooks := .later }
def FramePolarUptoCardSaid : Prop := Claim7.holds Tryd.pinned (.plain (OpenSpec.upto framePolarSpec)) framePolarUptoCard
end Rows
end Go.Proofs.YtnjcbgnghfppoaaDoor
