/-
  DERIVED. GIVEN WITH THE SEED: THE CARDS: each row of YtkkgjcjjjbikfaaDoorRows.lean that lists a variable, with what it lists TIED to the program's text (the seventh form; the later family's looks); each row that meets fmt, with fmt's text TOLD by the authors' own Lean function (tested against real Go, not proved from fmt's source: count such statements apart). THE CARD IS WHAT COUNTS. Prove the row's statement (the work); the ties are given (YtkkgjcjjjbikfaaDoorTie.lean); close each card by the builder's one call (the guide's Derived/Test/ToyasCard.lean, 'card_holds'). Laid BY PROGRAM, IN A SANDBOX (cutbox-door.mjs). By AI agents, Wed Nov 11 2026. No macro, syntax, notation, axiom, sorry.
-/
import Derived.Test.YtkkgjcjjjbikfaaDoorRows
import GoSem.ClaimSeven
namespace Go.Proofs.YtkkgjcjjjbikfaaDoor
namespace Rows

/-- THE TIED CARD OF 'cnclaw03.CordicSinCos'. -/
def cordicSinCosCard : Claim7 := { stood := { row := cordicSinCosRow, standIns := [], harness := (true, "2006661509a5943c137356f209daf35d6274020512268b311d9d8d8a2c410df8"), looks := false }, kinds := [], alts := [], laidByText := true, laidKinds := [.data], laidTests := true, laidLooks := .later }
def CordicSinCosCardSaid : Prop := Claim7.holds Tryd.pinned (.plain (OpenSpec.ofChange cordicSinCosSpec)) cordicSinCosCard

/-- THE TIED CARD OF 'cnclaw03.CordicRotate'. -/
def cordicRotateCard : Claim7 := { stood := { row := cordicRotateRow, standIns := [], harness := (true, "2006661509a5943c137356f209daf35d6274020512268b311d9d8d8a2c410df8"), looks := false }, kinds := [], alts := [], laidByText := true, laidKinds := [.data], laidTests := true, laidLooks := .later }
def CordicRotateCardSaid : Prop := Claim7.holds Tryd.pinned (.plain (OpenSpec.ofChange cordicRotateSpec)) cordicRotateCard

/-- THE TIED CARD OF 'cnclaw03.CordicAngle'. -/
def cordicAngleCard : Claim7 := { stood := { row := cordicAngleRow, standIns := [], harness := (true, "2006661509a5943c137356f209daf35d6274020512268b311d9d8d8a2c410df8"), looks := false }, kinds := [], alts := [], laidByText := true, laidKinds := [.data], laidTests := true, laidLooks := .later }
def CordicAngleCardSaid : Prop := Claim7.holds Tryd.pinned (.plain (OpenSpec.ofChange cordicAngleSpec)) cordicAngleCard

/-- THE TIED CARD OF 'cnclaw03.CordicCircle'. -/
def cordicCircleCard : Claim7 := { stood := { row := cordicCircleRow, standIns := [], harness := (true, "2006661509a5943c137356f209daf35d6274020512268b311d9d8d8a2c410df8"), looks := false }, kinds := [], alts := [], laidByText := true, laidKinds := [.data], laidTests := true, laidLooks := .later }
def CordicCircleCardSaid : Prop := Claim7.holds Tryd.pinned (.plain (OpenSpec.ofChange cordicCircleSpec)) cordicCircleCard

/-- THE TIED CARD OF 'cnclaw03.CordicQuarters'. -/
def cordicQuartersCard : Claim7 := { stood := { row := cordicQuartersRow, standIns := [], harness := (true, "2006661509a5943c137356f209daf35d6274020512268b311d9d8d8a2c410df8"), looks := false }, kinds := [], alts := [], laidByText := true, laidKinds := [.data], laidTests := true, laidLooks := .later }
def CordicQuartersCardSaid : Prop := Claim7.holds Tryd.pinned (.plain (OpenSpec.ofChange cordicQuartersSpec)) cordicQuartersCard

/-- THE TIED CARD OF 'cnclaw03.CordicSums'. -/
def cordicSumsCard : Claim7 := { stood := { row := cordicSumsRow, standIns := [], harness := (true, "2006661509a5943c137356f209daf35d6274020512268b311d9d8d8a2c410df8"), looks := false }, kinds := [], alts := [], laidByText := true, laidKinds := [.data], laidTests := true, laidLooks := .later }
def CordicSumsCardSaid : Prop := Claim7.holds Tryd.pinned (.plain (OpenSpec.ofChange cordicSumsSpec)) cordicSumsCard

/-- THE TIED CARD OF 'cnclaw03.CordicMirrors'. -/
def cordicMirrorsCard : Claim7 := { stood := { row := cordicMirrorsRow, standIns := [], harness := (true, "2006661509a5943c137356f209daf35d6274020512268b311d9d8d8a2c410df8"), looks := false }, kinds := [], alts := [], laidByText := true, laidKinds := [.data], laidTests := true, laidLooks := .later }
def CordicMirrorsCardSaid : Prop := Claim7.holds Tryd.pinned (.plain (OpenSpec.ofChange cordicMirrorsSpec)) cordicMirrorsCard

/-- THE TIED CARD OF 'cnclaw03.CordicBack'. -/
def cordicBackCard : Claim7 := { stood := { row := cordicBackRow, standIns := [], harness := (true, "2006661509a5943c137356f209daf35d6274020512268b311d9d8d8a2c410df8"), looks := false }, kinds := [], alts := [], laidByText := true, laidKinds := [.data], laidTests := true, laidLooks := .later }
def CordicBackCardSaid : Prop := Claim7.holds Tryd.pinned (.plain (OpenSpec.ofChange cordicBackSpec)) cordicBackCard

/-- THE TIED CARD OF 'cnclaw03.CordicLengths'. -/
def cordicLengthsCard : Claim7 := { stood := { row := cordicLengthsRow, standIns := [], harness := (true, "2006661509a5943c137356f209daf35d6274020512268b311d9d8d8a2c410df8"), looks := false }, kinds := [], alts := [], laidByText := true, laidKinds := [.data], laidTests := true, laidLooks := .later }
def CordicLengthsCardSaid : Prop := Claim7.holds Tryd.pinned (.plain (OpenSpec.ofChange cordicLengthsSpec)) cordicLengthsCard

/-- THE TIED CARD OF 'cnclaw03.CordicRight'. -/
def cordicRightCard : Claim7 := { stood := { row := cordicRightRow, standIns := [], harness := (true, "2006661509a5943c137356f209daf35d6274020512268b311d9d8d8a2c410df8"), looks := false }, kinds := [], alts := [], laidByText := true, laidKinds := [.data], laidTests := true, laidLooks := .later }
def CordicRightCardSaid : Prop := Claim7.holds Tryd.pinned (.plain (OpenSpec.ofChange cordicRightSpec)) cordicRightCard

/-- THE TIED CARD OF 'cnclaw03.CordicDirections'. -/
def cordicDirectionsCard : Claim7 := { stood := { row := cordicDirectionsRow, standIns := [], harness := (true, "2006661509a5943c137356f209daf35d6274020512268b311d9d8d8a2c410df8"), looks := false }, kinds := [], alts := [], laidByText := true, laidKinds := [.data], laidTests := true, laidLooks := .later }
def CordicDirectionsCardSaid : Prop := Claim7.holds Tryd.pinned (.plain (OpenSpec.ofChange cordicDirectionsSpec)) cordicDirectionsCard

/-- THE SECOND FORM's CARD OF 'cnclaw03.CordicSinCos'. -/
def cordicSinCosUptoCard : Claim7 := { stood := { row := cordicSinCosUptoRow, standIns := [], harness := (true, "2006661509a5943c137356f209daf35d6274020512268b311d9d8d8a2c410df8"), looks := false }, kinds := [], alts := [], laidByText := true, laidKinds := [.data], laidTests := true, laidLooks := .later }
def CordicSinCosUptoCardSaid : Prop := Claim7.holds Tryd.pinned (.plain (OpenSpec.upto cordicSinCosSpec)) cordicSinCosUptoCard

/-- THE SECOND FORM's CARD OF 'cnclaw03.CordicRotate'. -/
def cordicRotateUptoCard : Claim7 := { stood := { row := cordicRotateUptoRow, standIns := [], harness := (true, "2006661509a5943c137356f209daf35d6274020512268b311d9d8d8a2c410df8"), looks := false }, kinds := [], alts := [], laidByText := true, laidKinds := [.data], laidTests := true, laidLooks := .later }
def CordicRotateUptoCardSaid : Prop := Claim7.holds Tryd.pinned (.plain (OpenSpec.upto cordicRotateSpec)) cordicRotateUptoCard

/-- THE SECOND FORM's CARD OF 'cnclaw03.CordicAngle'. -/
def cordicAngleUptoCard : Claim7 := { stood := { row := cordicAngleUptoRow, standIns := [], harness := (true, "2006661509a5943c137356f209daf35d6274020512268b311d9d8d8a2c410df8"), looks := false }, kinds := [], alts := [], laidByText := true, laidKinds := [.data], laidTests := true, laidLooks := .later }
def CordicAngleUptoCardSaid : Prop := Claim7.holds Tryd.pinned (.plain (OpenSpec.upto cordicAngleSpec)) cordicAngleUptoCard

/-- THE SECOND FORM's CARD OF 'cnclaw03.CordicCircle'. -/
def cordicCircleUptoCard : Claim7 := { stood := { row := cordicCircleUptoRow, standIns := [], harness := (true, "2006661509a5943c137356f209daf35d6274020512268b311d9d8d8a2c410df8"), looks := false }, kinds := [], alts := [], laidByText := true, laidKinds := [.data], laidTests := true, laidLooks := .later }
def CordicCircleUptoCardSaid : Prop := Claim7.holds Tryd.pinned (.plain (OpenSpec.upto cordicCircleSpec)) cordicCircleUptoCard

/-- THE SECOND FORM's CARD OF 'cnclaw03.CordicQuarters'. -/
def cordicQuartersUptoCard : Claim7 := { stood := { row := cordicQuartersUptoRow, standIns := [], harness := (true, "2006661509a5943c137356f209daf35d6274020512268b311d9d8d8a2c410df8"), looks := false }, kinds := [], alts := [], laidByText := true, laidKinds := [.data], laidTests := true, laidLooks := .later }
def CordicQuartersUptoCardSaid : Prop := Claim7.holds Tryd.pinned (.plain (OpenSpec.upto cordicQuartersSpec)) cordicQuartersUptoCard

/-- THE SECOND FORM's CARD OF 'cnclaw03.CordicSums'. -/
def cordicSumsUptoCard : Claim7 := { stood := { row := cordicSumsUptoRow, standIns := [], harness := (true, "2006661509a5943c137356f209daf35d6274020512268b311d9d8d8a2c410df8"), looks := false }, kinds := [], alts := [], laidByText := true, laidKinds := [.data], laidTests := true, laidLooks := .later }
def CordicSumsUptoCardSaid : Prop := Claim7.holds Tryd.pinned (.plain (OpenSpec.upto cordicSumsSpec)) cordicSumsUptoCard

/-- THE SECOND FORM's CARD OF 'cnclaw03.CordicMirrors'. -/
def cordicMirrorsUptoCard : Claim7 := { stood := { row := cordicMirrorsUptoRow, standIns := [], harness := (true, "2006661509a5943c137356f209daf35d6274020512268b311d9d8d8a2c410df8"), looks := false }, kinds := [], alts := [], laidByText := true, laidKinds := [.data], laidTests := true, laidLooks := .later }
def CordicMirrorsUptoCardSaid : Prop := Claim7.holds Tryd.pinned (.plain (OpenSpec.upto cordicMirrorsSpec)) cordicMirrorsUptoCard

/-- THE SECOND FORM's CARD OF 'cnclaw03.CordicBack'. -/
def cordicBackUptoCard : Claim7 := { stood := { row := cordicBackUptoRow, standIns := [], harness := (true, "2006661509a5943c137356f209daf35d6274020512268b311d9d8d8a2c410df8"), looks := false }, kinds := [], alts := [], laidByText := true, laidKinds := [.data], laidTests := true, laidLooks := .later }
def CordicBackUptoCardSaid : Prop := Claim7.holds Tryd.pinned (.plain (OpenSpec.upto cordicBackSpec)) cordicBackUptoCard

/-- THE SECOND FORM's CARD OF 'cnclaw03.CordicLengths'. -/
def cordicLengthsUptoCard : Claim7 := { stood := { row := cordicLengthsUptoRow, standIns := [], harness := (true, "2006661509a5943c137356f209daf35d6274020512268b311d9d8d8a2c410df8"), looks := false }, kinds := [], alts := [], laidByText := true, laidKinds := [.data], laidTests := true, laidLooks := .later }
def CordicLengthsUptoCardSaid : Prop := Claim7.holds Tryd.pinned (.plain (OpenSpec.upto cordicLengthsSpec)) cordicLengthsUptoCard

/-- THE SECOND FORM's CARD OF 'cnclaw03.CordicRight'. -/
def cordicRightUptoCard : Claim7 := { stood := { row := cordicRightUptoRow, standIns := [], harness := (true, "2006661509a5943c137356f209daf35d6274020512268b311d9d8d8a2c410df8"), looks := false }, kinds := [], alts := [], laidByText := true, laidKinds := [.data], laidTests := true, laidLooks := .later }
def CordicRightUptoCardSaid : Prop := Claim7.holds Tryd.pinned (.plain (OpenSpec.upto cordicRightSpec)) cordicRightUptoCard

/-- THE SECOND FORM's CARD OF 'cnclaw03.CordicDirections'. -/
def cordicDirectionsUptoCard : Claim7 := { stood := { row := cordicDirectionsUptoRow, standIns := [], harness := (true, "2006661509a5943c137356f209daf35d6274020512268b311d9d8d8a2c410df8"), looks := false }, kinds := [], alts := [], laidByText := true, laidKinds := [.data], laidTests := true, laidLooks := .later }
def CordicDirectionsUptoCardSaid : Prop := Claim7.holds Tryd.pinned (.plain (OpenSpec.upto cordicDirectionsSpec)) cordicDirectionsUptoCard
end Rows
end Go.Proofs.YtkkgjcjjjbikfaaDoor
