/-
  DERIVED. GIVEN WITH THE SEED: THE CARDS: each row of YtobolflgoljafaaGreatDoorRows.lean that lists a variable, with what it lists TIED to the program's text (the seventh form; the later family's looks); each row that meets fmt, with fmt's text TOLD by the authors' own Lean function (tested against real Go, not proved from fmt's source: count such statements apart). THE CARD IS WHAT COUNTS. Prove the row's statement (the work); the ties are given (YtobolflgoljafaaGreatDoorTie.lean); close each card by the builder's one call (the guide's Derived/Test/ToyasCard.lean, 'card_holds'). Laid BY PROGRAM, IN A SANDBOX (cutbox-door.mjs). By AI agents, Wed Nov 11 2026. No macro, syntax, notation, axiom, sorry.
-/
import Derived.Test.YtobolflgoljafaaGreatDoorRows
import GoSem.ClaimSeven
namespace Go.Proofs.YtobolflgoljafaaGreatDoor
namespace Rows

/-- THE TIED CARD OF 'linoleumlaw05.PatternSames'. -/
def patternSamesCard : Claim7 := { stood := { row := patternSamesRow, standIns := [], harness := (true, "db5e0e2350c8d9c2cfbc0e2215877bb349851079ac6c109ade85a175fde0eb46"), looks := true }, kinds := [], alts := [], laidByText := true, laidKinds := [.data, .data, .data, .data, .sentinel, .sentinel, .pinned], laidTests := true, laidLooks := .later }
def PatternSamesCardSaid : Prop := Claim7.holds Tryz.pinned (.plain (OpenSpec.ofChange patternSamesSpec)) patternSamesCard

/-- THE TIED CARD OF 'linoleumlaw05.PatternTurns'. -/
def patternTurnsCard : Claim7 := { stood := { row := patternTurnsRow, standIns := [], harness := (true, "db5e0e2350c8d9c2cfbc0e2215877bb349851079ac6c109ade85a175fde0eb46"), looks := true }, kinds := [], alts := [], laidByText := true, laidKinds := [.data, .data, .data, .data, .sentinel, .sentinel, .pinned], laidTests := true, laidLooks := .later }
def PatternTurnsCardSaid : Prop := Claim7.holds Tryz.pinned (.plain (OpenSpec.ofChange patternTurnsSpec)) patternTurnsCard

/-- THE TIED CARD OF 'linoleumlaw05.PatternOvers'. -/
def patternOversCard : Claim7 := { stood := { row := patternOversRow, standIns := [], harness := (true, "db5e0e2350c8d9c2cfbc0e2215877bb349851079ac6c109ade85a175fde0eb46"), looks := true }, kinds := [], alts := [], laidByText := true, laidKinds := [.data, .data, .data, .data, .sentinel, .sentinel, .pinned], laidTests := true, laidLooks := .later }
def PatternOversCardSaid : Prop := Claim7.holds Tryz.pinned (.plain (OpenSpec.ofChange patternOversSpec)) patternOversCard

/-- THE TIED CARD OF 'linoleumlaw05.PatternSwells'. -/
def patternSwellsCard : Claim7 := { stood := { row := patternSwellsRow, standIns := [], harness := (true, "db5e0e2350c8d9c2cfbc0e2215877bb349851079ac6c109ade85a175fde0eb46"), looks := true }, kinds := [], alts := [], laidByText := true, laidKinds := [.data, .data, .data, .data, .sentinel, .sentinel, .pinned], laidTests := true, laidLooks := .later }
def PatternSwellsCardSaid : Prop := Claim7.holds Tryz.pinned (.plain (OpenSpec.ofChange patternSwellsSpec)) patternSwellsCard

/-- THE TIED CARD OF 'linoleumlaw05.PatternMeasures'. -/
def patternMeasuresCard : Claim7 := { stood := { row := patternMeasuresRow, standIns := [], harness := (true, "db5e0e2350c8d9c2cfbc0e2215877bb349851079ac6c109ade85a175fde0eb46"), looks := true }, kinds := [], alts := [], laidByText := true, laidKinds := [.data, .data, .data, .data, .sentinel, .sentinel, .pinned], laidTests := true, laidLooks := .later }
def PatternMeasuresCardSaid : Prop := Claim7.holds Tryz.pinned (.plain (OpenSpec.ofChange patternMeasuresSpec)) patternMeasuresCard

/-- THE TIED CARD OF 'linoleumlaw05.PatternAligns'. -/
def patternAlignsCard : Claim7 := { stood := { row := patternAlignsRow, standIns := [], harness := (true, "db5e0e2350c8d9c2cfbc0e2215877bb349851079ac6c109ade85a175fde0eb46"), looks := true }, kinds := [], alts := [], laidByText := true, laidKinds := [.data, .data, .data, .data, .sentinel, .sentinel, .pinned], laidTests := true, laidLooks := .later }
def PatternAlignsCardSaid : Prop := Claim7.holds Tryz.pinned (.plain (OpenSpec.ofChange patternAlignsSpec)) patternAlignsCard

/-- THE TIED CARD OF 'linoleumlaw05.PatternFormats'. -/
def patternFormatsCard : Claim7 := { stood := { row := patternFormatsRow, standIns := [], harness := (true, "db5e0e2350c8d9c2cfbc0e2215877bb349851079ac6c109ade85a175fde0eb46"), looks := true }, kinds := [], alts := [], laidByText := true, laidKinds := [.data, .data, .data, .data, .sentinel, .sentinel, .pinned], laidTests := true, laidLooks := .later }
def PatternFormatsCardSaid : Prop := Claim7.holds Tryz.pinned (.plain (OpenSpec.ofChange patternFormatsSpec)) patternFormatsCard

/-- THE TIED CARD OF 'linoleumlaw05.PatternParses'. -/
def patternParsesCard : Claim7 := { stood := { row := patternParsesRow, standIns := [], harness := (true, "db5e0e2350c8d9c2cfbc0e2215877bb349851079ac6c109ade85a175fde0eb46"), looks := true }, kinds := [], alts := [], laidByText := true, laidKinds := [.data, .data, .data, .data, .sentinel, .sentinel, .pinned], laidTests := true, laidLooks := .later }
def PatternParsesCardSaid : Prop := Claim7.holds Tryz.pinned (.plain (OpenSpec.ofChange patternParsesSpec)) patternParsesCard

/-- THE TIED CARD OF 'linoleumtop.TopPatterns'. -/
def topPatternsCard : Claim7 := { stood := { row := topPatternsRow, standIns := [], harness := (true, "db5e0e2350c8d9c2cfbc0e2215877bb349851079ac6c109ade85a175fde0eb46"), looks := true }, kinds := [], alts := [], laidByText := true, laidKinds := [.data, .data, .data, .data, .sentinel, .sentinel, .pinned], laidTests := true, laidLooks := .later }
def TopPatternsCardSaid : Prop := Claim7.holds Tryz.pinned (.plain (OpenSpec.ofChange topPatternsSpec)) topPatternsCard

/-- THE SECOND FORM's CARD OF 'linoleumlaw05.PatternSames'. -/
def patternSamesUptoCard : Claim7 := { stood := { row := patternSamesUptoRow, standIns := [], harness := (true, "db5e0e2350c8d9c2cfbc0e2215877bb349851079ac6c109ade85a175fde0eb46"), looks := true }, kinds := [], alts := [], laidByText := true, laidKinds := [.data, .data, .data, .data, .sentinel, .sentinel, .pinned], laidTests := true, laidLooks := .later }
def PatternSamesUptoCardSaid : Prop := Claim7.holds Tryz.pinned (.plain (OpenSpec.upto patternSamesSpec)) patternSamesUptoCard

/-- THE SECOND FORM's CARD OF 'linoleumlaw05.PatternTurns'. -/
def patternTurnsUptoCard : Claim7 := { stood := { row := patternTurnsUptoRow, standIns := [], harness := (true, "db5e0e2350c8d9c2cfbc0e2215877bb349851079ac6c109ade85a175fde0eb46"), looks := true }, kinds := [], alts := [], laidByText := true, laidKinds := [.data, .data, .data, .data, .sentinel, .sentinel, .pinned], laidTests := true, laidLooks := .later }
def PatternTurnsUptoCardSaid : Prop := Claim7.holds Tryz.pinned (.plain (OpenSpec.upto patternTurnsSpec)) patternTurnsUptoCard

/-- THE SECOND FORM's CARD OF 'linoleumlaw05.PatternOvers'. -/
def patternOversUptoCard : Claim7 := { stood := { row := patternOversUptoRow, standIns := [], harness := (true, "db5e0e2350c8d9c2cfbc0e2215877bb349851079ac6c109ade85a175fde0eb46"), looks := true }, kinds := [], alts := [], laidByText := true, laidKinds := [.data, .data, .data, .data, .sentinel, .sentinel, .pinned], laidTests := true, laidLooks := .later }
def PatternOversUptoCardSaid : Prop := Claim7.holds Tryz.pinned (.plain (OpenSpec.upto patternOversSpec)) patternOversUptoCard

/-- THE SECOND FORM's CARD OF 'linoleumlaw05.PatternSwells'. -/
def patternSwellsUptoCard : Claim7 := { stood := { row := patternSwellsUptoRow, standIns := [], harness := (true, "db5e0e2350c8d9c2cfbc0e2215877bb349851079ac6c109ade85a175fde0eb46"), looks := true }, kinds := [], alts := [], laidByText := true, laidKinds := [.data, .data, .data, .data, .sentinel, .sentinel, .pinned], laidTests := true, laidLooks := .later }
def PatternSwellsUptoCardSaid : Prop := Claim7.holds Tryz.pinned (.plain (OpenSpec.upto patternSwellsSpec)) patternSwellsUptoCard

/-- THE SECOND FORM's CARD OF 'linoleumlaw05.PatternMeasures'. -/
def patternMeasuresUptoCard : Claim7 := { stood := { row := patternMeasuresUptoRow, standIns := [], harness := (true, "db5e0e2350c8d9c2cfbc0e2215877bb349851079ac6c109ade85a175fde0eb46"), looks := true }, kinds := [], alts := [], laidByText := true, laidKinds := [.data, .data, .data, .data, .sentinel, .sentinel, .pinned], laidTests := true, laidLooks := .later }
def PatternMeasuresUptoCardSaid : Prop := Claim7.holds Tryz.pinned (.plain (OpenSpec.upto patternMeasuresSpec)) patternMeasuresUptoCard

/-- THE SECOND FORM's CARD OF 'linoleumlaw05.PatternAligns'. -/
def patternAlignsUptoCard : Claim7 := { stood := { row := patternAlignsUptoRow, standIns := [], harness := (true, "db5e0e2350c8d9c2cfbc0e2215877bb349851079ac6c109ade85a175fde0eb46"), looks := true }, kinds := [], alts := [], laidByText := true, laidKinds := [.data, .data, .data, .data, .sentinel, .sentinel, .pinned], laidTests := true, laidLooks := .later }
def PatternAlignsUptoCardSaid : Prop := Claim7.holds Tryz.pinned (.plain (OpenSpec.upto patternAlignsSpec)) patternAlignsUptoCard

/-- THE SECOND FORM's CARD OF 'linoleumlaw05.PatternFormats'. -/
def patternFormatsUptoCard : Claim7 := { stood := { row := patternFormatsUptoRow, standIns := [], harness := (true, "db5e0e2350c8d9c2cfbc0e2215877bb349851079ac6c109ade85a175fde0eb46"), looks := true }, kinds := [], alts := [], laidByText := true, laidKinds := [.data, .data, .data, .data, .sentinel, .sentinel, .pinned], laidTests := true, laidLooks := .later }
def PatternFormatsUptoCardSaid : Prop := Claim7.holds Tryz.pinned (.plain (OpenSpec.upto patternFormatsSpec)) patternFormatsUptoCard

/-- THE SECOND FORM's CARD OF 'linoleumlaw05.PatternParses'. -/
def patternParsesUptoCard : Claim7 := { stood := { row := patternParsesUptoRow, standIns := [], harness := (true, "db5e0e2350c8d9c2cfbc0e2215877bb349851079ac6c109ade85a175fde0eb46"), looks := true }, kinds := [], alts := [], laidByText := true, laidKinds := [.data, .data, .data, .data, .sentinel, .sentinel, .pinned], laidTests := true, laidLooks := .later }
def PatternParsesUptoCardSaid : Prop := Claim7.holds Tryz.pinned (.plain (OpenSpec.upto patternParsesSpec)) patternParsesUptoCard

/-- THE SECOND FORM's CARD OF 'linoleumtop.TopPatterns'. -/
def topPatternsUptoCard : Claim7 := { stood := { row := topPatternsUptoRow, standIns := [], harness := (true, "db5e0e2350c8d9c2cfbc0e2215877bb349851079ac6c109ade85a175fde0eb46"), looks := true }, kinds := [], alts := [], laidByText := true, laidKinds := [.data, .data, .data, .data, .sentinel, .sentinel, .pinned], laidTests := true, laidLooks := .later }
def TopPatternsUptoCardSaid : Prop := Claim7.holds Tryz.pinned (.plain (OpenSpec.upto topPatternsSpec)) topPatternsUptoCard
end Rows
end Go.Proofs.YtobolflgoljafaaGreatDoor
