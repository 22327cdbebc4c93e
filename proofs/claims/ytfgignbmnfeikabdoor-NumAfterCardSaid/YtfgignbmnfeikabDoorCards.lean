/-
  DERIVED. GIVEN WITH THE SEED: THE CARDS: each row of YtfgignbmnfeikabDoorRows.lean that lists a variable, with what it lists TIED to the program's text (the seventh form; the later family's looks); each row that meets fmt, with fmt's text TOLD by the authors' own Lean function (tested against real Go, not proved from fmt's source: count such statements apart). THE CARD IS WHAT COUNTS. Prove the row's statement (the work); the ties are given (YtfgignbmnfeikabDoorTie.lean); close each card by the builder's one call (the guide's Derived/Test/ToyasCard.lean, 'card_holds'). Laid BY PROGRAM, IN A SANDBOX (cutbox-door.mjs). By AI agents, Wed Nov 11 2026. No macro, syntax, notation, axiom, sorry.
-/
import Derived.Test.YtfgignbmnfeikabDoorRows
import GoSem.ClaimSeven
namespace Go.Proofs.YtfgignbmnfeikabDoor
namespace Rows

/-- THE TIED CARD OF 'linoleumlaw01.NumAfter'. -/
def numAfterCard : Claim7 := { stood := { row := numAfterRow, standIns := [], harness := (true, "5712e1c2ef37e7ad1c8e3eb6ea853a36dcffd91b1031ec0ebf633b2c2a6eeaea"), looks := false }, kinds := [], alts := [], laidByText := true, laidKinds := [.data, .data, .data], laidTests := true, laidLooks := .later }
def NumAfterCardSaid : Prop := Claim7.holds Tryd.pinned (.plain (OpenSpec.ofChange numAfterSpec)) numAfterCard

/-- THE TIED CARD OF 'linoleumtop.TopTime'. -/
def topTimeCard : Claim7 := { stood := { row := topTimeRow, standIns := [], harness := (true, "5712e1c2ef37e7ad1c8e3eb6ea853a36dcffd91b1031ec0ebf633b2c2a6eeaea"), looks := false }, kinds := [], alts := [], laidByText := true, laidKinds := [.data, .data, .data], laidTests := true, laidLooks := .later }
def TopTimeCardSaid : Prop := Claim7.holds Tryd.pinned (.plain (OpenSpec.ofChange topTimeSpec)) topTimeCard

/-- THE SECOND FORM's CARD OF 'linoleumlaw01.NumAfter'. -/
def numAfterUptoCard : Claim7 := { stood := { row := numAfterUptoRow, standIns := [], harness := (true, "5712e1c2ef37e7ad1c8e3eb6ea853a36dcffd91b1031ec0ebf633b2c2a6eeaea"), looks := false }, kinds := [], alts := [], laidByText := true, laidKinds := [.data, .data, .data], laidTests := true, laidLooks := .later }
def NumAfterUptoCardSaid : Prop := Claim7.holds Tryd.pinned (.plain (OpenSpec.upto numAfterSpec)) numAfterUptoCard

/-- THE SECOND FORM's CARD OF 'linoleumtop.TopTime'. -/
def topTimeUptoCard : Claim7 := { stood := { row := topTimeUptoRow, standIns := [], harness := (true, "5712e1c2ef37e7ad1c8e3eb6ea853a36dcffd91b1031ec0ebf633b2c2a6eeaea"), looks := false }, kinds := [], alts := [], laidByText := true, laidKinds := [.data, .data, .data], laidTests := true, laidLooks := .later }
def TopTimeUptoCardSaid : Prop := Claim7.holds Tryd.pinned (.plain (OpenSpec.upto topTimeSpec)) topTimeUptoCard
end Rows
end Go.Proofs.YtfgignbmnfeikabDoor
