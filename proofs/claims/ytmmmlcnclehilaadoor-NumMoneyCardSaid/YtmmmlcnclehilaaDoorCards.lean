/-
  DERIVED. GIVEN WITH THE SEED: THE CARDS: each row of YtmmmlcnclehilaaDoorRows.lean that lists a variable, with what it lists TIED to the program's text (the seventh form; the later family's looks); each row that meets fmt, with fmt's text TOLD by the authors' own Lean function (tested against real Go, not proved from fmt's source: count such statements apart). THE CARD IS WHAT COUNTS. Prove the row's statement (the work); the ties are given (YtmmmlcnclehilaaDoorTie.lean); close each card by the builder's one call (the guide's Derived/Test/ToyasCard.lean, 'card_holds'). Laid BY PROGRAM, IN A SANDBOX (cutbox-door.mjs). By AI agents, Wed Nov 11 2026. No macro, syntax, notation, axiom, sorry.
-/
import Derived.Test.YtmmmlcnclehilaaDoorRows
import GoSem.ClaimSeven
namespace Go.Proofs.YtmmmlcnclehilaaDoor
namespace Rows

/-- THE TIED CARD OF 'linoleumlaw01.NumShares'. -/
def numSharesCard : Claim7 := { stood := { row := numSharesRow, standIns := [], harness := (true, "8055a37dd932d49f9cb33fdb5c3a36e3d8bdda91121a5f29eedc00c903d3859d"), looks := true }, kinds := [], alts := [], laidByText := true, laidKinds := [.data, .data, .data], laidTests := true, laidLooks := .later }
def NumSharesCardSaid : Prop := Claim7.holds Tryd.pinned (.plain (OpenSpec.ofChange numSharesSpec)) numSharesCard

/-- THE TIED CARD OF 'linoleumlaw01.NumShareFair'. -/
def numShareFairCard : Claim7 := { stood := { row := numShareFairRow, standIns := [], harness := (true, "8055a37dd932d49f9cb33fdb5c3a36e3d8bdda91121a5f29eedc00c903d3859d"), looks := true }, kinds := [], alts := [], laidByText := true, laidKinds := [.data, .data, .data], laidTests := true, laidLooks := .later }
def NumShareFairCardSaid : Prop := Claim7.holds Tryd.pinned (.plain (OpenSpec.ofChange numShareFairSpec)) numShareFairCard

/-- THE TIED CARD OF 'linoleumlaw01.NumTexts'. -/
def numTextsCard : Claim7 := { stood := { row := numTextsRow, standIns := [], harness := (true, "8055a37dd932d49f9cb33fdb5c3a36e3d8bdda91121a5f29eedc00c903d3859d"), looks := true }, kinds := [], alts := [], laidByText := true, laidKinds := [.data, .data, .data, .sentinel, .sentinel], laidTests := true, laidLooks := .later }
def NumTextsCardSaid : Prop := Claim7.holds Tryd.pinned (.plain (OpenSpec.ofChange numTextsSpec)) numTextsCard

/-- THE TIED CARD OF 'linoleumlaw01.NumMoney'. -/
def numMoneyCard : Claim7 := { stood := { row := numMoneyRow, standIns := [], harness := (true, "8055a37dd932d49f9cb33fdb5c3a36e3d8bdda91121a5f29eedc00c903d3859d"), looks := true }, kinds := [], alts := [], laidByText := true, laidKinds := [.data, .data, .data, .data, .sentinel, .sentinel, .pinned], laidTests := true, laidLooks := .later }
def NumMoneyCardSaid : Prop := Claim7.holds Tryd.pinned (.plain (OpenSpec.ofChange numMoneySpec)) numMoneyCard

/-- THE TIED CARD OF 'linoleumtop.TopTime'. -/
def topTimeCard : Claim7 := { stood := { row := topTimeRow, standIns := [], harness := (true, "8055a37dd932d49f9cb33fdb5c3a36e3d8bdda91121a5f29eedc00c903d3859d"), looks := true }, kinds := [], alts := [], laidByText := true, laidKinds := [.data, .data, .data], laidTests := true, laidLooks := .later }
def TopTimeCardSaid : Prop := Claim7.holds Tryd.pinned (.plain (OpenSpec.ofChange topTimeSpec)) topTimeCard

/-- THE SECOND FORM's CARD OF 'linoleumlaw01.NumShares'. -/
def numSharesUptoCard : Claim7 := { stood := { row := numSharesUptoRow, standIns := [], harness := (true, "8055a37dd932d49f9cb33fdb5c3a36e3d8bdda91121a5f29eedc00c903d3859d"), looks := true }, kinds := [], alts := [], laidByText := true, laidKinds := [.data, .data, .data], laidTests := true, laidLooks := .later }
def NumSharesUptoCardSaid : Prop := Claim7.holds Tryd.pinned (.plain (OpenSpec.upto numSharesSpec)) numSharesUptoCard

/-- THE SECOND FORM's CARD OF 'linoleumlaw01.NumShareFair'. -/
def numShareFairUptoCard : Claim7 := { stood := { row := numShareFairUptoRow, standIns := [], harness := (true, "8055a37dd932d49f9cb33fdb5c3a36e3d8bdda91121a5f29eedc00c903d3859d"), looks := true }, kinds := [], alts := [], laidByText := true, laidKinds := [.data, .data, .data], laidTests := true, laidLooks := .later }
def NumShareFairUptoCardSaid : Prop := Claim7.holds Tryd.pinned (.plain (OpenSpec.upto numShareFairSpec)) numShareFairUptoCard

/-- THE SECOND FORM's CARD OF 'linoleumlaw01.NumTexts'. -/
def numTextsUptoCard : Claim7 := { stood := { row := numTextsUptoRow, standIns := [], harness := (true, "8055a37dd932d49f9cb33fdb5c3a36e3d8bdda91121a5f29eedc00c903d3859d"), looks := true }, kinds := [], alts := [], laidByText := true, laidKinds := [.data, .data, .data, .sentinel, .sentinel], laidTests := true, laidLooks := .later }
def NumTextsUptoCardSaid : Prop := Claim7.holds Tryd.pinned (.plain (OpenSpec.upto numTextsSpec)) numTextsUptoCard

/-- THE SECOND FORM's CARD OF 'linoleumlaw01.NumMoney'. -/
def numMoneyUptoCard : Claim7 := { stood := { row := numMoneyUptoRow, standIns := [], harness := (true, "8055a37dd932d49f9cb33fdb5c3a36e3d8bdda91121a5f29eedc00c903d3859d"), looks := true }, kinds := [], alts := [], laidByText := true, laidKinds := [.data, .data, .data, .data, .sentinel, .sentinel, .pinned], laidTests := true, laidLooks := .later }
def NumMoneyUptoCardSaid : Prop := Claim7.holds Tryd.pinned (.plain (OpenSpec.upto numMoneySpec)) numMoneyUptoCard

/-- THE SECOND FORM's CARD OF 'linoleumtop.TopTime'. -/
def topTimeUptoCard : Claim7 := { stood := { row := topTimeUptoRow, standIns := [], harness := (true, "8055a37dd932d49f9cb33fdb5c3a36e3d8bdda91121a5f29eedc00c903d3859d"), looks := true }, kinds := [], alts := [], laidByText := true, laidKinds := [.data, .data, .data], laidTests := true, laidLooks := .later }
def TopTimeUptoCardSaid : Prop := Claim7.holds Tryd.pinned (.plain (OpenSpec.upto topTimeSpec)) topTimeUptoCard
end Rows
end Go.Proofs.YtmmmlcnclehilaaDoor
