/-
  DERIVED. GIVEN WITH THE SEED: THE CARDS: each row of YtcljpklgpedolaaGreatDoorRows.lean that lists a variable, with what it lists TIED to the program's text (the seventh form; the later family's looks); each row that meets fmt, with fmt's text TOLD by the authors' own Lean function (tested against real Go, not proved from fmt's source: count such statements apart). THE CARD IS WHAT COUNTS. Prove the row's statement (the work); the ties are given (YtcljpklgpedolaaGreatDoorTie.lean); close each card by the builder's one call (the guide's Derived/Test/ToyasCard.lean, 'card_holds'). Laid BY PROGRAM, IN A SANDBOX (cutbox-door.mjs). By AI agents, Wed Nov 11 2026. No macro, syntax, notation, axiom, sorry.
-/
import Derived.Test.YtcljpklgpedolaaGreatDoorRows
import GoSem.ClaimSeven
namespace Go.Proofs.YtcljpklgpedolaaGreatDoor
namespace Rows

/-- THE TIED CARD OF 'linoleumlaw09.BookSums'. -/
def bookSumsCard : Claim7 := { stood := { row := bookSumsRow, standIns := [], harness := (true, "96a42cab4c546472faf06ac2025e45111811b22ce48d02d582d9e6dd472ab64c"), looks := true }, kinds := [], alts := [], laidByText := true, laidKinds := [.data, .data, .data, .data, .sentinel, .sentinel, .pinned], laidTests := true, laidLooks := .later }
def BookSumsCardSaid : Prop := Claim7.holds Tryz.pinned (.plain (OpenSpec.ofChange bookSumsSpec)) bookSumsCard

/-- THE TIED CARD OF 'linoleumlaw09.BookReads'. -/
def bookReadsCard : Claim7 := { stood := { row := bookReadsRow, standIns := [], harness := (true, "96a42cab4c546472faf06ac2025e45111811b22ce48d02d582d9e6dd472ab64c"), looks := true }, kinds := [], alts := [], laidByText := true, laidKinds := [.data, .data, .data, .data, .sentinel, .sentinel, .pinned], laidTests := true, laidLooks := .later }
def BookReadsCardSaid : Prop := Claim7.holds Tryz.pinned (.plain (OpenSpec.ofChange bookReadsSpec)) bookReadsCard

/-- THE TIED CARD OF 'linoleumlaw09.BookAppends'. -/
def bookAppendsCard : Claim7 := { stood := { row := bookAppendsRow, standIns := [], harness := (true, "96a42cab4c546472faf06ac2025e45111811b22ce48d02d582d9e6dd472ab64c"), looks := true }, kinds := [], alts := [], laidByText := true, laidKinds := [.data, .data, .data, .data, .sentinel, .sentinel, .pinned], laidTests := true, laidLooks := .later }
def BookAppendsCardSaid : Prop := Claim7.holds Tryz.pinned (.plain (OpenSpec.ofChange bookAppendsSpec)) bookAppendsCard

/-- THE TIED CARD OF 'linoleumlaw09.BookFinds'. -/
def bookFindsCard : Claim7 := { stood := { row := bookFindsRow, standIns := [], harness := (true, "96a42cab4c546472faf06ac2025e45111811b22ce48d02d582d9e6dd472ab64c"), looks := true }, kinds := [], alts := [], laidByText := true, laidKinds := [.data, .data, .data, .data, .sentinel, .sentinel, .pinned], laidTests := true, laidLooks := .later }
def BookFindsCardSaid : Prop := Claim7.holds Tryz.pinned (.plain (OpenSpec.ofChange bookFindsSpec)) bookFindsCard

/-- THE TIED CARD OF 'linoleumlaw09.BookCompares'. -/
def bookComparesCard : Claim7 := { stood := { row := bookComparesRow, standIns := [], harness := (true, "96a42cab4c546472faf06ac2025e45111811b22ce48d02d582d9e6dd472ab64c"), looks := true }, kinds := [], alts := [], laidByText := true, laidKinds := [.data, .data, .data, .data, .sentinel, .sentinel, .pinned], laidTests := true, laidLooks := .later }
def BookComparesCardSaid : Prop := Claim7.holds Tryz.pinned (.plain (OpenSpec.ofChange bookComparesSpec)) bookComparesCard

/-- THE TIED CARD OF 'linoleumlaw09.BookCrashes'. -/
def bookCrashesCard : Claim7 := { stood := { row := bookCrashesRow, standIns := [], harness := (true, "96a42cab4c546472faf06ac2025e45111811b22ce48d02d582d9e6dd472ab64c"), looks := true }, kinds := [], alts := [], laidByText := true, laidKinds := [.data, .data, .data, .data, .sentinel, .sentinel, .pinned], laidTests := true, laidLooks := .later }
def BookCrashesCardSaid : Prop := Claim7.holds Tryz.pinned (.plain (OpenSpec.ofChange bookCrashesSpec)) bookCrashesCard

/-- THE TIED CARD OF 'linoleumlaw09.BookCopies'. -/
def bookCopiesCard : Claim7 := { stood := { row := bookCopiesRow, standIns := [], harness := (true, "96a42cab4c546472faf06ac2025e45111811b22ce48d02d582d9e6dd472ab64c"), looks := true }, kinds := [], alts := [], laidByText := true, laidKinds := [.data, .data, .data, .data, .sentinel, .sentinel, .pinned], laidTests := true, laidLooks := .later }
def BookCopiesCardSaid : Prop := Claim7.holds Tryz.pinned (.plain (OpenSpec.ofChange bookCopiesSpec)) bookCopiesCard

/-- THE TIED CARD OF 'linoleumlaw09.BookBalances'. -/
def bookBalancesCard : Claim7 := { stood := { row := bookBalancesRow, standIns := [], harness := (true, "96a42cab4c546472faf06ac2025e45111811b22ce48d02d582d9e6dd472ab64c"), looks := true }, kinds := [], alts := [], laidByText := true, laidKinds := [.data, .data, .data, .data, .sentinel, .sentinel, .pinned], laidTests := true, laidLooks := .later }
def BookBalancesCardSaid : Prop := Claim7.holds Tryz.pinned (.plain (OpenSpec.ofChange bookBalancesSpec)) bookBalancesCard

/-- THE TIED CARD OF 'linoleumlaw09.BookPosts'. -/
def bookPostsCard : Claim7 := { stood := { row := bookPostsRow, standIns := [], harness := (true, "96a42cab4c546472faf06ac2025e45111811b22ce48d02d582d9e6dd472ab64c"), looks := true }, kinds := [], alts := [], laidByText := true, laidKinds := [.data, .data, .data, .data, .sentinel, .sentinel, .pinned], laidTests := true, laidLooks := .later }
def BookPostsCardSaid : Prop := Claim7.holds Tryz.pinned (.plain (OpenSpec.ofChange bookPostsSpec)) bookPostsCard

/-- THE TIED CARD OF 'linoleumlaw09.BookPostings'. -/
def bookPostingsCard : Claim7 := { stood := { row := bookPostingsRow, standIns := [], harness := (true, "96a42cab4c546472faf06ac2025e45111811b22ce48d02d582d9e6dd472ab64c"), looks := true }, kinds := [], alts := [], laidByText := true, laidKinds := [.data, .data, .data, .data, .sentinel, .sentinel, .pinned], laidTests := true, laidLooks := .later }
def BookPostingsCardSaid : Prop := Claim7.holds Tryz.pinned (.plain (OpenSpec.ofChange bookPostingsSpec)) bookPostingsCard

/-- THE TIED CARD OF 'linoleumlaw09.BookDiscounts'. -/
def bookDiscountsCard : Claim7 := { stood := { row := bookDiscountsRow, standIns := [], harness := (true, "96a42cab4c546472faf06ac2025e45111811b22ce48d02d582d9e6dd472ab64c"), looks := true }, kinds := [], alts := [], laidByText := true, laidKinds := [.data, .data, .data, .data, .sentinel, .sentinel, .pinned], laidTests := true, laidLooks := .later }
def BookDiscountsCardSaid : Prop := Claim7.holds Tryz.pinned (.plain (OpenSpec.ofChange bookDiscountsSpec)) bookDiscountsCard

/-- THE TIED CARD OF 'linoleumtop.TopBooks'. -/
def topBooksCard : Claim7 := { stood := { row := topBooksRow, standIns := [], harness := (true, "96a42cab4c546472faf06ac2025e45111811b22ce48d02d582d9e6dd472ab64c"), looks := true }, kinds := [], alts := [], laidByText := true, laidKinds := [.data, .data, .data, .data, .sentinel, .sentinel, .pinned], laidTests := true, laidLooks := .later }
def TopBooksCardSaid : Prop := Claim7.holds Tryz.pinned (.plain (OpenSpec.ofChange topBooksSpec)) topBooksCard

/-- THE SECOND FORM's CARD OF 'linoleumlaw09.BookSums'. -/
def bookSumsUptoCard : Claim7 := { stood := { row := bookSumsUptoRow, standIns := [], harness := (true, "96a42cab4c546472faf06ac2025e45111811b22ce48d02d582d9e6dd472ab64c"), looks := true }, kinds := [], alts := [], laidByText := true, laidKinds := [.data, .data, .data, .data, .sentinel, .sentinel, .pinned], laidTests := true, laidLooks := .later }
def BookSumsUptoCardSaid : Prop := Claim7.holds Tryz.pinned (.plain (OpenSpec.upto bookSumsSpec)) bookSumsUptoCard

/-- THE SECOND FORM's CARD OF 'linoleumlaw09.BookReads'. -/
def bookReadsUptoCard : Claim7 := { stood := { row := bookReadsUptoRow, standIns := [], harness := (true, "96a42cab4c546472faf06ac2025e45111811b22ce48d02d582d9e6dd472ab64c"), looks := true }, kinds := [], alts := [], laidByText := true, laidKinds := [.data, .data, .data, .data, .sentinel, .sentinel, .pinned], laidTests := true, laidLooks := .later }
def BookReadsUptoCardSaid : Prop := Claim7.holds Tryz.pinned (.plain (OpenSpec.upto bookReadsSpec)) bookReadsUptoCard

/-- THE SECOND FORM's CARD OF 'linoleumlaw09.BookAppends'. -/
def bookAppendsUptoCard : Claim7 := { stood := { row := bookAppendsUptoRow, standIns := [], harness := (true, "96a42cab4c546472faf06ac2025e45111811b22ce48d02d582d9e6dd472ab64c"), looks := true }, kinds := [], alts := [], laidByText := true, laidKinds := [.data, .data, .data, .data, .sentinel, .sentinel, .pinned], laidTests := true, laidLooks := .later }
def BookAppendsUptoCardSaid : Prop := Claim7.holds Tryz.pinned (.plain (OpenSpec.upto bookAppendsSpec)) bookAppendsUptoCard

/-- THE SECOND FORM's CARD OF 'linoleumlaw09.BookFinds'. -/
def bookFindsUptoCard : Claim7 := { stood := { row := bookFindsUptoRow, standIns := [], harness := (true, "96a42cab4c546472faf06ac2025e45111811b22ce48d02d582d9e6dd472ab64c"), looks := true }, kinds := [], alts := [], laidByText := true, laidKinds := [.data, .data, .data, .data, .sentinel, .sentinel, .pinned], laidTests := true, laidLooks := .later }
def BookFindsUptoCardSaid : Prop := Claim7.holds Tryz.pinned (.plain (OpenSpec.upto bookFindsSpec)) bookFindsUptoCard

/-- THE SECOND FORM's CARD OF 'linoleumlaw09.BookCompares'. -/
def bookComparesUptoCard : Claim7 := { stood := { row := bookComparesUptoRow, standIns := [], harness := (true, "96a42cab4c546472faf06ac2025e45111811b22ce48d02d582d9e6dd472ab64c"), looks := true }, kinds := [], alts := [], laidByText := true, laidKinds := [.data, .data, .data, .data, .sentinel, .sentinel, .pinned], laidTests := true, laidLooks := .later }
def BookComparesUptoCardSaid : Prop := Claim7.holds Tryz.pinned (.plain (OpenSpec.upto bookComparesSpec)) bookComparesUptoCard

/-- THE SECOND FORM's CARD OF 'linoleumlaw09.BookCrashes'. -/
def bookCrashesUptoCard : Claim7 := { stood := { row := bookCrashesUptoRow, standIns := [], harness := (true, "96a42cab4c546472faf06ac2025e45111811b22ce48d02d582d9e6dd472ab64c"), looks := true }, kinds := [], alts := [], laidByText := true, laidKinds := [.data, .data, .data, .data, .sentinel, .sentinel, .pinned], laidTests := true, laidLooks := .later }
def BookCrashesUptoCardSaid : Prop := Claim7.holds Tryz.pinned (.plain (OpenSpec.upto bookCrashesSpec)) bookCrashesUptoCard

/-- THE SECOND FORM's CARD OF 'linoleumlaw09.BookCopies'. -/
def bookCopiesUptoCard : Claim7 := { stood := { row := bookCopiesUptoRow, standIns := [], harness := (true, "96a42cab4c546472faf06ac2025e45111811b22ce48d02d582d9e6dd472ab64c"), looks := true }, kinds := [], alts := [], laidByText := true, laidKinds := [.data, .data, .data, .data, .sentinel, .sentinel, .pinned], laidTests := true, laidLooks := .later }
def BookCopiesUptoCardSaid : Prop := Claim7.holds Tryz.pinned (.plain (OpenSpec.upto bookCopiesSpec)) bookCopiesUptoCard

/-- THE SECOND FORM's CARD OF 'linoleumlaw09.BookBalances'. -/
def bookBalancesUptoCard : Claim7 := { stood := { row := bookBalancesUptoRow, standIns := [], harness := (true, "96a42cab4c546472faf06ac2025e45111811b22ce48d02d582d9e6dd472ab64c"), looks := true }, kinds := [], alts := [], laidByText := true, laidKinds := [.data, .data, .data, .data, .sentinel, .sentinel, .pinned], laidTests := true, laidLooks := .later }
def BookBalancesUptoCardSaid : Prop := Claim7.holds Tryz.pinned (.plain (OpenSpec.upto bookBalancesSpec)) bookBalancesUptoCard

/-- THE SECOND FORM's CARD OF 'linoleumlaw09.BookPosts'. -/
def bookPostsUptoCard : Claim7 := { stood := { row := bookPostsUptoRow, standIns := [], harness := (true, "96a42cab4c546472faf06ac2025e45111811b22ce48d02d582d9e6dd472ab64c"), looks := true }, kinds := [], alts := [], laidByText := true, laidKinds := [.data, .data, .data, .data, .sentinel, .sentinel, .pinned], laidTests := true, laidLooks := .later }
def BookPostsUptoCardSaid : Prop := Claim7.holds Tryz.pinned (.plain (OpenSpec.upto bookPostsSpec)) bookPostsUptoCard

/-- THE SECOND FORM's CARD OF 'linoleumlaw09.BookPostings'. -/
def bookPostingsUptoCard : Claim7 := { stood := { row := bookPostingsUptoRow, standIns := [], harness := (true, "96a42cab4c546472faf06ac2025e45111811b22ce48d02d582d9e6dd472ab64c"), looks := true }, kinds := [], alts := [], laidByText := true, laidKinds := [.data, .data, .data, .data, .sentinel, .sentinel, .pinned], laidTests := true, laidLooks := .later }
def BookPostingsUptoCardSaid : Prop := Claim7.holds Tryz.pinned (.plain (OpenSpec.upto bookPostingsSpec)) bookPostingsUptoCard

/-- THE SECOND FORM's CARD OF 'linoleumlaw09.BookDiscounts'. -/
def bookDiscountsUptoCard : Claim7 := { stood := { row := bookDiscountsUptoRow, standIns := [], harness := (true, "96a42cab4c546472faf06ac2025e45111811b22ce48d02d582d9e6dd472ab64c"), looks := true }, kinds := [], alts := [], laidByText := true, laidKinds := [.data, .data, .data, .data, .sentinel, .sentinel, .pinned], laidTests := true, laidLooks := .later }
def BookDiscountsUptoCardSaid : Prop := Claim7.holds Tryz.pinned (.plain (OpenSpec.upto bookDiscountsSpec)) bookDiscountsUptoCard

/-- THE SECOND FORM's CARD OF 'linoleumtop.TopBooks'. -/
def topBooksUptoCard : Claim7 := { stood := { row := topBooksUptoRow, standIns := [], harness := (true, "96a42cab4c546472faf06ac2025e45111811b22ce48d02d582d9e6dd472ab64c"), looks := true }, kinds := [], alts := [], laidByText := true, laidKinds := [.data, .data, .data, .data, .sentinel, .sentinel, .pinned], laidTests := true, laidLooks := .later }
def TopBooksUptoCardSaid : Prop := Claim7.holds Tryz.pinned (.plain (OpenSpec.upto topBooksSpec)) topBooksUptoCard
end Rows
end Go.Proofs.YtcljpklgpedolaaGreatDoor
