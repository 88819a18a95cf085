/-
  DERIVED. GIVEN WITH THE SEED: THE CARDS: each row of YtmojfhleelhghaaDoorRows.lean that lists a variable, with what it lists TIED to the program's text (the seventh form; the later family's looks); each row that meets fmt, with fmt's text TOLD by the authors' own Lean function (tested against real Go, not proved from fmt's source: count such statements apart). THE CARD IS WHAT COUNTS. Prove the row's statement (the work); the ties are given (YtmojfhleelhghaaDoorTie.lean); close each card by the builder's one call (the guide's Derived/Test/ToyasCard.lean, 'card_holds'). Laid BY PROGRAM, IN A SANDBOX (cutbox-door.mjs). By AI agents, Wed Nov 11 2026. No macro, syntax, notation, axiom, sorry.
-/
import Derived.Test.YtmojfhleelhghaaDoorRows
import GoSem.ClaimSeven
namespace Go.Proofs.YtmojfhleelhghaaDoor
namespace Rows

/-- THE TIED CARD OF 'munimentlaw5.PageKnown'. -/
def pageKnownCard : Claim7 := { stood := { row := pageKnownRow, standIns := [], harness := (true, "8b40ba5e2f402f9faaef137c4eef077b8d892d7209a6d4809a702c1a557398e1"), looks := false }, kinds := [], alts := [], laidByText := true, laidKinds := [.data], laidTests := true, laidLooks := .later }
def PageKnownCardSaid : Prop := Claim7.holds Tryd.pinned (.plain (OpenSpec.ofChange pageKnownSpec)) pageKnownCard

/-- THE TIED CARD OF 'munimentlaw5.PageParts'. -/
def pagePartsCard : Claim7 := { stood := { row := pagePartsRow, standIns := [], harness := (true, "8b40ba5e2f402f9faaef137c4eef077b8d892d7209a6d4809a702c1a557398e1"), looks := false }, kinds := [], alts := [], laidByText := true, laidKinds := [.data], laidTests := true, laidLooks := .later }
def PagePartsCardSaid : Prop := Claim7.holds Tryd.pinned (.plain (OpenSpec.ofChange pagePartsSpec)) pagePartsCard

/-- THE TIED CARD OF 'munimentlaw5.PageSeals'. -/
def pageSealsCard : Claim7 := { stood := { row := pageSealsRow, standIns := [], harness := (true, "8b40ba5e2f402f9faaef137c4eef077b8d892d7209a6d4809a702c1a557398e1"), looks := false }, kinds := [], alts := [], laidByText := true, laidKinds := [.data], laidTests := true, laidLooks := .later }
def PageSealsCardSaid : Prop := Claim7.holds Tryd.pinned (.plain (OpenSpec.ofChange pageSealsSpec)) pageSealsCard

/-- THE TIED CARD OF 'munimentlaw5.PageKept'. -/
def pageKeptCard : Claim7 := { stood := { row := pageKeptRow, standIns := [], harness := (true, "8b40ba5e2f402f9faaef137c4eef077b8d892d7209a6d4809a702c1a557398e1"), looks := false }, kinds := [], alts := [], laidByText := true, laidKinds := [.data], laidTests := true, laidLooks := .later }
def PageKeptCardSaid : Prop := Claim7.holds Tryd.pinned (.plain (OpenSpec.ofChange pageKeptSpec)) pageKeptCard

/-- THE TIED CARD OF 'munimentlaw5.PageHeads'. -/
def pageHeadsCard : Claim7 := { stood := { row := pageHeadsRow, standIns := [], harness := (true, "8b40ba5e2f402f9faaef137c4eef077b8d892d7209a6d4809a702c1a557398e1"), looks := false }, kinds := [], alts := [], laidByText := true, laidKinds := [.data], laidTests := true, laidLooks := .later }
def PageHeadsCardSaid : Prop := Claim7.holds Tryd.pinned (.plain (OpenSpec.ofChange pageHeadsSpec)) pageHeadsCard

/-- THE SECOND FORM's CARD OF 'munimentlaw5.PageKnown'. -/
def pageKnownUptoCard : Claim7 := { stood := { row := pageKnownUptoRow, standIns := [], harness := (true, "8b40ba5e2f402f9faaef137c4eef077b8d892d7209a6d4809a702c1a557398e1"), looks := false }, kinds := [], alts := [], laidByText := true, laidKinds := [.data], laidTests := true, laidLooks := .later }
def PageKnownUptoCardSaid : Prop := Claim7.holds Tryd.pinned (.plain (OpenSpec.upto pageKnownSpec)) pageKnownUptoCard

/-- THE SECOND FORM's CARD OF 'munimentlaw5.PageParts'. -/
def pagePartsUptoCard : Claim7 := { stood := { row := pagePartsUptoRow, standIns := [], harness := (true, "8b40ba5e2f402f9faaef137c4eef077b8d892d7209a6d4809a702c1a557398e1"), looks := false }, kinds := [], alts := [], laidByText := true, laidKinds := [.data], laidTests := true, laidLooks := .later }
def PagePartsUptoCardSaid : Prop := Claim7.holds Tryd.pinned (.plain (OpenSpec.upto pagePartsSpec)) pagePartsUptoCard

/-- THE SECOND FORM's CARD OF 'munimentlaw5.PageSeals'. -/
def pageSealsUptoCard : Claim7 := { stood := { row := pageSealsUptoRow, standIns := [], harness := (true, "8b40ba5e2f402f9faaef137c4eef077b8d892d7209a6d4809a702c1a557398e1"), looks := false }, kinds := [], alts := [], laidByText := true, laidKinds := [.data], laidTests := true, laidLooks := .later }
def PageSealsUptoCardSaid : Prop := Claim7.holds Tryd.pinned (.plain (OpenSpec.upto pageSealsSpec)) pageSealsUptoCard

/-- THE SECOND FORM's CARD OF 'munimentlaw5.PageKept'. -/
def pageKeptUptoCard : Claim7 := { stood := { row := pageKeptUptoRow, standIns := [], harness := (true, "8b40ba5e2f402f9faaef137c4eef077b8d892d7209a6d4809a702c1a557398e1"), looks := false }, kinds := [], alts := [], laidByText := true, laidKinds := [.data], laidTests := true, laidLooks := .later }
def PageKeptUptoCardSaid : Prop := Claim7.holds Tryd.pinned (.plain (OpenSpec.upto pageKeptSpec)) pageKeptUptoCard

/-- THE SECOND FORM's CARD OF 'munimentlaw5.PageHeads'. -/
def pageHeadsUptoCard : Claim7 := { stood := { row := pageHeadsUptoRow, standIns := [], harness := (true, "8b40ba5e2f402f9faaef137c4eef077b8d892d7209a6d4809a702c1a557398e1"), looks := false }, kinds := [], alts := [], laidByText := true, laidKinds := [.data], laidTests := true, laidLooks := .later }
def PageHeadsUptoCardSaid : Prop := Claim7.holds Tryd.pinned (.plain (OpenSpec.upto pageHeadsSpec)) pageHeadsUptoCard
end Rows
end Go.Proofs.YtmojfhleelhghaaDoor
