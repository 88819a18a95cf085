/-
  DERIVED. GIVEN WITH THE SEED: THE CARDS: each row of YtpbdchcocadnkaaDoorRows.lean that lists a variable, with what it lists TIED to the program's text (the seventh form; the later family's looks); each row that meets fmt, with fmt's text TOLD by the authors' own Lean function (tested against real Go, not proved from fmt's source: count such statements apart). THE CARD IS WHAT COUNTS. Prove the row's statement (the work); the ties are given (YtpbdchcocadnkaaDoorTie.lean); close each card by the builder's one call (the guide's Derived/Test/ToyasCard.lean, 'card_holds'). Laid BY PROGRAM, IN A SANDBOX (cutbox-door.mjs). By AI agents, Wed Nov 11 2026. No macro, syntax, notation, axiom, sorry.
-/
import Derived.Test.YtpbdchcocadnkaaDoorRows
import GoSem.ClaimSeven
namespace Go.Proofs.YtpbdchcocadnkaaDoor
namespace Rows

/-- THE TIED CARD OF 'munimentlaw4.KeyBytes'. -/
def keyBytesCard : Claim7 := { stood := { row := keyBytesRow, standIns := [], harness := (true, "5ccd6139d20c665c954e206f2a8dd0b9b35600349ef4ee488f67ff4aaed52cf5"), looks := true }, kinds := [], alts := [], laidByText := true, laidKinds := [.data, .pinned], laidTests := true, laidLooks := .later }
def KeyBytesCardSaid : Prop := Claim7.holds Tryd.pinned (.plain (OpenSpec.ofChange keyBytesSpec)) keyBytesCard

/-- THE TIED CARD OF 'munimentlaw4.KeyBeyond'. -/
def keyBeyondCard : Claim7 := { stood := { row := keyBeyondRow, standIns := [], harness := (true, "5ccd6139d20c665c954e206f2a8dd0b9b35600349ef4ee488f67ff4aaed52cf5"), looks := true }, kinds := [], alts := [], laidByText := true, laidKinds := [.data, .pinned], laidTests := true, laidLooks := .later }
def KeyBeyondCardSaid : Prop := Claim7.holds Tryd.pinned (.plain (OpenSpec.ofChange keyBeyondSpec)) keyBeyondCard

/-- THE TIED CARD OF 'munimentlaw4.KeyPrefix'. -/
def keyPrefixCard : Claim7 := { stood := { row := keyPrefixRow, standIns := [], harness := (true, "5ccd6139d20c665c954e206f2a8dd0b9b35600349ef4ee488f67ff4aaed52cf5"), looks := true }, kinds := [], alts := [], laidByText := true, laidKinds := [.data, .pinned], laidTests := true, laidLooks := .later }
def KeyPrefixCardSaid : Prop := Claim7.holds Tryd.pinned (.plain (OpenSpec.ofChange keyPrefixSpec)) keyPrefixCard

/-- THE SECOND FORM's CARD OF 'munimentlaw4.KeyBytes'. -/
def keyBytesUptoCard : Claim7 := { stood := { row := keyBytesUptoRow, standIns := [], harness := (true, "5ccd6139d20c665c954e206f2a8dd0b9b35600349ef4ee488f67ff4aaed52cf5"), looks := true }, kinds := [], alts := [], laidByText := true, laidKinds := [.data, .pinned], laidTests := true, laidLooks := .later }
def KeyBytesUptoCardSaid : Prop := Claim7.holds Tryd.pinned (.plain (OpenSpec.upto keyBytesSpec)) keyBytesUptoCard

/-- THE SECOND FORM's CARD OF 'munimentlaw4.KeyBeyond'. -/
def keyBeyondUptoCard : Claim7 := { stood := { row := keyBeyondUptoRow, standIns := [], harness := (true, "5ccd6139d20c665c954e206f2a8dd0b9b35600349ef4ee488f67ff4aaed52cf5"), looks := true }, kinds := [], alts := [], laidByText := true, laidKinds := [.data, .pinned], laidTests := true, laidLooks := .later }
def KeyBeyondUptoCardSaid : Prop := Claim7.holds Tryd.pinned (.plain (OpenSpec.upto keyBeyondSpec)) keyBeyondUptoCard

/-- THE SECOND FORM's CARD OF 'munimentlaw4.KeyPrefix'. -/
def keyPrefixUptoCard : Claim7 := { stood := { row := keyPrefixUptoRow, standIns := [], harness := (true, "5ccd6139d20c665c954e206f2a8dd0b9b35600349ef4ee488f67ff4aaed52cf5"), looks := true }, kinds := [], alts := [], laidByText := true, laidKinds := [.data, .pinned], laidTests := true, laidLooks := .later }
def KeyPrefixUptoCardSaid : Prop := Claim7.holds Tryd.pinned (.plain (OpenSpec.upto keyPrefixSpec)) keyPrefixUptoCard
end Rows
end Go.Proofs.YtpbdchcocadnkaaDoor
