/-
  DERIVED. GIVEN WITH THE SEED: THE CARDS: each row of YtflepcoiidaekaaDoorRows.lean that lists a variable, with what it lists TIED to the program's text (the seventh form; the later family's looks); each row that meets fmt, with fmt's text TOLD by the authors' own Lean function (tested against real Go, not proved from fmt's source: count such statements apart). THE CARD IS WHAT COUNTS. Prove the row's statement (the work); the ties are given (YtflepcoiidaekaaDoorTie.lean); close each card by the builder's one call (the guide's Derived/Test/ToyasCard.lean, 'card_holds'). Laid BY PROGRAM, IN A SANDBOX (cutbox-door.mjs). By AI agents, Wed Nov 11 2026. No macro, syntax, notation, axiom, sorry.
-/
import Derived.Test.YtflepcoiidaekaaDoorRows
import GoSem.ClaimSeven
namespace Go.Proofs.YtflepcoiidaekaaDoor
namespace Rows

/-- THE TIED CARD OF 'munimentlaw1.SumKnown'. -/
def sumKnownCard : Claim7 := { stood := { row := sumKnownRow, standIns := [], harness := (true, "5085c8c24168e57a138105cfeebea660252837fb4acefcc1764bba6245915a37"), looks := false }, kinds := [], alts := [], laidByText := true, laidKinds := [.data], laidTests := true, laidLooks := .later }
def SumKnownCardSaid : Prop := Claim7.holds Tryd.pinned (.plain (OpenSpec.ofChange sumKnownSpec)) sumKnownCard

/-- THE TIED CARD OF 'munimentlaw1.SumNumbers'. -/
def sumNumbersCard : Claim7 := { stood := { row := sumNumbersRow, standIns := [], harness := (true, "5085c8c24168e57a138105cfeebea660252837fb4acefcc1764bba6245915a37"), looks := false }, kinds := [], alts := [], laidByText := true, laidKinds := [.data], laidTests := true, laidLooks := .later }
def SumNumbersCardSaid : Prop := Claim7.holds Tryd.pinned (.plain (OpenSpec.ofChange sumNumbersSpec)) sumNumbersCard

/-- THE TIED CARD OF 'munimentlaw1.SumTells'. -/
def sumTellsCard : Claim7 := { stood := { row := sumTellsRow, standIns := [], harness := (true, "5085c8c24168e57a138105cfeebea660252837fb4acefcc1764bba6245915a37"), looks := false }, kinds := [], alts := [], laidByText := true, laidKinds := [.data], laidTests := true, laidLooks := .later }
def SumTellsCardSaid : Prop := Claim7.holds Tryd.pinned (.plain (OpenSpec.ofChange sumTellsSpec)) sumTellsCard

/-- THE TIED CARD OF 'munimentlaw1.SumKept'. -/
def sumKeptCard : Claim7 := { stood := { row := sumKeptRow, standIns := [], harness := (true, "5085c8c24168e57a138105cfeebea660252837fb4acefcc1764bba6245915a37"), looks := false }, kinds := [], alts := [], laidByText := true, laidKinds := [.data], laidTests := true, laidLooks := .later }
def SumKeptCardSaid : Prop := Claim7.holds Tryd.pinned (.plain (OpenSpec.ofChange sumKeptSpec)) sumKeptCard

/-- THE SECOND FORM's CARD OF 'munimentlaw1.SumKnown'. -/
def sumKnownUptoCard : Claim7 := { stood := { row := sumKnownUptoRow, standIns := [], harness := (true, "5085c8c24168e57a138105cfeebea660252837fb4acefcc1764bba6245915a37"), looks := false }, kinds := [], alts := [], laidByText := true, laidKinds := [.data], laidTests := true, laidLooks := .later }
def SumKnownUptoCardSaid : Prop := Claim7.holds Tryd.pinned (.plain (OpenSpec.upto sumKnownSpec)) sumKnownUptoCard

/-- THE SECOND FORM's CARD OF 'munimentlaw1.SumNumbers'. -/
def sumNumbersUptoCard : Claim7 := { stood := { row := sumNumbersUptoRow, standIns := [], harness := (true, "5085c8c24168e57a138105cfeebea660252837fb4acefcc1764bba6245915a37"), looks := false }, kinds := [], alts := [], laidByText := true, laidKinds := [.data], laidTests := true, laidLooks := .later }
def SumNumbersUptoCardSaid : Prop := Claim7.holds Tryd.pinned (.plain (OpenSpec.upto sumNumbersSpec)) sumNumbersUptoCard

/-- THE SECOND FORM's CARD OF 'munimentlaw1.SumTells'. -/
def sumTellsUptoCard : Claim7 := { stood := { row := sumTellsUptoRow, standIns := [], harness := (true, "5085c8c24168e57a138105cfeebea660252837fb4acefcc1764bba6245915a37"), looks := false }, kinds := [], alts := [], laidByText := true, laidKinds := [.data], laidTests := true, laidLooks := .later }
def SumTellsUptoCardSaid : Prop := Claim7.holds Tryd.pinned (.plain (OpenSpec.upto sumTellsSpec)) sumTellsUptoCard

/-- THE SECOND FORM's CARD OF 'munimentlaw1.SumKept'. -/
def sumKeptUptoCard : Claim7 := { stood := { row := sumKeptUptoRow, standIns := [], harness := (true, "5085c8c24168e57a138105cfeebea660252837fb4acefcc1764bba6245915a37"), looks := false }, kinds := [], alts := [], laidByText := true, laidKinds := [.data], laidTests := true, laidLooks := .later }
def SumKeptUptoCardSaid : Prop := Claim7.holds Tryd.pinned (.plain (OpenSpec.upto sumKeptSpec)) sumKeptUptoCard
end Rows
end Go.Proofs.YtflepcoiidaekaaDoor
